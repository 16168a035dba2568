import PyProof.Rows.All
import Wide.All
import OpenK.AllK
import Wide.FinOn
import Lean
import PyProof.EqAt
import PyProof.EqKinds
import PyProof.TupleCall
import PyProof.Rows.ListRangeD
import KE.LcSums
import KE.KRevSl
import PyProof.Rows.SetFrom
import PyProof.Rows.ListMulArg
import KE.KSortKey
import PySem.Challenge.RW_treeasks_k37_whole_a_sixth_of_the_bound
set_option Elab.async false
set_option linter.all false
set_option maxRecDepth 100000
set_option genSizeOf false
set_option maxHeartbeats 4000000
set_option exponentiation.threshold 9000
noncomputable section
theorem PySem.W.Fast.te12152836438692716962:True:=trivial
def PySem.W.Fast.tw12152836438692716962:Nat:=0
theorem PySem.W.Fast.te2493815600860253416:True:=trivial
def PySem.W.Fast.tw2493815600860253416:Nat:=0
def PySem.W.Fast.tw12481060327277901749:PySem.Program:=PySem.Challenge.pw_treeasks_k37_whole_a_sixth_of_the_bound
theorem PySem.W.Fast.te12481060327277901749:PySem.Challenge.pw_treeasks_k37_whole_a_sixth_of_the_bound=PySem.W.Fast.tw12481060327277901749:=rfl
def PySem.W.Fast.tw5574965175312345395:List PySem.Stmt:=((PySem.Challenge.pw_treeasks_k37_whole_a_sixth_of_the_bound.main.body.drop 48).take 14)
theorem PySem.W.Fast.te5574965175312345395:((PySem.Challenge.pw_treeasks_k37_whole_a_sixth_of_the_bound.main.body.drop 48).take 14)=PySem.W.Fast.tw5574965175312345395:=rfl
def PySem.W.Fast.tw13939279919118810212:List PySem.Stmt:=((PySem.Challenge.pw_treeasks_k37_whole_a_sixth_of_the_bound.main.body.drop 75).take 8)
theorem PySem.W.Fast.te13939279919118810212:((PySem.Challenge.pw_treeasks_k37_whole_a_sixth_of_the_bound.main.body.drop 75).take 8)=PySem.W.Fast.tw13939279919118810212:=rfl
def PySem.W.Fast.tw12176930530472258361:List PySem.Stmt:=((PySem.Challenge.pw_treeasks_k37_whole_a_sixth_of_the_bound.main.body.drop 62).take 13)
theorem PySem.W.Fast.te12176930530472258361:((PySem.Challenge.pw_treeasks_k37_whole_a_sixth_of_the_bound.main.body.drop 62).take 13)=PySem.W.Fast.tw12176930530472258361:=rfl
def PySem.W.Fast.tw12760424953561268704:List PySem.Stmt:=((PySem.Challenge.pw_treeasks_k37_whole_a_sixth_of_the_bound.main.body.drop 6).take 1)
theorem PySem.W.Fast.te12760424953561268704:((PySem.Challenge.pw_treeasks_k37_whole_a_sixth_of_the_bound.main.body.drop 6).take 1)=PySem.W.Fast.tw12760424953561268704:=rfl
def PySem.W.Fast.tw5949110663340443500:List PySem.Stmt:=((PySem.Challenge.pw_treeasks_k37_whole_a_sixth_of_the_bound.main.body.drop 3).take 1)
theorem PySem.W.Fast.te5949110663340443500:((PySem.Challenge.pw_treeasks_k37_whole_a_sixth_of_the_bound.main.body.drop 3).take 1)=PySem.W.Fast.tw5949110663340443500:=rfl
def PySem.W.Fast.tw6095572815599713428:List PySem.Stmt:=((PySem.Challenge.pw_treeasks_k37_whole_a_sixth_of_the_bound.main.body.drop 8).take 9)
theorem PySem.W.Fast.te6095572815599713428:((PySem.Challenge.pw_treeasks_k37_whole_a_sixth_of_the_bound.main.body.drop 8).take 9)=PySem.W.Fast.tw6095572815599713428:=rfl
def PySem.W.Fast.tw2198094969618303953:List PySem.Stmt:=((PySem.Challenge.pw_treeasks_k37_whole_a_sixth_of_the_bound.main.body.drop 0).take 2)
theorem PySem.W.Fast.te2198094969618303953:((PySem.Challenge.pw_treeasks_k37_whole_a_sixth_of_the_bound.main.body.drop 0).take 2)=PySem.W.Fast.tw2198094969618303953:=rfl
def PySem.W.Fast.tw7171727997499989806:List PySem.Stmt:=((PySem.Challenge.pw_treeasks_k37_whole_a_sixth_of_the_bound.main.body.drop 7).take 1)
theorem PySem.W.Fast.te7171727997499989806:((PySem.Challenge.pw_treeasks_k37_whole_a_sixth_of_the_bound.main.body.drop 7).take 1)=PySem.W.Fast.tw7171727997499989806:=rfl
def PySem.W.Fast.tw16430250466736746664:List PySem.Stmt:=((PySem.Challenge.pw_treeasks_k37_whole_a_sixth_of_the_bound.main.body.drop 5).take 1)
theorem PySem.W.Fast.te16430250466736746664:((PySem.Challenge.pw_treeasks_k37_whole_a_sixth_of_the_bound.main.body.drop 5).take 1)=PySem.W.Fast.tw16430250466736746664:=rfl
def PySem.W.Fast.tw16407646488579277495:List PySem.Stmt:=((PySem.Challenge.pw_treeasks_k37_whole_a_sixth_of_the_bound.main.body.drop 33).take 15)
theorem PySem.W.Fast.te16407646488579277495:((PySem.Challenge.pw_treeasks_k37_whole_a_sixth_of_the_bound.main.body.drop 33).take 15)=PySem.W.Fast.tw16407646488579277495:=rfl
def PySem.W.Fast.tw12612729942884142957:PySem.Program:=({ PySem.Challenge.pw_treeasks_k37_whole_a_sixth_of_the_bound with main:={ PySem.Challenge.pw_treeasks_k37_whole_a_sixth_of_the_bound.main with body:=(PySem.Challenge.pw_treeasks_k37_whole_a_sixth_of_the_bound.main.body.drop 1).take 8++(PySem.Challenge.pw_treeasks_k37_whole_a_sixth_of_the_bound.main.body.drop 10).take 4++(PySem.Challenge.pw_treeasks_k37_whole_a_sixth_of_the_bound.main.body.drop 15).take 7++(PySem.Challenge.pw_treeasks_k37_whole_a_sixth_of_the_bound.main.body.drop 23).take 5++(PySem.Challenge.pw_treeasks_k37_whole_a_sixth_of_the_bound.main.body.drop 29).take 7++(PySem.Challenge.pw_treeasks_k37_whole_a_sixth_of_the_bound.main.body.drop 37).take 6++(PySem.Challenge.pw_treeasks_k37_whole_a_sixth_of_the_bound.main.body.drop 44).take 3++(PySem.Challenge.pw_treeasks_k37_whole_a_sixth_of_the_bound.main.body.drop 48).take 8++(PySem.Challenge.pw_treeasks_k37_whole_a_sixth_of_the_bound.main.body.drop 57).take 7++(PySem.Challenge.pw_treeasks_k37_whole_a_sixth_of_the_bound.main.body.drop 65).take 5++(PySem.Challenge.pw_treeasks_k37_whole_a_sixth_of_the_bound.main.body.drop 71).take 12 } }:PySem.Program)
theorem PySem.W.Fast.te12612729942884142957:({ PySem.Challenge.pw_treeasks_k37_whole_a_sixth_of_the_bound with main:={ PySem.Challenge.pw_treeasks_k37_whole_a_sixth_of_the_bound.main with body:=(PySem.Challenge.pw_treeasks_k37_whole_a_sixth_of_the_bound.main.body.drop 1).take 8++(PySem.Challenge.pw_treeasks_k37_whole_a_sixth_of_the_bound.main.body.drop 10).take 4++(PySem.Challenge.pw_treeasks_k37_whole_a_sixth_of_the_bound.main.body.drop 15).take 7++(PySem.Challenge.pw_treeasks_k37_whole_a_sixth_of_the_bound.main.body.drop 23).take 5++(PySem.Challenge.pw_treeasks_k37_whole_a_sixth_of_the_bound.main.body.drop 29).take 7++(PySem.Challenge.pw_treeasks_k37_whole_a_sixth_of_the_bound.main.body.drop 37).take 6++(PySem.Challenge.pw_treeasks_k37_whole_a_sixth_of_the_bound.main.body.drop 44).take 3++(PySem.Challenge.pw_treeasks_k37_whole_a_sixth_of_the_bound.main.body.drop 48).take 8++(PySem.Challenge.pw_treeasks_k37_whole_a_sixth_of_the_bound.main.body.drop 57).take 7++(PySem.Challenge.pw_treeasks_k37_whole_a_sixth_of_the_bound.main.body.drop 65).take 5++(PySem.Challenge.pw_treeasks_k37_whole_a_sixth_of_the_bound.main.body.drop 71).take 12 } }:PySem.Program)=PySem.W.Fast.tw12612729942884142957:=rfl
def PySem.W.Fast.tw2144454018030269525:List PySem.Stmt:=((PySem.Challenge.pw_treeasks_k37_whole_a_sixth_of_the_bound.main.body.drop 4).take 1)
theorem PySem.W.Fast.te2144454018030269525:((PySem.Challenge.pw_treeasks_k37_whole_a_sixth_of_the_bound.main.body.drop 4).take 1)=PySem.W.Fast.tw2144454018030269525:=rfl
def PySem.W.Fast.tw16920183032643734808:List PySem.Stmt:=((PySem.Challenge.pw_treeasks_k37_whole_a_sixth_of_the_bound.main.body.drop 2).take 1)
theorem PySem.W.Fast.te16920183032643734808:((PySem.Challenge.pw_treeasks_k37_whole_a_sixth_of_the_bound.main.body.drop 2).take 1)=PySem.W.Fast.tw16920183032643734808:=rfl
def PySem.W.Fast.tw7574578097426415569:List PySem.Stmt:=((PySem.Challenge.pw_treeasks_k37_whole_a_sixth_of_the_bound.main.body.drop 17).take 16)
theorem PySem.W.Fast.te7574578097426415569:((PySem.Challenge.pw_treeasks_k37_whole_a_sixth_of_the_bound.main.body.drop 17).take 16)=PySem.W.Fast.tw7574578097426415569:=rfl
namespace Ob
noncomputable section
open PySem
open PySem.Str renaming ofString → S
open PySem.Value renaming str → v, ref → r, int → i, none → n
abbrev F := Params → Obj
noncomputable def d (P : Params) (s : Str) (t : Tok) (w : Value) : DictEntry := ⟨PyData.keyHash P s, .str s t, w⟩
noncomputable def g (k : Nat) (q : Str → Str) : FuncData := match PySem.Challenge.pw_treeasks_k37_whole_a_sixth_of_the_bound.main.body[k]? with
  | some (.FunctionDef a b c _ _ _ s _ _ _) => ⟨a,q a,b,.stmts c,s,0,[],n,n,n,n,none,n,n,0⟩
  | some (.ClassDef _ _ _ (.FunctionDef a b c _ _ _ s _ _ _ :: _) _ _ _ _ _ _ _) => ⟨a,q a,b,.stmts c,s,0,[],n,n,n,n,none,n,n,0⟩
  | _ => default
noncomputable def x (k : Nat) : F := fun _ => ⟨n,none,.func (g k id),#[]⟩
noncomputable def X (k : Nat) (q : Str) : F := fun _ => ⟨n,none,.func (g k fun _ => q),#[]⟩
noncomputable def y (k : Nat) (m c : Value) : F := fun _ => ⟨.type "function",none,.func { g k id with globals := 3, pyModule := m, code := c },#[]⟩
noncomputable def Y (k : Nat) (q : Str) (m c : Value) : F := fun _ => ⟨.type "function",none,.func { g k (fun _ => q) with globals := 3, pyModule := m, code := c },#[]⟩
noncomputable def u (l : List Value) : F := fun _ => ⟨.type "tuple",none,.seq l.toArray 0,#[]⟩
noncomputable def z (l : List Value) : F := fun _ => ⟨n,none,.fields l.toArray,#[]⟩
noncomputable def V (s : String) (t : Tok) : Value := v (S s) t
noncomputable def q (s : String) (t1 t2 t3 : Tok) (l a b c e : Int) (r1 : Addr) (m : Int) (r2 r3 r4 r5 : Addr) (t : Int) (t4 : Tok) : F := fun _ => ⟨.type "code",none,.fields #[v (S s) t1,v (S s) t2,v (S "/claim/cut.py") t3,i l 0,i a 0,i b 0,i c 0,i e 0,r r1,.bool true,i m 0,r r2,n,r r3,r r4,r r5,i t 0,i l 0,v (S "/claim/cut.py") t4],#[]⟩
noncomputable def k (l : List Value) : F := fun _ => ⟨.type "code",none,.fields l.toArray,#[]⟩
noncomputable def w (f : F) (a b : Params → W.BT) : Params → W.BT := fun P => .node (f P) (a P) (b P)
noncomputable def e : Params → W.BT := fun _ => .nil
noncomputable def o (f : F) : Params → W.BT := w f e e
noncomputable def ha(p0:String)(p1:Nat)(p2:String):F:=u [(V p0 p1),(V p2 (p1+1))]
noncomputable def hb(p0:String)(p1:Nat)(p2:String)(p3:String):F:=u [(V p0 p1),(V p2 (p1+1)),(V p3 (p1+2))]
noncomputable def hc(p0:String)(p1:Nat)(p2:String)(p3:String)(p4:String)(p5:String):F:=u [(V p0 p1),(V p2 (p1+1)),(V p3 (p1+2)),(V p4 (p1+3)),(V p5 (p1+4))]
noncomputable def hd(p0:String)(p1:Nat)(p2:Int)(p3:Nat)(p4:Int):F:=k [(V p0 p1),(V p0 (p1+1)),(V "/claim/cut.py" (p1+2)),(i p2 0),(i 0 0),(i 0 0),(i 0 0),(i 0 0),(r p3),(.bool .false),(i 181 0),(r (p3+1)),n,n,n,n,(i p4 0),(i p2 0),(V "/claim/cut.py" (p1+4))]
noncomputable def he(p0:Nat)(p1:Nat)(p2:String)(p3:Nat):F:=fun P=>⟨(.type "frame"),none,.plain,#[(some (r p0)),(some (r 3)),(some (r p1)),none,(some (V p2 p3)),none,(some (r 0))]⟩
noncomputable def hf(p0:Nat):F:=fun P=>⟨(.type "builtin_function_or_method"),none,(.fields #[(.builtin "object.__init_subclass__"),(r p0)]),#[]⟩
noncomputable def hg(p0:Nat):F:=fun P=>⟨(.type "super"),none,(.fields #[(r p0),(r p0),(r p0)]),#[]⟩
noncomputable def hh(p0:String)(p1:Nat)(p2:Int)(p3:Int)(p4:Nat)(p5:Int):F:=k [(V p0 p1),(V p0 (p1+1)),(V "/claim/cut.py" (p1+2)),(i p2 0),(i p3 0),(i 0 0),(i 0 0),(i 3 0),(r p4),(.bool .true),(i 181 0),(r (p4+1)),n,n,n,(r (p4+2)),(i p5 0),(i p2 0),(V "/claim/cut.py" (p1+4))]
noncomputable def hi(p0:String)(p1:Nat)(p2:Nat)(p3:Nat)(p4:Nat):F:=fun P=>⟨(.type "type"),none,(.cls ⟨(S p0),[(r 24)],[(r p1),(r 24),(.type "ValueError"),(.type "Exception"),(.type "BaseException"),(.type "object")],p2,(S p0),.true,[],[],.false,none,.false⟩),#[(some (r p3)),none,(some (V p0 p4)),(some (V p0 (p4+8))),(some (.builtin "ValueError.__new__")),(some (.bool .true))]⟩
noncomputable def hj(p0:Nat)(p1:Int)(p2:String)(p3:Nat)(p4:Nat)(p5:String)(p6:Nat)(p7:Nat)(p8:Nat):F:=fun P=>⟨(.type "dict"),none,(.dict #[(d P (S "__module__") p0 (v (S "treeasks.errors") 187)),(d P (S "__firstlineno__") (p0+4) (i p1 (p0+3))),(d P (S p2) p3 (r p4)),(d P (S p5) p6 (r p7)),(d P (S "__doc__") (p6+1) n)] p8),#[]⟩
noncomputable def hk(p0:Nat)(p1:String)(p2:Nat):F:=Y p0 (S p1) (V "treeasks.errors" 187) (r p2)
noncomputable def hl(p0:Int)(p1:Nat):F:=z [(i p0 0),(i 4 0),(r p1)]
noncomputable def hm(p0:Nat)(p1:String)(p2:Int)(p3:Int)(p4:Nat)(p5:Int)(p6:Nat):F:=k [(V "__init__" p0),(V p1 (p0+1)),(V "/claim/cut.py" (p0+2)),(i p2 0),(i p3 0),(i 0 0),(i 0 0),(i 3 0),(r p4),(.bool .true),(i 181 0),(r (p4+1)),n,(r (p4+2)),(r (p4+3)),(r (p4+4)),(i p5 0),(i p2 0),(V "/claim/cut.py" p6)]
noncomputable def hn(p0:Nat)(p1:String)(p2:Int)(p3:Nat)(p4:Nat)(p5:Nat):F:=fun P=>⟨(.type "dict"),none,(.dict #[(d P (S "__module__") p0 (v (S "treeasks.errors") 187)),(d P (S "__qualname__") (p0+2) (v (S p1) (p0+1))),(d P (S "__firstlineno__") (p0+4) (i p2 (p0+3))),(d P (S "__init__") p3 (r p4)),(d P (S "__static_attributes__") p5 (r (p4+1)))] 5),#[]⟩
noncomputable def ho(p0:String)(p1:Nat)(p2:String)(p3:String)(p4:String):F:=u [(V p0 p1),(V p2 (p1+1)),(V p3 (p1+2)),(V p4 (p1+3))]
noncomputable def hp(p0:Nat)(p1:String)(p2:Int)(p3:Nat):F:=fun P=>⟨(.type "dict"),none,(.dict #[(d P (S "__module__") p0 (v (S "treeasks.errors") 187)),(d P (S "__qualname__") (p0+2) (v (S p1) (p0+1))),(d P (S "__firstlineno__") (p0+4) (i p2 (p0+3))),(d P (S "__static_attributes__") (p0+5) (r p3))] 4),#[]⟩
noncomputable def hq(p0:Nat)(p1:Int)(p2:Nat):F:=fun P=>⟨(.type "dict"),none,(.dict #[(d P (S "__module__") p0 (v (S "treeasks.errors") 187)),(d P (S "__firstlineno__") (p0+4) (i p1 (p0+3))),(d P (S "__static_attributes__") (p0+5) (r p2)),(d P (S "__doc__") (p0+6) n)] 2),#[]⟩
noncomputable def zl:List (Nat×Nat×Nat)→List Value
  | []=>[]
  | (a,b,c)::t=>i (Int.ofNat a) 0::i (Int.ofNat b) 0::r c::zl t
def zz:List Value:=zl [(2,0,20),(4,0,33),(10,0,52),(15,0,71),(20,0,90),(25,0,109),(30,0,128),(32,0,140),(35,0,152),(37,0,159),(39,0,166),(43,0,173),(53,0,180),(60,0,187),(70,0,194),(76,0,201),(78,0,208),(84,0,215),(89,0,222),(97,0,229),(106,0,236),(108,0,243),(110,0,250),(112,0,257),(114,0,262),(119,0,269),(122,0,276),(126,0,283),(133,0,290),(137,0,297),(139,0,304),(143,0,309),(148,0,316),(150,0,323),(160,0,328),(165,0,335),(174,0,342),(177,0,349),(181,0,354),(183,0,361),(185,0,368),(191,0,375),(196,0,380),(201,0,387),(206,0,394),(210,0,399),(214,0,406),(217,0,413),(229,0,420),(238,0,427),(243,0,434),(245,0,439),(252,0,446),(256,0,451),(263,0,458),(267,0,465),(273,0,472),(283,0,479)]
def A64:F:=fun P=>⟨(.type "dict"),none,(.dict #[(d P (S "__name__") 165 (v (S "treeasks.errors") 187)),(d P (S "__doc__") 166 n),(d P (S "__package__") 167 n),(d P (S "__loader__") 168 (.builtin "__main__.__loader__#opaque")),(d P (S "__spec__") 169 n),(d P (S "__annotations__") 170 (r 6)),(d P (S "__builtins__") 171 (r 4)),(d P (S "__file__") 173 (v (S "/claim/cut.py") 172)),(d P (S "__cached__") 174 n),(d P (S "AskError") 206 (r 24)),(d P (S "NoTree") 233 (r 44))] 11),#[]⟩
def a0k:F:=fun P=>⟨(.type "type"),none,(.cls ⟨(S "AskError"),[(.type "ValueError")],[(r 24),(.type "ValueError"),(.type "Exception"),(.type "BaseException"),(.type "object")],23,(S "AskError"),.true,[],[(r 44)],.false,none,.false⟩),#[(some (r 15)),none,(some (V "AskError" 189)),(some (V "AskError" 197)),(some (.builtin "ValueError.__new__")),(some (.bool .true))]⟩
def a0m:F:=z [(i 2 0),(i 0 0),(r 20),(i 4 0),(i 0 0),(r 33)]
def A86:F:=fun P=>⟨(.type "dict"),none,(.dict #[(d P (S "__name__") 165 (v (S "treeasks.errors") 187)),(d P (S "__doc__") 166 n),(d P (S "__package__") 167 n),(d P (S "__loader__") 168 (.builtin "__main__.__loader__#opaque")),(d P (S "__spec__") 169 n),(d P (S "__annotations__") 170 (r 6)),(d P (S "__builtins__") 171 (r 4)),(d P (S "__file__") 173 (v (S "/claim/cut.py") 172)),(d P (S "__cached__") 174 n),(d P (S "AskError") 206 (r 24)),(d P (S "NoTree") 233 (r 44)),(d P (S "NoAsks") 258 (r 63))] 12),#[]⟩
def a1c:F:=fun P=>⟨(.type "type"),none,(.cls ⟨(S "AskError"),[(.type "ValueError")],[(r 24),(.type "ValueError"),(.type "Exception"),(.type "BaseException"),(.type "object")],23,(S "AskError"),.true,[],[(r 44),(r 63)],.false,none,.false⟩),#[(some (r 15)),none,(some (V "AskError" 189)),(some (V "AskError" 197)),(some (.builtin "ValueError.__new__")),(some (.bool .true))]⟩
def a1e:F:=z [(i 2 0),(i 0 0),(r 20),(i 4 0),(i 0 0),(r 33),(i 10 0),(i 0 0),(r 52)]
def A108:F:=fun P=>⟨(.type "dict"),none,(.dict #[(d P (S "__name__") 165 (v (S "treeasks.errors") 187)),(d P (S "__doc__") 166 n),(d P (S "__package__") 167 n),(d P (S "__loader__") 168 (.builtin "__main__.__loader__#opaque")),(d P (S "__spec__") 169 n),(d P (S "__annotations__") 170 (r 6)),(d P (S "__builtins__") 171 (r 4)),(d P (S "__file__") 173 (v (S "/claim/cut.py") 172)),(d P (S "__cached__") 174 n),(d P (S "AskError") 206 (r 24)),(d P (S "NoTree") 233 (r 44)),(d P (S "NoAsks") 258 (r 63)),(d P (S "NoKeep") 283 (r 82))] 13),#[]⟩
def a1v:F:=fun P=>⟨(.type "type"),none,(.cls ⟨(S "AskError"),[(.type "ValueError")],[(r 24),(.type "ValueError"),(.type "Exception"),(.type "BaseException"),(.type "object")],23,(S "AskError"),.true,[],[(r 44),(r 63),(r 82)],.false,none,.false⟩),#[(some (r 15)),none,(some (V "AskError" 189)),(some (V "AskError" 197)),(some (.builtin "ValueError.__new__")),(some (.bool .true))]⟩
def a1x:F:=z [(i 2 0),(i 0 0),(r 20),(i 4 0),(i 0 0),(r 33),(i 10 0),(i 0 0),(r 52),(i 15 0),(i 0 0),(r 71)]
def A130:F:=fun P=>⟨(.type "dict"),none,(.dict #[(d P (S "__name__") 165 (v (S "treeasks.errors") 187)),(d P (S "__doc__") 166 n),(d P (S "__package__") 167 n),(d P (S "__loader__") 168 (.builtin "__main__.__loader__#opaque")),(d P (S "__spec__") 169 n),(d P (S "__annotations__") 170 (r 6)),(d P (S "__builtins__") 171 (r 4)),(d P (S "__file__") 173 (v (S "/claim/cut.py") 172)),(d P (S "__cached__") 174 n),(d P (S "AskError") 206 (r 24)),(d P (S "NoTree") 233 (r 44)),(d P (S "NoAsks") 258 (r 63)),(d P (S "NoKeep") 283 (r 82)),(d P (S "NoPrices") 308 (r 101))] 14),#[]⟩
def a2h:F:=fun P=>⟨(.type "type"),none,(.cls ⟨(S "AskError"),[(.type "ValueError")],[(r 24),(.type "ValueError"),(.type "Exception"),(.type "BaseException"),(.type "object")],23,(S "AskError"),.true,[],[(r 44),(r 63),(r 82),(r 101)],.false,none,.false⟩),#[(some (r 15)),none,(some (V "AskError" 189)),(some (V "AskError" 197)),(some (.builtin "ValueError.__new__")),(some (.bool .true))]⟩
def a2j:F:=z [(i 2 0),(i 0 0),(r 20),(i 4 0),(i 0 0),(r 33),(i 10 0),(i 0 0),(r 52),(i 15 0),(i 0 0),(r 71),(i 20 0),(i 0 0),(r 90)]
def A152:F:=fun P=>⟨(.type "dict"),none,(.dict #[(d P (S "__name__") 165 (v (S "treeasks.errors") 187)),(d P (S "__doc__") 166 n),(d P (S "__package__") 167 n),(d P (S "__loader__") 168 (.builtin "__main__.__loader__#opaque")),(d P (S "__spec__") 169 n),(d P (S "__annotations__") 170 (r 6)),(d P (S "__builtins__") 171 (r 4)),(d P (S "__file__") 173 (v (S "/claim/cut.py") 172)),(d P (S "__cached__") 174 n),(d P (S "AskError") 206 (r 24)),(d P (S "NoTree") 233 (r 44)),(d P (S "NoAsks") 258 (r 63)),(d P (S "NoKeep") 283 (r 82)),(d P (S "NoPrices") 308 (r 101)),(d P (S "NoShare") 333 (r 120))] 15),#[]⟩
def a31:F:=fun P=>⟨(.type "type"),none,(.cls ⟨(S "AskError"),[(.type "ValueError")],[(r 24),(.type "ValueError"),(.type "Exception"),(.type "BaseException"),(.type "object")],23,(S "AskError"),.true,[],[(r 44),(r 63),(r 82),(r 101),(r 120)],.false,none,.false⟩),#[(some (r 15)),none,(some (V "AskError" 189)),(some (V "AskError" 197)),(some (.builtin "ValueError.__new__")),(some (.bool .true))]⟩
def a34:F:=z [(i 2 0),(i 0 0),(r 20),(i 4 0),(i 0 0),(r 33),(i 10 0),(i 0 0),(r 52),(i 15 0),(i 0 0),(r 71),(i 20 0),(i 0 0),(r 90),(i 25 0),(i 0 0),(r 109)]
def A174:F:=fun P=>⟨(.type "dict"),none,(.dict #[(d P (S "__name__") 165 (v (S "treeasks.errors") 187)),(d P (S "__doc__") 166 n),(d P (S "__package__") 167 n),(d P (S "__loader__") 168 (.builtin "__main__.__loader__#opaque")),(d P (S "__spec__") 169 n),(d P (S "__annotations__") 170 (r 6)),(d P (S "__builtins__") 171 (r 4)),(d P (S "__file__") 173 (v (S "/claim/cut.py") 172)),(d P (S "__cached__") 174 n),(d P (S "AskError") 206 (r 24)),(d P (S "NoTree") 233 (r 44)),(d P (S "NoAsks") 258 (r 63)),(d P (S "NoKeep") 283 (r 82)),(d P (S "NoPrices") 308 (r 101)),(d P (S "NoShare") 333 (r 120)),(d P (S "NoNumber") 349 (r 132))] 16),#[]⟩
def a3j:F:=fun P=>⟨(.type "type"),none,(.cls ⟨(S "AskError"),[(.type "ValueError")],[(r 24),(.type "ValueError"),(.type "Exception"),(.type "BaseException"),(.type "object")],23,(S "AskError"),.true,[],[(r 44),(r 63),(r 82),(r 101),(r 120),(r 132)],.false,none,.false⟩),#[(some (r 15)),none,(some (V "AskError" 189)),(some (V "AskError" 197)),(some (.builtin "ValueError.__new__")),(some (.bool .true))]⟩
def a3k:F:=z [(i 2 0),(i 0 0),(r 20),(i 4 0),(i 0 0),(r 33),(i 10 0),(i 0 0),(r 52),(i 15 0),(i 0 0),(r 71),(i 20 0),(i 0 0),(r 90),(i 25 0),(i 0 0),(r 109),(i 30 0),(i 0 0),(r 128)]
def A189:F:=fun P=>⟨(.type "dict"),none,(.dict #[(d P (S "__name__") 165 (v (S "treeasks.trees") 401)),(d P (S "__doc__") 166 n),(d P (S "__package__") 167 n),(d P (S "__loader__") 168 (.builtin "__main__.__loader__#opaque")),(d P (S "__spec__") 169 n),(d P (S "__annotations__") 170 (r 6)),(d P (S "__builtins__") 171 (r 4)),(d P (S "__file__") 173 (v (S "/claim/cut.py") 172)),(d P (S "__cached__") 174 n),(d P (S "AskError") 206 (r 24)),(d P (S "NoTree") 233 (r 44)),(d P (S "NoAsks") 258 (r 63)),(d P (S "NoKeep") 283 (r 82)),(d P (S "NoPrices") 308 (r 101)),(d P (S "NoShare") 333 (r 120)),(d P (S "NoNumber") 349 (r 132)),(d P (S "NoPlace") 365 (r 144)),(d P (S "is_whole") 374 (r 153)),(d P (S "is_between") 383 (r 160)),(d P (S "greatest_common") 391 (r 167)),(d P (S "is_fraction") 400 (r 174)),(d P (S "MOST_TIES") 404 (i 23 403)),(d P (S "MOST_ROOM") 406 (i 1000000 405))] 23),#[]⟩
def a4c:F:=fun P=>⟨(.type "type"),none,(.cls ⟨(S "AskError"),[(.type "ValueError")],[(r 24),(.type "ValueError"),(.type "Exception"),(.type "BaseException"),(.type "object")],23,(S "AskError"),.true,[],[(r 44),(r 63),(r 82),(r 101),(r 120),(r 132),(r 144)],.false,none,.false⟩),#[(some (r 15)),none,(some (V "AskError" 189)),(some (V "AskError" 197)),(some (.builtin "ValueError.__new__")),(some (.bool .true))]⟩
def a4g:F:=z (zz.take 36)
def A232:F:=fun P=>⟨(.type "dict"),none,(.dict #[(d P (S "__name__") 165 (v (S "treeasks.fractions") 484)),(d P (S "__doc__") 166 n),(d P (S "__package__") 167 n),(d P (S "__loader__") 168 (.builtin "__main__.__loader__#opaque")),(d P (S "__spec__") 169 n),(d P (S "__annotations__") 170 (r 6)),(d P (S "__builtins__") 171 (r 4)),(d P (S "__file__") 173 (v (S "/claim/cut.py") 172)),(d P (S "__cached__") 174 n),(d P (S "AskError") 206 (r 24)),(d P (S "NoTree") 233 (r 44)),(d P (S "NoAsks") 258 (r 63)),(d P (S "NoKeep") 283 (r 82)),(d P (S "NoPrices") 308 (r 101)),(d P (S "NoShare") 333 (r 120)),(d P (S "NoNumber") 349 (r 132)),(d P (S "NoPlace") 365 (r 144)),(d P (S "is_whole") 374 (r 153)),(d P (S "is_between") 383 (r 160)),(d P (S "greatest_common") 391 (r 167)),(d P (S "is_fraction") 400 (r 174)),(d P (S "MOST_TIES") 404 (i 23 403)),(d P (S "MOST_ROOM") 406 (i 1000000 405)),(d P (S "has_two_lists") 415 (r 181)),(d P (S "look_at_tree") 427 (r 188)),(d P (S "depths") 436 (r 195)),(d P (S "is_place") 444 (r 202)),(d P (S "are_ends") 453 (r 209)),(d P (S "MOST_ASKS") 457 (i 30 456)),(d P (S "MOST_SIZE") 459 (i 1000000 458)),(d P (S "MOST_WORTH") 461 (i 1000000000000 460)),(d P (S "is_ask") 473 (r 216)),(d P (S "look_at_asks") 483 (r 223)),(d P (S "fraction") 494 (r 230)),(d P (S "plus") 502 (r 237)),(d P (S "minus") 510 (r 244)),(d P (S "times") 518 (r 251))] 37),#[]⟩
def a69:F:=z (zz.take 69)
def A311:F:=fun P=>⟨(.type "dict"),none,(.dict #[(d P (S "__name__") 165 (v (S "treeasks.keeps") 625)),(d P (S "__doc__") 166 n),(d P (S "__package__") 167 n),(d P (S "__loader__") 168 (.builtin "__main__.__loader__#opaque")),(d P (S "__spec__") 169 n),(d P (S "__annotations__") 170 (r 6)),(d P (S "__builtins__") 171 (r 4)),(d P (S "__file__") 173 (v (S "/claim/cut.py") 172)),(d P (S "__cached__") 174 n),(d P (S "AskError") 206 (r 24)),(d P (S "NoTree") 233 (r 44)),(d P (S "NoAsks") 258 (r 63)),(d P (S "NoKeep") 283 (r 82)),(d P (S "NoPrices") 308 (r 101)),(d P (S "NoShare") 333 (r 120)),(d P (S "NoNumber") 349 (r 132)),(d P (S "NoPlace") 365 (r 144)),(d P (S "is_whole") 374 (r 153)),(d P (S "is_between") 383 (r 160)),(d P (S "greatest_common") 391 (r 167)),(d P (S "is_fraction") 400 (r 174)),(d P (S "MOST_TIES") 404 (i 23 403)),(d P (S "MOST_ROOM") 406 (i 1000000 405)),(d P (S "has_two_lists") 415 (r 181)),(d P (S "look_at_tree") 427 (r 188)),(d P (S "depths") 436 (r 195)),(d P (S "is_place") 444 (r 202)),(d P (S "are_ends") 453 (r 209)),(d P (S "MOST_ASKS") 457 (i 30 456)),(d P (S "MOST_SIZE") 459 (i 1000000 458)),(d P (S "MOST_WORTH") 461 (i 1000000000000 460)),(d P (S "is_ask") 473 (r 216)),(d P (S "look_at_asks") 483 (r 223)),(d P (S "fraction") 494 (r 230)),(d P (S "plus") 502 (r 237)),(d P (S "minus") 510 (r 244)),(d P (S "times") 518 (r 251)),(d P (S "parted") 526 (r 258)),(d P (S "sum_of") 532 (r 263)),(d P (S "under") 540 (r 270)),(d P (S "look_at_ends") 551 (r 277)),(d P (S "climb") 562 (r 284)),(d P (S "way_between") 573 (r 291)),(d P (S "way_of") 581 (r 298)),(d P (S "meeting_of") 592 (r 305)),(d P (S "tops_between") 598 (r 310)),(d P (S "is_price") 607 (r 317)),(d P (S "look_at_prices") 618 (r 324)),(d P (S "spare_of") 624 (r 329))] 49),#[]⟩
def a8f:F:=z (zz.take 105)
def A391:F:=fun P=>⟨(.type "dict"),none,(.dict #[(d P (S "__name__") 165 (v (S "treeasks.rules") 702)),(d P (S "__doc__") 166 n),(d P (S "__package__") 167 n),(d P (S "__loader__") 168 (.builtin "__main__.__loader__#opaque")),(d P (S "__spec__") 169 n),(d P (S "__annotations__") 170 (r 6)),(d P (S "__builtins__") 171 (r 4)),(d P (S "__file__") 173 (v (S "/claim/cut.py") 172)),(d P (S "__cached__") 174 n),(d P (S "AskError") 206 (r 24)),(d P (S "NoTree") 233 (r 44)),(d P (S "NoAsks") 258 (r 63)),(d P (S "NoKeep") 283 (r 82)),(d P (S "NoPrices") 308 (r 101)),(d P (S "NoShare") 333 (r 120)),(d P (S "NoNumber") 349 (r 132)),(d P (S "NoPlace") 365 (r 144)),(d P (S "is_whole") 374 (r 153)),(d P (S "is_between") 383 (r 160)),(d P (S "greatest_common") 391 (r 167)),(d P (S "is_fraction") 400 (r 174)),(d P (S "MOST_TIES") 404 (i 23 403)),(d P (S "MOST_ROOM") 406 (i 1000000 405)),(d P (S "has_two_lists") 415 (r 181)),(d P (S "look_at_tree") 427 (r 188)),(d P (S "depths") 436 (r 195)),(d P (S "is_place") 444 (r 202)),(d P (S "are_ends") 453 (r 209)),(d P (S "MOST_ASKS") 457 (i 30 456)),(d P (S "MOST_SIZE") 459 (i 1000000 458)),(d P (S "MOST_WORTH") 461 (i 1000000000000 460)),(d P (S "is_ask") 473 (r 216)),(d P (S "look_at_asks") 483 (r 223)),(d P (S "fraction") 494 (r 230)),(d P (S "plus") 502 (r 237)),(d P (S "minus") 510 (r 244)),(d P (S "times") 518 (r 251)),(d P (S "parted") 526 (r 258)),(d P (S "sum_of") 532 (r 263)),(d P (S "under") 540 (r 270)),(d P (S "look_at_ends") 551 (r 277)),(d P (S "climb") 562 (r 284)),(d P (S "way_between") 573 (r 291)),(d P (S "way_of") 581 (r 298)),(d P (S "meeting_of") 592 (r 305)),(d P (S "tops_between") 598 (r 310)),(d P (S "is_price") 607 (r 317)),(d P (S "look_at_prices") 618 (r 324)),(d P (S "spare_of") 624 (r 329)),(d P (S "look_at_keep") 638 (r 336)),(d P (S "lay_on") 648 (r 343)),(d P (S "load_with") 658 (r 350)),(d P (S "over_on") 664 (r 355)),(d P (S "over_with") 673 (r 362)),(d P (S "loads") 684 (r 369)),(d P (S "first_over") 695 (r 376)),(d P (S "worth_of") 701 (r 381)),(d P (S "MOST_COMMON_ROOM") 705 (i 60 704)),(d P (S "common_room") 713 (r 388)),(d P (S "look_at_most") 723 (r 395)),(d P (S "deepest_first") 729 (r 400)),(d P (S "raise_tops") 740 (r 407))] 62),#[]⟩
def aal:F:=z (zz.take 141)
def A471:F:=fun P=>⟨(.type "dict"),none,(.dict #[(d P (S "__name__") 165 (v (S "law_treeasks_k37_whole_a_sixth_of_the_bound") 810)),(d P (S "__doc__") 166 n),(d P (S "__package__") 167 n),(d P (S "__loader__") 168 (.builtin "__main__.__loader__#opaque")),(d P (S "__spec__") 169 n),(d P (S "__annotations__") 170 (r 6)),(d P (S "__builtins__") 171 (r 4)),(d P (S "__file__") 173 (v (S "/claim/cut.py") 172)),(d P (S "__cached__") 174 n),(d P (S "AskError") 206 (r 24)),(d P (S "NoTree") 233 (r 44)),(d P (S "NoAsks") 258 (r 63)),(d P (S "NoKeep") 283 (r 82)),(d P (S "NoPrices") 308 (r 101)),(d P (S "NoShare") 333 (r 120)),(d P (S "NoNumber") 349 (r 132)),(d P (S "NoPlace") 365 (r 144)),(d P (S "is_whole") 374 (r 153)),(d P (S "is_between") 383 (r 160)),(d P (S "greatest_common") 391 (r 167)),(d P (S "is_fraction") 400 (r 174)),(d P (S "MOST_TIES") 404 (i 23 403)),(d P (S "MOST_ROOM") 406 (i 1000000 405)),(d P (S "has_two_lists") 415 (r 181)),(d P (S "look_at_tree") 427 (r 188)),(d P (S "depths") 436 (r 195)),(d P (S "is_place") 444 (r 202)),(d P (S "are_ends") 453 (r 209)),(d P (S "MOST_ASKS") 457 (i 30 456)),(d P (S "MOST_SIZE") 459 (i 1000000 458)),(d P (S "MOST_WORTH") 461 (i 1000000000000 460)),(d P (S "is_ask") 473 (r 216)),(d P (S "look_at_asks") 483 (r 223)),(d P (S "fraction") 494 (r 230)),(d P (S "plus") 502 (r 237)),(d P (S "minus") 510 (r 244)),(d P (S "times") 518 (r 251)),(d P (S "parted") 526 (r 258)),(d P (S "sum_of") 532 (r 263)),(d P (S "under") 540 (r 270)),(d P (S "look_at_ends") 551 (r 277)),(d P (S "climb") 562 (r 284)),(d P (S "way_between") 573 (r 291)),(d P (S "way_of") 581 (r 298)),(d P (S "meeting_of") 592 (r 305)),(d P (S "tops_between") 598 (r 310)),(d P (S "is_price") 607 (r 317)),(d P (S "look_at_prices") 618 (r 324)),(d P (S "spare_of") 624 (r 329)),(d P (S "look_at_keep") 638 (r 336)),(d P (S "lay_on") 648 (r 343)),(d P (S "load_with") 658 (r 350)),(d P (S "over_on") 664 (r 355)),(d P (S "over_with") 673 (r 362)),(d P (S "loads") 684 (r 369)),(d P (S "first_over") 695 (r 376)),(d P (S "worth_of") 701 (r 381)),(d P (S "MOST_COMMON_ROOM") 705 (i 60 704)),(d P (S "common_room") 713 (r 388)),(d P (S "look_at_most") 723 (r 395)),(d P (S "deepest_first") 729 (r 400)),(d P (S "raise_tops") 740 (r 407)),(d P (S "pile_up") 755 (r 414)),(d P (S "keep_from_last") 767 (r 421)),(d P (S "room_for_all") 778 (r 428)),(d P (S "is_wide") 786 (r 435)),(d P (S "keep_mixed") 792 (r 440)),(d P (S "mixed_spare") 803 (r 447)),(d P (S "mixed_bound") 809 (r 452)),(d P (S "_law_cell_at") 819 (r 459)),(d P (S "_law_pool") 829 (r 466)),(d P (S "_law_take") 840 (r 473)),(d P (S "_law_alike") 851 (r 480))] 73),#[]⟩
def acq:F:=z (zz.take 174)
lay_quick Ob.A64
noncomputable def od : List F → List F
  | a::_::l=>a::od l
  | l=>l
noncomputable def ev : List F → List F
  | _::b::l=>b::ev l
  | _=>[]
noncomputable def bt : Nat → List F → Params → W.BT
  | k+1,f::l=>w f (bt k (od l)) (bt k (ev l))
  | _,_=>e
open W in
def lL (Q P0 P1:F):List F:=[boot_o_0,boot_o_1,boot_o_2,Q,boot_o_4,boot_o_5,boot_o_6,boot_o_7,boot_o_8,boot_o_9,boot_o_10,u [],P0,hd "<module>" 182 1 11 185,he 13 3 "__main__" 164,u [(.type "ValueError")],(fun P=>⟨(.type "builtin_function_or_method"),none,(.fields #[(.builtin "type.__prepare__"),(.type "type")]),#[]⟩),hp 196 "AskError" 2 22,u [],z [],hd "AskError" 191 2 18 194,he 20 17 "treeasks.errors" 187,u [],hj 196 2 "__static_attributes__" 201 22 "__weakref__" 203 25 3,P1,(fun P=>⟨(.type "getset_descriptor"),none,(.fields #[(V "__weakref__" 202),(r 24),(.builtin "ExceptionGroup.__weakref__"),n]),#[]⟩),hg 24,hf 24,u [(r 24)],(fun P=>⟨(.type "builtin_function_or_method"),none,(.fields #[(.builtin "type.__prepare__"),(.type "type")]),#[]⟩),hn 214 "NoTree" 4 227 41 230,u [],hl 6 40,hd "NoTree" 209 4 31 212,he 33 30 "treeasks.errors" 187,u [],z [],hb "self" 222 "part" "number",u [],X 2 (S "NoTree.__init__"),hm 219 "NoTree.__init__" 6 3 35 225 226,hk 2 "NoTree.__init__" 40,ha "number" 228 "part",hj 214 4 "__init__" 227 41 "__static_attributes__" 230 42 2,hi "NoTree" 44 43 28 207,hg 44,hf 44,u [(r 24)],(fun P=>⟨(.type "builtin_function_or_method"),none,(.fields #[(.builtin "type.__prepare__"),(.type "type")]),#[]⟩),hn 241 "NoAsks" 10 253 60 255,u [],hl 12 59,hd "NoAsks" 236 10 50 239,he 52 49 "treeasks.errors" 187,u [],z [],ha "self" 249 "number",u [],X 3 (S "NoAsks.__init__"),hm 246 "NoAsks.__init__" 12 2 54 251 252,hk 3 "NoAsks.__init__" 59,u [(V "number" 254)],hj 241 10 "__init__" 253 60 "__static_attributes__" 255 61 2,hi "NoAsks" 63 62 47 234,hg 63,hf 63,u [(r 24)],(fun P=>⟨(.type "builtin_function_or_method"),none,(.fields #[(.builtin "type.__prepare__"),(.type "type")]),#[]⟩),hn 266 "NoKeep" 15 278 79 280,u [],hl 17 78,hd "NoKeep" 261 15 69 264,he 71 68 "treeasks.errors" 187,u [],z [],ha "self" 274 "number",u [],X 4 (S "NoKeep.__init__"),hm 271 "NoKeep.__init__" 17 2 73 276 277,hk 4 "NoKeep.__init__" 78,u [(V "number" 279)],hj 266 15 "__init__" 278 79 "__static_attributes__" 280 80 2,hi "NoKeep" 82 81 66 259,hg 82,hf 82,u [(r 24)],(fun P=>⟨(.type "builtin_function_or_method"),none,(.fields #[(.builtin "type.__prepare__"),(.type "type")]),#[]⟩),hn 291 "NoPrices" 20 303 98 305,u [],hl 22 97,hd "NoPrices" 286 20 88 289,he 90 87 "treeasks.errors" 187,u [],z [],ha "self" 299 "number",u [],X 5 (S "NoPrices.__init__"),hm 296 "NoPrices.__init__" 22 2 92 301 302,hk 5 "NoPrices.__init__" 97,u [(V "number" 304)],hj 291 20 "__init__" 303 98 "__static_attributes__" 305 99 2,hi "NoPrices" 101 100 85 284,hg 101,hf 101,u [(r 24)],(fun P=>⟨(.type "builtin_function_or_method"),none,(.fields #[(.builtin "type.__prepare__"),(.type "type")]),#[]⟩),hn 316 "NoShare" 25 328 117 330,u [],hl 27 116,hd "NoShare" 311 25 107 314,he 109 106 "treeasks.errors" 187,u [],z [],ha "self" 324 "number",u [],X 6 (S "NoShare.__init__"),hm 321 "NoShare.__init__" 27 2 111 326 327,hk 6 "NoShare.__init__" 116,u [(V "number" 329)],hj 316 25 "__init__" 328 117 "__static_attributes__" 330 118 2,hi "NoShare" 120 119 104 309,hg 120,hf 120,u [(r 24)],(fun P=>⟨(.type "builtin_function_or_method"),none,(.fields #[(.builtin "type.__prepare__"),(.type "type")]),#[]⟩),hp 341 "NoNumber" 30 130,u [],z [],hd "NoNumber" 336 30 126 339,he 128 125 "treeasks.errors" 187,u [],hq 341 30 130,hi "NoNumber" 132 131 123 334,hg 132,hf 132,u [(r 24)],(fun P=>⟨(.type "builtin_function_or_method"),none,(.fields #[(.builtin "type.__prepare__"),(.type "type")]),#[]⟩),hp 357 "NoPlace" 32 142,u [],z [],hd "NoPlace" 352 32 138 355,he 140 137 "treeasks.errors" 187,u [],hq 357 32 142,hi "NoPlace" 144 143 135 350,hg 144,hf 144,u [],z [],u [(V "thing" 371)],u [],x 10,q "is_whole" 368 369 370 35 1 0 0 3 147 181 148 149 150 151 372 373,y 10 (V "treeasks.numbers" 366) (r 152),u [],z [],hb "thing" 378 "least" "most",u [],x 11,q "is_between" 375 376 377 37 3 0 0 3 154 181 155 156 157 158 381 382,y 11 (V "treeasks.numbers" 366) (r 159),u [],z [],ha "number" 387 "bottom",u [],x 12,q "greatest_common" 384 385 386 39 2 0 0 3 161 181 162 163 164 165 389 390,y 12 (V "treeasks.numbers" 366) (r 166),u [],z [],hb "thing" 395 "top" "bottom",u [],x 13,q "is_fraction" 392 393 394 43 1 0 0 3 168 181 169 170 171 172 398 399,y 13 (V "treeasks.numbers" 366) (r 173),u [],z [],hb "thing" 410 "parents" "rooms",u [],x 17,q "has_two_lists" 407 408 409 53 1 0 0 3 175 181 176 177 178 179 413 414,y 17 (V "treeasks.trees" 401) (r 180),u [],z [],u [(V "thing" 419),(V "parents" 420),(V "rooms" 421),(V "number" 422),(V "parent" 423),(V "room" 424)],u [],x 18,q "look_at_tree" 416 417 418 60 1 0 0 3 182 181 183 184 185 186 425 426,y 18 (V "treeasks.trees" 401) (r 187),u [],z [],hb "tree" 431 "found" "parent",u [],x 19,q "depths" 428 429 430 70 1 0 0 3 189 181 190 191 192 193 434 435,y 19 (V "treeasks.trees" 401) (r 194),u [],z [],ha "tree" 440 "thing",u [],x 20,q "is_place" 437 438 439 76 2 0 0 3 196 181 197 198 199 200 442 443,y 20 (V "treeasks.trees" 401) (r 201),u [],z [],hb "tree" 448 "one" "other",u [],x 21,q "are_ends" 445 446 447 78 3 0 0 3 203 181 204 205 206 207 451 452,y 21 (V "treeasks.trees" 401) (r 208),u [],z [],u [(V "tree" 465),(V "thing" 466),(V "one" 467),(V "other" 468),(V "size" 469),(V "worth" 470)],u [],x 26,q "is_ask" 462 463 464 84 2 0 0 3 210 181 211 212 213 214 471 472,y 26 (V "treeasks.asks" 454) (r 215),u [],z [],ho "tree" 477 "thing" "number" "ask",u [],x 27,q "look_at_asks" 474 475 476 89 2 0 0 3 217 181 218 219 220 221 481 482,y 27 (V "treeasks.asks" 454) (r 222),u [],z [],hb "top" 489 "bottom" "common",u [],x 29,q "fraction" 486 487 488 97 2 0 0 3 224 181 225 226 227 228 492 493,y 29 (V "treeasks.fractions" 484) (r 229),u [],z [],ha "one" 498 "other",u [],x 30,q "plus" 495 496 497 106 2 0 0 3 231 181 232 233 234 235 500 501,y 30 (V "treeasks.fractions" 484) (r 236),u [],z [],ha "one" 506 "other",u [],x 31,q "minus" 503 504 505 108 2 0 0 3 238 181 239 240 241 242 508 509,y 31 (V "treeasks.fractions" 484) (r 243),u [],z [],ha "one" 514 "other",u [],x 32,q "times" 511 512 513 110 2 0 0 3 245 181 246 247 248 249 516 517,y 32 (V "treeasks.fractions" 484) (r 250),u [],z [],ha "one" 522 "other",u [],x 33,q "parted" 519 520 521 112 2 0 0 3 252 181 253 254 255 256 524 525,y 33 (V "treeasks.fractions" 484) (r 257),u [],z [],x 34,hh "sum_of" 527 114 1 259 530,y 34 (V "treeasks.fractions" 484) (r 262),u [],z [],ha "one" 536 "other",u [],x 35,q "under" 533 534 535 119 2 0 0 3 264 181 265 266 267 268 538 539,y 35 (V "treeasks.fractions" 484) (r 269),u [],z [],hb "tree" 546 "one" "other",u [],x 37,q "look_at_ends" 543 544 545 122 3 0 0 3 271 181 272 273 274 275 549 550,y 37 (V "treeasks.ways" 541) (r 276),u [],z [],hc "tree" 555 "one" "other" "way" "low",u [],x 38,q "climb" 552 553 554 126 3 0 0 3 278 181 279 280 281 282 560 561,y 38 (V "treeasks.ways" 541) (r 283),u [],z [],hc "tree" 566 "one" "other" "way" "meeting",u [],x 39,q "way_between" 563 564 565 133 3 0 0 3 285 181 286 287 288 289 571 572,y 39 (V "treeasks.ways" 541) (r 290),u [],z [],ha "tree" 577 "ask",u [],x 40,q "way_of" 574 575 576 137 2 0 0 3 292 181 293 294 295 296 579 580,y 40 (V "treeasks.ways" 541) (r 297),u [],z [],hc "tree" 585 "one" "other" "way" "meeting",u [],x 41,q "meeting_of" 582 583 584 139 3 0 0 3 299 181 300 301 302 303 590 591,y 41 (V "treeasks.ways" 541) (r 304),u [],z [],x 42,hh "tops_between" 593 143 3 306 596,y 42 (V "treeasks.ways" 541) (r 309),u [],z [],u [(V "thing" 604)],u [],x 44,q "is_price" 601 602 603 148 1 0 0 3 311 181 312 313 314 315 605 606,y 44 (V "treeasks.prices" 599) (r 316),u [],z [],hc "tree" 611 "thing" "ties" "number" "price",u [],x 45,q "look_at_prices" 608 609 610 150 2 0 0 3 318 181 319 320 321 322 616 617,y 45 (V "treeasks.prices" 599) (r 323),u [],z [],x 46,hh "spare_of" 619 160 4 325 622,y 46 (V "treeasks.prices" 599) (r 328),u [],z [],u [(V "tree" 630),(V "asks" 631),(V "thing" 632),(V "least" 633),(V "place" 634),(V "number" 635)],u [],x 48,q "look_at_keep" 627 628 629 165 3 0 0 3 330 181 331 332 333 334 636 637,y 48 (V "treeasks.keeps" 625) (r 335),u [],z [],ho "ask" 642 "way" "load" "tie",u [],x 49,q "lay_on" 639 640 641 174 3 0 0 3 337 181 338 339 340 341 646 647,y 49 (V "treeasks.keeps" 625) (r 342),u [],z [],ho "tree" 652 "ask" "load" "found",u [],x 50,q "load_with" 649 650 651 177 3 0 0 3 344 181 345 346 347 348 656 657,y 50 (V "treeasks.keeps" 625) (r 349),u [],z [],x 51,hh "over_on" 659 181 4 351 662,y 51 (V "treeasks.keeps" 625) (r 354),u [],z [],hb "tree" 668 "ask" "load",u [],x 52,q "over_with" 665 666 667 183 3 0 0 3 356 181 357 358 359 360 671 672,y 52 (V "treeasks.keeps" 625) (r 361),u [],z [],hc "tree" 677 "asks" "keep" "found" "number",u [],x 53,q "loads" 674 675 676 185 3 0 0 3 363 181 364 365 366 367 682 683,y 53 (V "treeasks.keeps" 625) (r 368),u [],z [],hc "tree" 688 "asks" "keep" "number" "load",u [],x 54,q "first_over" 685 686 687 191 3 0 0 3 370 181 371 372 373 374 693 694,y 54 (V "treeasks.keeps" 625) (r 375),u [],z [],x 55,hh "worth_of" 696 196 3 377 699,y 55 (V "treeasks.keeps" 625) (r 380),u [],z [],ha "tree" 709 "room",u [],x 58,q "common_room" 706 707 708 201 1 0 0 3 382 181 383 384 385 386 711 712,y 58 (V "treeasks.rules" 702) (r 387),u [],z [],ho "asks" 717 "most" "number" "ask",u [],x 59,q "look_at_most" 714 715 716 206 2 0 0 3 389 181 390 391 392 393 721 722,y 59 (V "treeasks.rules" 702) (r 394),u [],z [],x 60,hh "deepest_first" 724 210 2 396 727,y 60 (V "treeasks.rules" 702) (r 399),u [],z [],hc "tree" 733 "ask" "prices" "step" "tie",u [],x 61,q "raise_tops" 730 731 732 214 4 0 0 3 401 181 402 403 404 405 738 739,y 61 (V "treeasks.rules" 702) (r 406),u [],z [],u [(V "tree" 744),(V "asks" 745),(V "terms" 746),(V "prices" 747),(V "rests" 748),(V "pile" 749),(V "number" 750),(V "weight" 751),(V "part" 752)],u [],x 62,q "pile_up" 741 742 743 217 3 0 0 3 408 181 409 410 411 412 753 754,y 62 (V "treeasks.rules" 702) (r 413),u [],z [],u [(V "tree" 759),(V "asks" 760),(V "pile" 761),(V "load" 762),(V "keep" 763),(V "number" 764)],u [],x 63,q "keep_from_last" 756 757 758 229 3 0 0 3 415 181 416 417 418 419 765 766,y 63 (V "treeasks.rules" 702) (r 420),u [],z [],hb "tree" 773 "asks" "room",u [],x 65,q "room_for_all" 770 771 772 238 2 0 0 3 422 181 423 424 425 426 776 777,y 65 (V "treeasks.mixed" 768) (r 427),u [],z [],ha "room" 782 "ask",u [],x 66,q "is_wide" 779 780 781 243 2 0 0 3 429 181 430 431 432 433 784 785,y 66 (V "treeasks.mixed" 768) (r 434),u [],z [],x 67,hh "keep_mixed" 787 245 2 436 790,y 67 (V "treeasks.mixed" 768) (r 439),u [],z [],hc "tree" 796 "room" "ask" "pieces" "units",u [],x 68,q "mixed_spare" 793 794 795 252 5 0 0 3 441 181 442 443 444 445 801 802,y 68 (V "treeasks.mixed" 768) (r 446),u [],z [],x 69,hh "mixed_bound" 804 256 4 448 807,y 69 (V "treeasks.mixed" 768) (r 451),u [],z [],ha "_law_script" 815 "_law_k",u [],x 71,q "_law_cell_at" 812 813 814 263 2 0 0 3 453 181 454 455 456 457 817 818,y 71 (V "law_treeasks_k37_whole_a_sixth_of_the_bound" 810) (r 458),u [],z [],ho "_law_script" 823 "_law_k" "_law_cell" "_law_mixed",u [],x 72,q "_law_pool" 820 821 822 267 2 0 0 3 460 181 461 462 463 464 827 828,y 72 (V "law_treeasks_k37_whole_a_sixth_of_the_bound" 810) (r 465),u [],z [],hc "_law_pool_here" 833 "_law_many" "_law_found" "_law_made" "_law_turn",u [],x 73,q "_law_take" 830 831 832 273 2 0 0 3 467 181 468 469 470 471 838 839,y 73 (V "law_treeasks_k37_whole_a_sixth_of_the_bound" 810) (r 472),u [],z [],hc "_law_pool_here" 844 "_law_most" "_law_way_here" "_law_parents" "_law_k",u [],x 74,q "_law_alike" 841 842 843 283 2 0 0 3 474 181 475 476 477 478 849 850,y 74 (V "law_treeasks_k37_whole_a_sixth_of_the_bound" 810) (r 479)]
def Ttree_85 (Q : F) : Params → W.BT := bt 11 ((lL Q a0m a0k).take 47)
def _root_.PySem.W.Fast.tw16462139115604593809 : Params → W.BT := Ttree_85 PySem.W.Fast.tw6963075612888702905
theorem _root_.PySem.W.Fast.te16462139115604593809 : Ttree_85 Ob.A64 = PySem.W.Fast.tw16462139115604593809 := (congrArg Ttree_85 PySem.W.Fast.te6963075612888702905)
lay_quick Ob.A86
def Ttree_107 (Q : F) : Params → W.BT := bt 11 ((lL Q a1e a1c).take 66)
def _root_.PySem.W.Fast.tw7273359256618702959 : Params → W.BT := Ttree_107 PySem.W.Fast.tw11147188043990879120
theorem _root_.PySem.W.Fast.te7273359256618702959 : Ttree_107 Ob.A86 = PySem.W.Fast.tw7273359256618702959 := (congrArg Ttree_107 PySem.W.Fast.te11147188043990879120)
lay_quick Ob.A108
def Ttree_129 (Q : F) : Params → W.BT := bt 11 ((lL Q a1x a1v).take 85)
def _root_.PySem.W.Fast.tw11820203734476468315 : Params → W.BT := Ttree_129 PySem.W.Fast.tw4549916873101738619
theorem _root_.PySem.W.Fast.te11820203734476468315 : Ttree_129 Ob.A108 = PySem.W.Fast.tw11820203734476468315 := (congrArg Ttree_129 PySem.W.Fast.te4549916873101738619)
lay_quick Ob.A130
def Ttree_151 (Q : F) : Params → W.BT := bt 11 ((lL Q a2j a2h).take 104)
def _root_.PySem.W.Fast.tw8052545003799448815 : Params → W.BT := Ttree_151 PySem.W.Fast.tw16405788764653981887
theorem _root_.PySem.W.Fast.te8052545003799448815 : Ttree_151 Ob.A130 = PySem.W.Fast.tw8052545003799448815 := (congrArg Ttree_151 PySem.W.Fast.te16405788764653981887)
lay_quick Ob.A152
def Ttree_173 (Q : F) : Params → W.BT := bt 11 ((lL Q a34 a31).take 123)
def _root_.PySem.W.Fast.tw16711624063745568145 : Params → W.BT := Ttree_173 PySem.W.Fast.tw6053701103550676820
theorem _root_.PySem.W.Fast.te16711624063745568145 : Ttree_173 Ob.A152 = PySem.W.Fast.tw16711624063745568145 := (congrArg Ttree_173 PySem.W.Fast.te6053701103550676820)
lay_quick Ob.A174
def Ttree_188 (Q : F) : Params → W.BT := bt 11 ((lL Q a3k a3j).take 135)
def _root_.PySem.W.Fast.tw7270050465531365474 : Params → W.BT := Ttree_188 PySem.W.Fast.tw4352210484902048510
theorem _root_.PySem.W.Fast.te7270050465531365474 : Ttree_188 Ob.A174 = PySem.W.Fast.tw7270050465531365474 := (congrArg Ttree_188 PySem.W.Fast.te4352210484902048510)
lay_quick Ob.A189
def Ttree_231 (Q : F) : Params → W.BT := bt 11 ((lL Q a4g a4c).take 175)
def _root_.PySem.W.Fast.tw8765478577538515891 : Params → W.BT := Ttree_231 PySem.W.Fast.tw11497376630591396391
theorem _root_.PySem.W.Fast.te8765478577538515891 : Ttree_231 Ob.A189 = PySem.W.Fast.tw8765478577538515891 := (congrArg Ttree_231 PySem.W.Fast.te11497376630591396391)
lay_quick Ob.A232
def Ttree_310 (Q : F) : Params → W.BT := bt 11 ((lL Q a69 a4c).take 252)
def _root_.PySem.W.Fast.tw17288840886694278228 : Params → W.BT := Ttree_310 PySem.W.Fast.tw17478711243014318675
theorem _root_.PySem.W.Fast.te17288840886694278228 : Ttree_310 Ob.A232 = PySem.W.Fast.tw17288840886694278228 := (congrArg Ttree_310 PySem.W.Fast.te17478711243014318675)
lay_quick Ob.A311
def Ttree_390 (Q : F) : Params → W.BT := bt 11 ((lL Q a8f a4c).take 330)
def _root_.PySem.W.Fast.tw8628571975671988339 : Params → W.BT := Ttree_390 PySem.W.Fast.tw14521365832586234500
theorem _root_.PySem.W.Fast.te8628571975671988339 : Ttree_390 Ob.A311 = PySem.W.Fast.tw8628571975671988339 := (congrArg Ttree_390 PySem.W.Fast.te14521365832586234500)
lay_quick Ob.A391
def Ttree_470 (Q : F) : Params → W.BT := bt 11 ((lL Q aal a4c).take 408)
def _root_.PySem.W.Fast.tw8676844316772070494 : Params → W.BT := Ttree_470 PySem.W.Fast.tw1659229111640270745
theorem _root_.PySem.W.Fast.te8676844316772070494 : Ttree_470 Ob.A391 = PySem.W.Fast.tw8676844316772070494 := (congrArg Ttree_470 PySem.W.Fast.te1659229111640270745)
lay_quick Ob.A471
def Ttree_545 (Q : F) : Params → W.BT := bt 11 ((lL Q acq a4c).take 481)
def _root_.PySem.W.Fast.tw16774508533211744260 : Params → W.BT := Ttree_545 PySem.W.Fast.tw1604140481250029070
theorem _root_.PySem.W.Fast.te16774508533211744260 : Ttree_545 Ob.A471 = PySem.W.Fast.tw16774508533211744260 := (congrArg Ttree_545 PySem.W.Fast.te1604140481250029070)
end
end Ob
namespace L2
open PySem PySem.Spec PyProof.Rows
abbrev Key:=Sum Int Str
def tM:Key→Value→Bool
 | .inl k,v=>Value.isInt k v
 | .inr x,v=>Value.isStrOf x v
def keyH (w:World):Key→Int
 | .inl k=>hashInt k
 | .inr x=>hashStr w x
theorem bA:∀ {k:Key} {v:Value},tM k v=true→(∃ i t,k=Sum.inl i∧v=Value.int i t)∨(∃ x t,k=Sum.inr x∧v=Value.str x t)
 | .inl i,v,h=>by
  obtain ⟨t,e⟩:=Value.isInt_shape (k:=i) (v:=v) h
  exact .inl ⟨i,t,rfl,e⟩
 | .inr x,v,h=>by
  obtain ⟨t,e⟩:=Value.isStrOf_shape (x:=x) (v:=v) h
  exact .inr ⟨x,t,rfl,e⟩
theorem v_ (a b:Int):decide ((Sum.inl a:Key)=Sum.inl b)=(a == b):=by
 by_cases e:a=b
 ·subst e; simp
 ·have h : ¬ (Sum.inl a:Key)=Sum.inl b:=fun q=>e (Sum.inl.inj q)
  rw [decide_eq_false h]
  exact (beq_eq_false_iff_ne.mpr e).symm
theorem vi (a b:Str):decide ((Sum.inr a:Key)=Sum.inr b)=decide (a=b):=by
 by_cases e:a=b
 ·subst e; simp
 ·have h : ¬ (Sum.inr a:Key)=Sum.inr b:=fun q=>e (Sum.inr.inj q)
  rw [decide_eq_false h,decide_eq_false e]
theorem wY (a:Int) (b:Str):decide ((Sum.inl a:Key)=Sum.inr b)=false:=decide_eq_false (fun q=>nomatch q)
theorem uM (a:Str) (b:Int):decide ((Sum.inr a:Key)=Sum.inl b)=false:=decide_eq_false (fun q=>nomatch q)
def jO (prog:Program) (w:World):PySem.KeyKind prog w Key where
 is:=tM
 hash:=keyH w
 inj:=fun v a b ha hb=>by
  rcases bA ha with ⟨i,t,rfl,rfl⟩ | ⟨x,t,rfl,rfl⟩
  ·rcases bA hb with ⟨j,u,rfl,e⟩ | ⟨y,u,rfl,e⟩
   ·injection e with e1 _; rw [e1]
   ·exact nomatch e
  ·rcases bA hb with ⟨j,u,rfl,e⟩ | ⟨y,u,rfl,e⟩
   ·exact nomatch e
   ·injection e with e1 _; rw [e1]
 byValue:=fun k v h=>by
  rcases bA h with ⟨i,t,rfl,rfl⟩ | ⟨x,t,rfl,rfl⟩ <;> rfl
 pyHash:=fun hv h=>by
  rcases bA hv with ⟨i,t,rfl,rfl⟩ | ⟨x,t,rfl,rfl⟩
  ·exact wpAny_pyHash_int h
  ·exact wpAny_pyHash_str h
 eqBool:=fun hu hv h=>by
  rcases bA hu with ⟨i,t,rfl,rfl⟩ | ⟨x,t,rfl,rfl⟩
  ·rcases bA hv with ⟨j,u,rfl,rfl⟩ | ⟨y,u,rfl,rfl⟩
   ·rw [v_] at h; exact wpAny_eqBool_int h
   ·rw [wY] at h; exact SeqAt.EqAt.int_str i t y u _ _ _ _ h
  ·rcases bA hv with ⟨j,u,rfl,rfl⟩ | ⟨y,u,rfl,rfl⟩
   ·rw [uM] at h; exact SeqAt.EqAt.str_int x t j u _ _ _ _ h
   ·rw [vi] at h; exact wpAny_eqBool_str h
 «strs»:=fun k x t v h=>by
  rcases bA h with ⟨i,u,rfl,e⟩ | ⟨y,u,rfl,e⟩
  ·exact nomatch e
  ·injection e with e1 _
   subst e1
   cases v <;> rfl
inductive V where
 | non | bl (b:Bool) | int (i:Int) | str (x:Str) | byt (b:Array UInt8) | flt (b:UInt64) | ref (a:Addr) | ty (n:String)
 deriving DecidableEq
def a9:V→Value→Prop
 | .non,u=>u=Value.none
 | .bl b,u=>u=Value.bool b
 | .int i,u=>∃ t,u=Value.int i t
 | .str x,u=>∃ t,u=Value.str x t
 | .byt b,u=>∃ t,u=Value.bytes b t
 | .flt b,u=>∃ t,u=Value.float b t
 | .ref a,u=>u=Value.ref a
 | .ty n,u=>u=Value.type n
abbrev aY:List V→List Value→Prop:=Paired a9
theorem aY.length {xs:List V} {us:List Value} (r:aY xs us):xs.length=us.length:=Paired.length r
theorem aY.get:∀ {xs:List V} {us:List Value} {i:Nat} {x:V},aY xs us→xs[i]? = some x→∃ u,us[i]? = some u∧a9 x u
 | _,_,_,_,.nil,e=>by simp at e
 | _,_,0,_,.cons r _,e=>by simp at e; subst e; exact ⟨_,rfl,r⟩
 | _,_,i + 1,x,.cons _ t,e=>by
  obtain ⟨u,h1,h2⟩:=aY.get (i:=i) (x:=x) t (by simpa using e)
  exact ⟨u,by simpa using h1,h2⟩
theorem aY.set {x:V} {u:Value} (r:a9 x u):∀ {xs:List V} {us:List Value} (i:Nat),aY xs us→aY (xs.set i x) (us.set i u)
 | _,_,_,.nil=>.nil
 | _,_,0,.cons _ t=>.cons r t
 | _,_,i + 1,.cons q t=>.cons q (aY.set r i t)
theorem aY.append:∀ {xs ys:List V} {us ws:List Value},aY xs us→aY ys ws→aY (xs++ys) (us++ws)
 | _,_,_,_,.nil,s=>s
 | _,_,_,_,.cons r t,s=>.cons r (aY.append t s)
theorem aY.take:∀ {xs:List V} {us:List Value} (n:Nat),aY xs us→aY (xs.take n) (us.take n)
 | _,_,0,_=>.nil
 | _,_,_ + 1,.nil=>.nil
 | _,_,n + 1,.cons r t=>.cons r (aY.take n t)
theorem aY.drop:∀ {xs:List V} {us:List Value} (n:Nat),aY xs us→aY (xs.drop n) (us.drop n)
 | _,_,0,r=>r
 | _,_,_ + 1,.nil=>.nil
 | _,_,n + 1,.cons _ t=>aY.drop n t
def RelO:Option V→Option Value→Prop
 | some v,some u=>a9 v u
 | none,none=>True
 | _,_=>False
def KV {κ:Type}:List (κ×V)→List (κ×Value)→Prop:=Paired fun (p : κ×V) (q : κ×Value)=>p.1=q.1∧a9 p.2 q.2
def kV:Key→V
 | .inl i=>.int i
 | .inr x=>.str x
inductive HO where

 | lst (xs:List V)

 | tup (xs:List V)

 | dK (kvs:List (Key×V)) | dT (kvs:List (List Key×V))

 | set (S:Int→Bool) (n:Nat)

 | ins (C dx:Addr) (fs:List (Str×V))

 | own (x:Addr)

 | xd (fs:List (Str×V))

 | met (f x:Addr)

 | rng (lo hi:Int)

 | frz (o:Obj) (u:HO)

 | tbl (ps:Array Value) (q:Str)

 | ext (φ:Heap→Prop)
abbrev Hp:=Addr→Option HO
def upd (H:Hp) (a:Addr) (o:HO):Hp:=fun b=>if b=a then some o else H b
theorem aM {H:Hp} {a:Addr} {o:HO}:upd H a o a=some o:=by unfold upd; rw [if_pos rfl]
theorem ax {H:Hp} {a b:Addr} {o:HO} (h:b≠a):upd H a o b=H b:=by unfold upd; rw [if_neg h]
theorem aH {H:Hp} {a b:Addr} {o:HO} (h:H a=some o) (h':H b=none):a≠b:=by
 intro e; subst e; rw [h] at h'; cases h'
def TbV (H:Hp) (ps:Array Value) (q:Str):Prop:=TriplesOk ps.toList∧∀ pos cv,codeAmong pos ps.toList=some cv→∃ c o vs t,cv = .ref c∧H c=some (.frz o (.own 0))∧o.data = .fields vs∧vs[1]? = some (.str q t)
theorem TbV.mono {H H':Hp} {ps:Array Value} {q:Str} (h:TbV H ps q) (hf:∀ b o u,H b=some (.frz o u)→H' b=some (.frz o u)):TbV H' ps q:=⟨h.1,fun pos cv e=>let ⟨c,o,vs,t,a,b,r⟩:=h.2 pos cv e; ⟨c,o,vs,t,a,hf _ _ _ b,r⟩⟩
section
variable (P:Program) (w:World)
def b9 (H:Hp) (h:Heap) (a:Addr):HO→Prop
 | .lst xs=>xs.length≤sizeLine∧∃ (its:List Value) (n:Nat),aY xs its∧h.get? a=some { cls:=.type "list",data:=.seq its.toArray n }
 | .tup xs=>xs.length≤sizeLine∧∃ its:List Value,aY xs its∧IsTup h a its.toArray
 | .dK kvs=>kvs.length≤sizeLine∧(a == sysModules)=false∧∃ vs,KV kvs vs∧h.DictOf (jO P w) a vs
 | .dT kvs=>kvs.length≤sizeLine∧(a == sysModules)=false∧∃ xs:List (List Key×Addr×Value),
  Paired (fun (p:List Key×V) (q:List Key×Addr×Value)=>p.1=q.1∧H q.2.1=some (.tup (p.1.map kV))∧a9 p.2 q.2.2) kvs xs ∧
  ∃ o es ep,h.get? a=some o∧o.ExactDict∧o.data = .dict es ep∧es.toList=xs.map (entryOfKey (tupleKind (jO P w)))∧(xs.map (·.1)).Nodup
 | .set S n=>h.SetOf (intKind P w) a S n
 | .ins C dx fs=>H dx=some (.own a)∧fs.length≤1000∧dx≠a∧h.get? a=some (PySem.W.instObj C dx) ∧
  ∃ mA,h.Ns1 dx mA∧(∀ f,RelO (fs.lookup f) (mA f))∧PySem.Within mA (fs.map (·.1))
 | .own _=>∃ o,h.get? a=some o
 | .xd fs=>∃ mA,h.Ns1 a mA∧∀ f,RelO (fs.lookup f) (mA f)
 | .rng lo hi=>∃ t u v,h.get? a=some { cls:=.type "range",data:=.fields #[.int lo t,.int hi u,.int 1 v] }
 | .frz o u=>h.get? a=some o∧b9 H h a u
 | .tbl ps q=>h.get? a=some { cls:=.none,data:=.fields ps }∧TbV H ps q
 | .met f x=>h.get? a=some (PySem.W.methodObj (.ref f) (.ref x))
 | .ext φ=>φ h∧(∃ o,h.get? a=some o)∧∀ h1 h2:Heap,φ h1→(∀ o,h1.get? a=some o→h2.get? a=some o)→φ h2
def HOk (H:Hp) (h:Heap):Prop:=∀ a o,H a=some o→b9 P w H h a o
end
section
variable {P:Program} {w:World} {H H':Hp} {h h':Heap} {a:Addr} {o:HO}
theorem b9.lt (x:b9 P w H h a o):a<h.objs.size:=by
 cases o with
 | lst xs=>obtain ⟨_,_,_,_,e⟩:=x; exact Heap.lt_size e
 | tup xs=>obtain ⟨_,_,_,p⟩:=x; exact p.lt
 | dK kvs=>obtain ⟨_,_,_,_,o,_,_,e,_⟩:=x; exact Heap.lt_size e
 | dT kvs=>obtain ⟨_,_,_,_,o,_,_,e,_⟩:=x; exact Heap.lt_size e
 | set S n=>obtain ⟨o,_,_,_,e,_⟩:=x; exact Heap.lt_size e
 | ins C dx fs=>obtain ⟨_,_,_,e,_⟩:=x; exact Heap.lt_size e
 | own y=>obtain ⟨_,e⟩:=x; exact Heap.lt_size e
 | xd fs=>obtain ⟨_,⟨_,_,_,e,_⟩,_⟩:=x; exact Heap.lt_size e
 | rng lo hi=>obtain ⟨_,_,_,e⟩:=x; exact Heap.lt_size e
 | frz ob u=>obtain ⟨e,_⟩:=x; exact Heap.lt_size e
 | tbl ps q=>obtain ⟨e,_⟩:=x; exact Heap.lt_size e
 | met f y=>exact Heap.lt_size (show h.get? a=some _ from x)
 | ext φ=>obtain ⟨_,⟨_,e⟩,_⟩:=x; exact Heap.lt_size e
theorem Paired.mapP {α β:Type} {F G : α→β→Prop}:∀ {l₁:List α} {l₂:List β},Paired F l₁ l₂→(∀ a b,F a b→G a b)→Paired G l₁ l₂
 | _,_,.nil,_=>.nil
 | _,_,.cons r t,f=>.cons (f _ _ r) (Paired.mapP t f)
theorem b9.stay (x:b9 P w H h a o) (k:∀ b u,(b=a∨H b=some (.own a))→h.get? b=some u→h'.get? b=some u)
 (ho:∀ b,H b=some (.own a)→H' b=some (.own a)) (ht:∀ b xs,H b=some (.tup xs)→H' b=some (.tup xs)) (hf:∀ b o u,H b=some (.frz o u)→H' b=some (.frz o u)):b9 P w H' h' a o:=by
 induction o with
 | lst xs=>obtain ⟨z,its,n,r,e⟩:=x; exact ⟨z,its,n,r,k _ _ (.inl rfl) e⟩
 | tup xs=>obtain ⟨z,its,r,ob,e,c⟩:=x; exact ⟨z,its,r,ob,k _ _ (.inl rfl) e,c⟩
 | dK kvs=>obtain ⟨z,y,vs,r,ob,es,ep,e,c⟩:=x; exact ⟨z,y,vs,r,ob,es,ep,k _ _ (.inl rfl) e,c⟩
 | dT kvs =>
  obtain ⟨z,y,xs,r,ob,es,ep,e,c⟩:=x
  exact ⟨z,y,xs,Paired.mapP r fun p q z=>⟨z.1,ht _ _ z.2.1,z.2.2⟩,ob,es,ep,k _ _ (.inl rfl) e,c⟩
 | set S n=>obtain ⟨ob,es,ep,t,e,c⟩:=x; exact ⟨ob,es,ep,t,k _ _ (.inl rfl) e,c⟩
 | ins C dx fs =>
  obtain ⟨d,z,ne,e,mA,⟨od,es,ep,e2,c⟩,r⟩:=x
  exact ⟨ho _ d,z,ne,k _ _ (.inl rfl) e,mA,⟨od,es,ep,k _ _ (.inr d) e2,c⟩,r⟩
 | own y=>obtain ⟨ob,e⟩:=x; exact ⟨ob,k _ _ (.inl rfl) e⟩
 | xd fs=>obtain ⟨mA,⟨od,es,ep,e,c⟩,r⟩:=x; exact ⟨mA,⟨od,es,ep,k _ _ (.inl rfl) e,c⟩,r⟩
 | rng lo hi=>obtain ⟨t,u,v,e⟩:=x; exact ⟨t,u,v,k _ _ (.inl rfl) e⟩
 | frz ob u ih=>obtain ⟨e,q⟩:=x; exact ⟨k _ _ (.inl rfl) e,ih q⟩
 | tbl ps q=>obtain ⟨e,v⟩:=x; exact ⟨k a _ (.inl rfl) e,v.mono hf⟩
 | met f y =>
  have e:h.get? a=some (PySem.W.methodObj (.ref f) (.ref y)):=x
  show h'.get? a=some (PySem.W.methodObj (.ref f) (.ref y))
  exact k a _ (.inl rfl) e
 | ext φ=>obtain ⟨p,⟨o,e⟩,st⟩:=x; exact ⟨st _ _ p fun o q=>k _ _ (.inl rfl) q,⟨o,k _ _ (.inl rfl) e⟩,st⟩
theorem HOk.lt (x:HOk P w H h) (e:H a=some o):a<h.objs.size:=(x a o e).lt
theorem HOk.fresh (x:HOk P w H h) (e:h.objs.size≤a):H a=none:=by
 cases q:H a with
 | none=>rfl
 | some u=>exact absurd (Nat.lt_of_lt_of_le (x.lt q) e) (Nat.lt_irrefl _)
theorem HOk.kept (x:HOk P w H h) (k:∀ b u,h.get? b=some u→h'.get? b=some u):HOk P w H h':=fun a o e =>
 (x a o e).stay (fun b u _ q=>k b u q) (fun _ q=>q) (fun _ _ q=>q) fun _ _ _ q=>q
theorem HOk.laid (x:HOk P w H h) (k:∀ b u,h.get? b=some u→h'.get? b=some u) (hp:h.objs.size≤a) (new:b9 P w (upd H a o) h' a o):HOk P w (upd H a o) h':=fun b u e=>by
 have hn:=x.fresh hp
 by_cases hb:b=a
 ·subst hb; rw [aM] at e; cases e; exact new
 ·rw [ax hb] at e
  exact (x b u e).stay (fun c v _ q=>k c v q) (fun c q=>by rw [ax (aH q hn)]; exact q) (fun c xs q=>by rw [ax (aH q hn)]; exact q) fun c ob u q=>by rw [ax (aH q hn)]; exact q
end
def Rd (H:Hp) (a:Addr) (u:HO):Prop:=H a=some u∨∃ o,H a=some (.frz o u)
theorem Rd.ok {P:Program} {w:World} {H:Hp} {h:Heap} {a:Addr} {u:HO} (r:Rd H a u) (x:HOk P w H h):b9 P w H h a u:=by
 rcases r with r | ⟨o,r⟩
 ·exact x a u r
 ·obtain ⟨_,q⟩:=x a _ r
  exact q
def Mut:Option HO→Prop
 | some (.lst _)=>True
 | some (.dK _)=>True
 | some (.dT _)=>True
 | some (.set _ _)=>True
 | some (.ins _ _ _)=>True
 | some (.ext _)=>True
 | _=>False
section
variable {P:Program} {w:World} {H:Hp} {h h':Heap} {x e:Addr} {o':HO}
theorem HOk.write (ok:HOk P w H h) (mu:Mut (H x)) (he:e=x∨H e=some (.own x)) (k:∀ b u,b≠e→h.get? b=some u→h'.get? b=some u) (heo:∃ u,h'.get? e=some u)
 (new:b9 P w (upd H x o') h' x o'):HOk P w (upd H x o') h':=fun b u q=>by
 have nown:∀ c y,H c=some (.own y)→c≠x:=fun c y r z=>by subst z; rw [r] at mu; exact mu
 have ntup:∀ c xs,H c=some (.tup xs)→c≠x:=fun c xs r z=>by subst z; rw [r] at mu; exact mu
 have nfrz:∀ c ob u,H c=some (.frz ob u)→c≠x:=fun c ob u r z=>by subst z; rw [r] at mu; exact mu
 by_cases hb:b=x
 ·subst hb; rw [aM] at q; cases q; exact new
 ·rw [ax hb] at q
  by_cases hbe:b=e
  ·have q':H b=some (.own x):=by
    rcases he with z | z
    ·exact absurd (hbe.trans z) hb
    ·rw [hbe]; exact z
   rw [q] at q'; cases q'
   obtain ⟨v,hv⟩:=heo
   exact ⟨v,by rw [hbe]; exact hv⟩
  ·refine (ok b u q).stay (fun c v hc r=>k c v ?_ r) (fun c r=>by rw [ax (nown c b r)]; exact r) (fun c xs r=>by rw [ax (ntup c xs r)]; exact r) fun c ob u r=>by rw [ax (nfrz c ob u r)]; exact r
   rcases hc with rfl | hc
   ·exact hbe
   ·rintro rfl
    rcases he with z | z
    ·exact nown c b hc z
    ·rw [hc] at z; cases z; exact hb rfl
end
structure Un (fs ex:List Addr) (H H':Hp) (h h':Heap):Prop where
 keep:∀ b o,h.get? b=some o→H b=none→b ∉ fs→b ∉ ex→h'.get? b=some o
 slot:∀ b o,h.get? b=some o→H b=none→b∈fs→b ∉ ex→∃ sl,h'.get? b=some { o with slots:=sl }
 free:∀ b o,h.get? b=some o→H b=none→b ∉ ex→H' b=none
 there:∀ b o,h.get? b=some o→b ∉ ex→∃ o',h'.get? b=some o'
 tups:∀ b xs,H b=some (.tup xs)→H' b=some (.tup xs)
 frzs:∀ b o u,H b=some (.frz o u)→H' b=some (.frz o u)
 tbls:∀ b ps q,H b=some (.tbl ps q)→∃ more,H' b=some (.tbl (ps++more) q)
section
variable {fs fs' ex ex':List Addr} {H H1 H2:Hp} {h h1 h2 h':Heap} {a x e:Addr} {o:HO}
theorem Un.any (u:Un fs ex H H1 h h1) {b:Addr} {ob:Obj} (q:h.get? b=some ob) (n:H b=none) (hx:b ∉ ex):∃ sl,h1.get? b=some { ob with slots:=sl }:=by
 by_cases hb:b∈fs
 ·exact u.slot b ob q n hb hx
 ·exact ⟨ob.slots,u.keep b ob q n hb hx⟩
theorem Un.kept (k:∀ b u,h.get? b=some u→h'.get? b=some u):Un fs ex H H h h' :=
 ⟨fun b ob q _ _ _=>k b ob q,fun b ob q _ _ _=>⟨ob.slots,k b ob q⟩,fun _ _ _ n _=>n,fun b ob q _=>⟨ob,k b ob q⟩,fun _ _ q=>q,fun _ _ _ q=>q,fun _ ps _ q=>⟨#[],by rw [q]; simp⟩⟩
theorem Un.refl:Un fs ex H H h h:=Un.kept fun _ _ q=>q
theorem Un.laid (k:∀ b u,h.get? b=some u→h'.get? b=some u) (hp:h.objs.size≤a) (hn:H a=none):Un fs ex H (upd H a o) h h' where
 keep:=fun b u q _ _ _=>k b u q
 slot:=fun b u q _ _ _=>⟨u.slots,k b u q⟩
 free:=fun b u q n _=>by rw [ax (Nat.ne_of_lt (Nat.lt_of_lt_of_le (Heap.lt_size q) hp))]; exact n
 there:=fun b u q _=>⟨u,k b u q⟩
 tups:=fun b xs q=>by rw [ax (aH q hn)]; exact q
 frzs:=fun b u xs q=>by rw [ax (aH q hn)]; exact q
 tbls:=fun b ps _ q=>⟨#[],by rw [ax (aH q hn),q]; simp⟩
theorem Un.write (mu:Mut (H x)) (he:e=x∨H e=some (.own x)) (k:∀ b u,b≠e→h.get? b=some u→h'.get? b=some u) (heo:∃ u,h'.get? e=some u):Un fs ex H (upd H x o) h h':=by
 have hx:∀ b,H b=none→b≠x:=fun b n z=>by subst z; rw [n] at mu; exact mu
 have hb:∀ b,H b=none→b≠e:=fun b n z=>by
  subst z
  rcases he with r | r
  ·exact hx b n r
  ·rw [n] at r; cases r
 have hm:∀ b u,H b=some u→¬ Mut (some u)→b≠x:=fun b u q nm z=>by subst z; rw [q] at mu; exact nm mu
 refine ⟨fun b u q n _ _=>k b u (hb b n) q,fun b u q n _ _=>⟨u.slots,k b u (hb b n) q⟩,fun b u q n _=>by rw [ax (hx b n)]; exact n,fun b u q _=>?_,
  fun b xs q=>by rw [ax (hm b _ q fun z=>z)]; exact q,fun b u xs q=>by rw [ax (hm b _ q fun z=>z)]; exact q,fun b ps _ q=>⟨#[],by rw [ax (hm b _ q fun z=>z),q]; simp⟩⟩
 by_cases hbe:b=e
 ·subst hbe; exact heo
 ·exact ⟨u,k b u hbe q⟩
end
def nh (v:Value):Obj:=⟨v,none,.freed,#[]⟩
def j7 (h:Heap) (H:Hp) (i:Addr):Obj:=match H i with
 | some (.tbl _ q)=>nh (.str q 0)
 | some _=>nh .none
 | none=>match h.get? i with
  | some o=>o
  | none=>nh .none
def dP (h:Heap) (H:Hp):Heap:=⟨Array.ofFn (n:=h.objs.size) fun i=>j7 h H i,h.life⟩
theorem fg (h:Heap) (H:Hp):(dP h H).objs.size=h.objs.size:=by simp [dP]
theorem kP {h:Heap} {H:Hp} {b:Addr} {o:Obj} (e:(dP h H).objs[b]? = some o):b<h.objs.size∧o=j7 h H b:=by
 obtain ⟨hb,e⟩:=Array.getElem?_eq_some_iff.mp e
 rw [fg] at hb
 refine ⟨hb,?_⟩
 rw [← e]; simp [dP]
theorem nofree {h:Heap} {b:Addr} {o:Obj} (e:h.get? b=some o):h.objs[b]? = some o∧o.data≠.freed:=by
 unfold Heap.get? at e
 split at e
 ·cases e
 ·rename_i hn
  refine ⟨e,fun z=>?_⟩
  obtain ⟨c,d,da,sl⟩:=o
  have z:da = .freed:=z
  subst z
  exact hn c d sl e
theorem sK {h:Heap} {b:Addr} {o:Obj} (e:h.objs[b]? = some o) (n:o.data≠.freed):h.get? b=some o:=by
 unfold Heap.get?
 split
 ·rename_i c d sl e'
  rw [e] at e'; cases e'
  exact absurd rfl n
 ·exact e
theorem pU {h:Heap} {H:Hp} {b:Addr} {o:Obj} (e:h.get? b=some o) (n:H b=none):(dP h H).get? b=some o:=by
 have hb:b<(dP h H).objs.size:=by rw [fg]; exact Heap.lt_size e
 refine sK ?_ (nofree e).2
 rw [Array.getElem?_eq_getElem hb]
 have:(dP h H).objs[b]=j7 h H b:=by simp [dP]
 rw [this]; unfold j7; rw [n,e]
theorem rB {h:Heap} {H:Hp} {b:Addr} {o:Obj} (e:(dP h H).get? b=some o):h.get? b=some o∧H b=none:=by
 obtain ⟨e1,nf⟩:=nofree e
 obtain ⟨_,e2⟩:=kP e1
 unfold j7 at e2
 split at e2
 ·rw [e2] at nf; exact absurd rfl nf
 ·rw [e2] at nf; exact absurd rfl nf
 ·rename_i hn
  split at e2
  ·rename_i o' e3
   exact ⟨e3.trans (by rw [e2]),hn⟩
  ·rw [e2] at nf; exact absurd rfl nf
def TMk (base:Heap) (P:Addr) (q:Str):Prop:=base.objs[P]? = some (nh (.str q 0))
def TbM (base:Heap) (H:Hp):Prop:=∀ P q,TMk base P q→∃ ps,H P=some (.tbl ps q)
theorem TbM.un {base h h':Heap} {H H':Hp} {fs ex:List Addr} (x:TbM base H) (u:Un fs ex H H' h h'):TbM base H':=fun P q m=>let ⟨ps,z⟩:=x P q m; let ⟨more,y⟩:=u.tbls P ps q z; ⟨_,y⟩
theorem TbM.hid {h:Heap} {H:Hp}:TbM (dP h H) H:=fun P q m=>by
 obtain ⟨_,e⟩:=kP m
 unfold j7 at e
 split at e
 ·rename_i ps q' hq
  have e:nh (.str q 0)=nh (.str q' 0):=e
  cases e; exact ⟨ps,hq⟩
 ·cases e
 ·split at e
  ·rename_i o e3
   have:=(nofree e3).2
   rw [← e] at this; exact absurd rfl this
  ·cases e
theorem TMk.hid {h:Heap} {H:Hp} {P:Addr} {ps:Array Value} {q:Str} (hP:P<h.objs.size) (e:H P=some (.tbl ps q)):TMk (dP h H) P q:=by
 have hb:P<(dP h H).objs.size:=by rw [fg]; exact hP
 unfold TMk
 rw [Array.getElem?_eq_getElem hb]
 have:(dP h H).objs[P]=j7 h H P:=by simp [dP]
 rw [this]; unfold j7; rw [e]
structure Mod (K:PySem.W.Frag) (mg:Str→Option Value) (base:Heap):Prop where
 kin:K.In base
 glob:base.Ns mainGlobals mg
 blt:∃ mb,base.Ns builtinsNs mb∧∀ x:Str,x ≠ "__name__" → mb x=bootBuiltins x
 nolimit:base.NoLimit
structure Cx where
 prog:Program
 w:World
 K:PySem.W.Frag
 mg:Str→Option Value
 base:Heap
 A:Around
 N:List Str
 s₀:Shared
 H₀:Hp
 env:Env
 outer:List Env
 stack:List Env
 ex:List Addr
 fn:Str→Bool
 calm:Bool
 pn:List (Addr×Obj)
 xe:Value→Shared→Prop
def frs (l:List Env):List Addr:=l.filterMap (·.frame)
abbrev Cx.fs (X:Cx):List Addr:=frs X.outer
def Vis (sc:Scope) (x:Str):Prop:=sc.names.lookup x=some .local∨sc.names.lookup x=some .cell∨sc.names.lookup x=some .free
def Loc (sc:Scope) (x:Str):Prop:=sc.names.lookup x=some .local∨sc.names.lookup x=some .cell
def Look (env:Env) (h:Heap) (m:Str→Option Value) (x:Str) (u:Value):Prop :=
 (env.kindOf x=some .local∧m x=some u)∨((env.kindOf x=some .cell∨env.kindOf x=some .free)∧∃ c,env.cells.lookup x=some c∧h.IsCell c (some u))
structure Cx.Ok (X:Cx):Prop where
 mod:Mod X.K X.mg X.base
 kind:X.env.scope.kind = .function
 glob:X.env.globals=mainGlobals
 blt:X.env.builtins=builtinsNs
 above:X.s₀.heap.objs.size≤X.env.locals
 inj:∀ x y c,X.env.cells.lookup x=some c→X.env.cells.lookup y=some c→x=y
 has:∀ x,(X.env.kindOf x=some .cell∨X.env.kindOf x=some .free)→∃ c,X.env.cells.lookup x=some c
 cab:∀ x c,X.fn x=true→X.env.cells.lookup x=some c→X.s₀.heap.objs.size≤c
 hd:X.calm=true→X.A.handled=none
 frames:X.A.frames=some X.stack
 stk:X.stack=X.outer∨(X.stack=X.env :: X.outer∧X.env.frame=some X.env.locals)
 exf:∀ b∈X.ex,b≠X.env.locals∧∀ x c,X.env.cells.lookup x=some c→c≠b
 bs:∀ b o,X.base.get? b=some o→X.s₀.heap.get? b=some o∧X.H₀ b=none
 bsz:X.base.objs.size≤X.s₀.heap.objs.size
 noex:∀ b o,X.base.get? b=some o→b ∉ X.ex
 exfs:∀ b∈X.ex,b ∉ X.fs
 funs:X.s₀.heap.FunFrames X.base X.outer
 frf:∀ b∈X.fs,X.H₀ b=none
 tb:TbM X.base X.H₀
structure Inv (X:Cx) (pins:List (Addr×Obj)) (σ:List (Option V)) (H:Hp) (s:Shared):Prop where
 ok:X.Ok
 os:s.os=X.s₀.os
 bare:AllBare s.gens
 base:Un X.fs X.ex X.H₀ H X.s₀.heap s.heap
 loc:∃ m,s.heap.Ns X.env.locals m∧∀ (i:Nat) (x:Str) (v:V),X.N[i]? = some x→σ[i]? = some (some v)→Vis X.env.scope x→∃ u,a9 v u∧Look X.env s.heap m x u
 cell:∀ x c,X.env.cells.lookup x=some c→∃ v,s.heap.IsCell c v
 free:H X.env.locals=none
 freeC:∀ x c,X.env.cells.lookup x=some c→H c=none
 pin:∀ p∈X.pn++pins,s.heap.get? p.1=some p.2∧H p.1=none∧p.1≠X.env.locals∧p.1 ∉ X.fs∧∀ v,p.2.data≠.cell v
 hok:HOk X.prog X.w H s.heap
 len : σ.length=X.N.length
section
variable {X:Cx} {pins:List (Addr×Obj)} {σ:List (Option V)} {H H':Hp} {s:Shared} {h':Heap}
theorem Cx.Ok.nofr (ok:X.Ok) {b:Addr} {o:Obj} (e:X.base.get? b=some o):b ∉ X.fs:=fun hb=>by
 have:=(ok.funs.mem hb).1
 rw [e] at this; cases this
theorem Inv.bs (I:Inv X pins σ H s):∀ b o,X.base.get? b=some o→s.heap.get? b=some o∧H b=none:=fun b o e =>
 ⟨I.base.keep b o (I.ok.bs b o e).1 (I.ok.bs b o e).2 (I.ok.nofr e) (I.ok.noex b o e),I.base.free b o (I.ok.bs b o e).1 (I.ok.bs b o e).2 (I.ok.noex b o e)⟩
theorem Inv.bk (I:Inv X pins σ H s):∀ b o,X.base.get? b=some o→s.heap.get? b=some o:=fun b o e=>(I.bs b o e).1
theorem Inv.mod (I:Inv X pins σ H s):Mod X.K X.mg X.base:=I.ok.mod
theorem Inv.kIn (I:Inv X pins σ H s):X.K.In s.heap:=I.ok.mod.kin.keeps I.bk
theorem Inv.fr (I:Inv X pins σ H s):∃ m,Fr X.base X.env.locals s.heap m :=
 let ⟨m,hn,_⟩:=I.loc
 ⟨m,hn,I.bk,Nat.le_trans I.ok.bsz I.ok.above⟩
theorem Inv.lt (I:Inv X pins σ H s):X.env.locals<s.heap.objs.size:=let ⟨_,hn,_⟩:=I.loc; hn.lt
theorem Inv.sz (I:Inv X pins σ H s):X.s₀.heap.objs.size≤s.heap.objs.size:=Nat.le_trans I.ok.above (Nat.le_of_lt I.lt)
theorem Inv.nofs (I:Inv X pins σ H s) {a:Addr} (h:s.heap.objs.size≤a):a ∉ X.fs:=fun hb=>by
 obtain ⟨_,o,ho,_⟩:=I.ok.funs.mem hb
 exact absurd (Nat.lt_of_lt_of_le (Heap.lt_size ho) (Nat.le_trans I.sz h)) (Nat.lt_irrefl _)
theorem Inv.cne (I:Inv X pins σ H s):∀ x c,X.env.cells.lookup x=some c→c≠X.env.locals:=fun x c e z=>by
 obtain ⟨v,o,ho,hd⟩:=I.cell x c e
 obtain ⟨m,⟨o',es,ep,ho',hd',_⟩,_⟩:=I.loc
 rw [z,ho'] at ho; cases ho; rw [hd'] at hd; cases hd
theorem Inv.funs (I:Inv X pins σ H s):s.heap.FunFrames X.base X.outer:=by
 have all:∀ (l:List Env),(∀ b∈frs l,b∈X.fs)→X.s₀.heap.FunFrames X.base l→s.heap.FunFrames X.base l:=by
  intro l
  induction l with
  | nil=>intro _ _; trivial
  | cons env r ih =>
   intro hs hl
   obtain ⟨hk,⟨L,o,hf,hn,ho,hd⟩,hr⟩:=hl
   have hL:L∈X.fs:=hs L (by unfold frs; rw [List.filterMap_cons,hf]; exact List.mem_cons_self)
   obtain ⟨sl,e⟩:=I.base.slot L o ho (I.ok.frf L hL) hL fun z=>I.ok.exfs L z hL
   exact ⟨hk,⟨L,_,hf,hn,e,hd⟩,ih (fun b hb=>hs b (by unfold frs; rw [List.filterMap_cons,hf]; exact List.mem_cons_of_mem _ hb)) hr⟩
 exact all X.outer (fun _ hb=>hb) I.ok.funs
theorem Inv.stack (I:Inv X pins σ H s):s.heap.FunFrames X.base X.stack:=by
 rcases I.ok.stk with e | ⟨e,hf⟩
 ·rw [e]; exact I.funs
 ·rw [e]
  obtain ⟨m,hn,_⟩:=I.loc
  refine .cons (by rw [I.ok.kind]; decide) hf hn ?_ I.funs
  exact Heap.get?_none_of_le (Nat.le_trans I.ok.bsz I.ok.above)
theorem Inv.stkSub (I:Inv X pins σ H s):∀ b∈frs X.stack,b∈X.env.locals :: X.fs:=fun b hb=>by
 rcases I.ok.stk with e | ⟨e,hf⟩
 ·rw [e] at hb; exact List.mem_cons_of_mem _ hb
 ·rw [e] at hb
  unfold frs at hb
  rw [List.filterMap_cons,hf] at hb
  exact hb
theorem Inv.stkFree (I:Inv X pins σ H s):∀ b∈frs X.stack,H b=none:=fun b hb=>by
 rcases List.mem_cons.mp (I.stkSub b hb) with e | hb
 ·rw [e]; exact I.free
 ·obtain ⟨_,o,ho,_⟩:=I.ok.funs.mem hb
  exact I.base.free b o ho (I.ok.frf b hb) fun z=>I.ok.exfs b z hb
theorem Inv.step {g':Array GenState} {t':Nat} {d':Drawn} {ch:List Addr} (I:Inv X pins σ H s)
 (hch:∀ b∈ch,(b∈X.ex∨X.s₀.heap.objs.size≤b)∧b≠X.env.locals∧(∀ x c,X.env.cells.lookup x=some c→c≠b)∧∀ p∈X.pn++pins,p.1≠b)
 (keep:∀ b o,b≠X.env.locals→b ∉ X.fs→b ∉ ch→s.heap.get? b=some o→H b=none→h'.get? b=some o)
 (slot:∀ b o,b≠X.env.locals→b∈X.fs→b ∉ ch→s.heap.get? b=some o→H b=none→∃ sl,h'.get? b=some { o with slots:=sl }) (free:∀ b o,b ∉ ch→s.heap.get? b=some o→H b=none→H' b=none)
 (there:∀ b o,b ∉ ch→s.heap.get? b=some o→∃ o',h'.get? b=some o')
 (tups:∀ b xs,H b=some (.tup xs)→H' b=some (.tup xs)) (frzs:∀ b o u,H b=some (.frz o u)→H' b=some (.frz o u)) (tbls:∀ b ps q,H b=some (.tbl ps q)→∃ more,H' b=some (.tbl (ps++more) q))
 (ns:∀ m,s.heap.Ns X.env.locals m→h'.Ns X.env.locals m) (hok:HOk X.prog X.w H' h') (hg:AllBare g') :
 Inv X pins σ H' { s with heap:=h',gens:=g',drawn:=d',toks:=t' }:=by
 have neL:∀ b o,X.s₀.heap.get? b=some o→b≠X.env.locals:=fun b o e=>Nat.ne_of_lt (Nat.lt_of_lt_of_le (Heap.lt_size e) I.ok.above)
 have neC:∀ b o,X.s₀.heap.get? b=some o→b ∉ X.ex→b ∉ ch:=fun b o e hx hb=>by
  rcases (hch b hb).1 with z | z
  ·exact hx z
  ·exact absurd (Nat.lt_of_lt_of_le (Heap.lt_size e) z) (Nat.lt_irrefl _)
 have cellK:∀ x c,X.env.cells.lookup x=some c→∀ v,s.heap.IsCell c v→h'.IsCell c v:=fun x c e v ⟨o,ho,hd⟩=>by
  have nch:c ∉ ch:=fun z=>(hch c z).2.2.1 x c e rfl
  by_cases hc:c∈X.fs
  ·obtain ⟨sl,q⟩:=slot c o (I.cne x c e) hc nch ho (I.freeC x c e)
   exact ⟨_,q,hd⟩
  ·exact ⟨o,keep c o (I.cne x c e) hc nch ho (I.freeC x c e),hd⟩
 refine ⟨I.ok,I.os,hg,⟨fun b o e n hb hx=>?_,fun b o e n hb hx=>?_,fun b o e n hx=>?_,fun b o e hx=>?_,fun b xs e=>tups b xs (I.base.tups b xs e),fun b o xs e=>frzs b o xs (I.base.frzs b o xs e),fun b ps q e=>?_⟩,?_,fun x c e=>?_,?_,fun x c e=>?_,fun p hp=>?_,hok,I.len⟩
 ·exact keep b o (neL b o e) hb (neC b o e hx) (I.base.keep b o e n hb hx) (I.base.free b o e n hx)
 ·obtain ⟨sl,e1⟩:=I.base.slot b o e n hb hx
  obtain ⟨sl',e2⟩:=slot b _ (neL b o e) hb (neC b o e hx) e1 (I.base.free b o e n hx)
  exact ⟨sl',e2⟩
 ·obtain ⟨o',e1⟩:=I.base.there b o e hx
  exact free b o' (neC b o e hx) e1 (I.base.free b o e n hx)
 ·obtain ⟨o',e1⟩:=I.base.there b o e hx
  exact there b o' (neC b o e hx) e1
 ·obtain ⟨m1,e1⟩:=I.base.tbls b ps q e
  obtain ⟨m2,e2⟩:=tbls b _ q e1
  exact ⟨m1++m2,by rw [e2,Array.append_assoc]⟩
 ·obtain ⟨m,hn,hl⟩:=I.loc
  refine ⟨m,ns m hn,fun i x v e1 e2 e3=>?_⟩
  obtain ⟨u,r,l⟩:=hl i x v e1 e2 e3
  refine ⟨u,r,?_⟩
  rcases l with l | ⟨k,c,e,z⟩
  ·exact .inl l
  ·exact .inr ⟨k,c,e,cellK x c e _ z⟩
 ·obtain ⟨v,z⟩:=I.cell x c e
  exact ⟨v,cellK x c e v z⟩
 ·obtain ⟨m,⟨o,_,_,ho,_⟩,_⟩:=I.loc
  exact free _ o (fun z=>(hch _ z).2.1 rfl) ho I.free
 ·obtain ⟨v,o,ho,hd⟩:=I.cell x c e
  exact free c o (fun z=>(hch c z).2.2.1 x c e rfl) ho (I.freeC x c e)
 ·obtain ⟨e,n,ne,nf,d⟩:=I.pin p hp
  have nch:p.1 ∉ ch:=fun z=>(hch p.1 z).2.2.2 p hp rfl
  exact ⟨keep p.1 p.2 ne nf nch e n,free p.1 p.2 nch e n,ne,nf,d⟩
theorem Inv.un {t':Nat} (I:Inv X pins σ H s) (u:Un X.fs [] H H' s.heap h') (hok:HOk X.prog X.w H' h'):Inv X pins σ H' { s with heap:=h',toks:=t' }:=by
 obtain ⟨m,⟨o,es,ep,ho,r⟩,_⟩:=id I.loc
 obtain ⟨sl,hL⟩:=u.any ho I.free (by simp)
 exact I.step (g':=s.gens) (d':=s.drawn) (ch:=[]) (fun _ z=>nomatch z) (fun b o _ hb _ e n=>u.keep b o e n hb (by simp)) (fun b o _ hb _ e n=>u.slot b o e n hb (by simp)) (fun b o _ e n=>u.free b o e n (by simp)) (fun b o _ e=>u.there b o e (by simp)) u.tups u.frzs u.tbls (fun m' hm=>by
  obtain ⟨o',es',ep',ho',r'⟩:=hm
  rw [ho] at ho'; cases ho'
  exact ⟨_,es',ep',hL,r'⟩) hok I.bare
theorem Inv.call {g':Array GenState} {t':Nat} {d':Drawn} {ch:List Addr} (I:Inv X pins σ H s) (u:Un (frs X.stack) ch H H' s.heap h') (hok:HOk X.prog X.w H' h') (hg:AllBare g')
 (hch:∀ b∈ch,(b∈X.ex∨X.s₀.heap.objs.size≤b)∧b≠X.env.locals∧(∀ x c,X.env.cells.lookup x=some c→c≠b)∧∀ p∈X.pn++pins,p.1≠b) :
 Inv X pins σ H' { s with heap:=h',gens:=g',drawn:=d',toks:=t' }:=by
 obtain ⟨m,⟨o,es,ep,ho,r⟩,_⟩:=id I.loc
 obtain ⟨sl,hL⟩:=u.any ho I.free fun z=>(hch _ z).2.1 rfl
 exact I.step (ch:=ch) hch (fun b o hL hb hc e n=>u.keep b o e n (fun z=>(List.mem_cons.mp (I.stkSub b z)).elim hL hb) hc) (fun b o _ _ hc e n=>u.any e n hc) (fun b o hc e n=>u.free b o e n hc) (fun b o hc e=>u.there b o e hc) u.tups u.frzs u.tbls (fun m' hm=>by
  obtain ⟨o',es',ep',ho',r'⟩:=hm
  rw [ho] at ho'; cases ho'
  exact ⟨_,es',ep',hL,r'⟩) hok hg
theorem Inv.turned {t':Nat} {it:Addr} (I:Inv X pins σ H s) (k:∀ b o,b≠it→s.heap.get? b=some o→h'.get? b=some o) (hn:H it=none) (hL:it≠X.env.locals)
 (h1:it∈X.ex∨X.s₀.heap.objs.size≤it) (h2:∀ x c,X.env.cells.lookup x=some c→c≠it) (h3:∀ p∈X.pn++pins,p.1≠it):Inv X pins σ H { s with heap:=h',toks:=t' }:=by
 have nit:∀ b u,H b=some u→b≠it:=fun b u e z=>by rw [z,hn] at e; cases e
 refine I.step (g':=s.gens) (d':=s.drawn) (ch:=[it]) (fun b hb=>?_) (fun b o _ _ hc e _=>k b o (fun z=>hc (by simp [z])) e) (fun b o _ _ hc e _=>⟨o.slots,k b o (fun z=>hc (by simp [z])) e⟩) (fun _ _ _ _ n=>n)
  (fun b o hc e=>⟨o,k b o (fun z=>hc (by simp [z])) e⟩) (fun _ _ e=>e) (fun _ _ _ e=>e) (fun b ps _ e=>⟨#[],by rw [e]; simp⟩) (fun m hm=>?_) (fun b u e=>?_) I.bare
 ·have e:b=it:=by simpa using hb
  subst e
  exact ⟨h1,hL,h2,h3⟩
 ·obtain ⟨o,es,ep,ho,r⟩:=hm
  exact ⟨o,es,ep,k _ o (Ne.symm hL) ho,r⟩
 ·refine (I.hok b u e).stay (fun c v hc q=>k c v ?_ q) (fun _ q=>q) (fun _ _ q=>q) fun _ _ _ q=>q
  rcases hc with z | z
  ·rw [z]; exact nit b u e
  ·exact nit c _ z
theorem Inv.tok (I:Inv X pins σ H s) (t:Nat):Inv X pins σ H { s with toks:=t }:=I.un (h':=s.heap) (t':=t) Un.refl I.hok
theorem Inv.kept {t':Nat} (I:Inv X pins σ H s) (k:∀ b u,s.heap.get? b=some u→h'.get? b=some u):Inv X pins σ H { s with heap:=h',toks:=t' }:=I.un (Un.kept k) (I.hok.kept k)
theorem Inv.laid {a:Addr} {o:HO} {t':Nat} (I:Inv X pins σ H s) (k:∀ b u,s.heap.get? b=some u→h'.get? b=some u) (hp:s.heap.objs.size≤a) (new:b9 X.prog X.w (upd H a o) h' a o) :
 Inv X pins σ (upd H a o) { s with heap:=h',toks:=t' }:=I.un (Un.laid k hp (I.hok.fresh hp)) (I.hok.laid k hp new)
theorem Inv.write {x e:Addr} {o:HO} {t':Nat} (I:Inv X pins σ H s) (mu:Mut (H x)) (he:e=x∨H e=some (.own x)) (k:∀ b u,b≠e→s.heap.get? b=some u→h'.get? b=some u) (heo:∃ u,h'.get? e=some u)
 (new:b9 X.prog X.w (upd H x o) h' x o):Inv X pins σ (upd H x o) { s with heap:=h',toks:=t' }:=I.un (Un.write mu he k heo) (I.hok.write mu he k heo new)
theorem Inv.weak {σ':List (Option V)} (I:Inv X pins σ H s) (hl : σ'.length=σ.length) (w:∀ (i:Nat) v,σ'[i]? = some (some v)→σ[i]? = some (some v)):Inv X pins σ' H s :=
 ⟨I.ok,I.os,I.bare,I.base,let ⟨m,hn,hl'⟩:=I.loc; ⟨m,hn,fun i x v e1 e2 e3=>hl' i x v e1 (w i v e2) e3⟩,I.cell,I.free,I.freeC,I.pin,I.hok,hl.trans I.len⟩
theorem Inv.pins_of {pins':List (Addr×Obj)} (I:Inv X pins σ H s) (h:∀ p∈pins',s.heap.get? p.1=some p.2∧H p.1=none∧p.1≠X.env.locals∧p.1 ∉ X.fs∧∀ v,p.2.data≠.cell v):Inv X pins' σ H s :=
 ⟨I.ok,I.os,I.bare,I.base,I.loc,I.cell,I.free,I.freeC,fun p hp=>(List.mem_append.mp hp).elim (fun z=>I.pin p (List.mem_append_left _ z)) (h p),I.hok,I.len⟩
theorem ka {N:List Str} (hN:N.Nodup) {i j:Nat} {x:Str} (a:N[i]? = some x) (b:N[j]? = some x):i=j:=by
 obtain ⟨h1,e1⟩:=List.getElem?_eq_some_iff.mp a
 obtain ⟨h2,e2⟩:=List.getElem?_eq_some_iff.mp b
 exact (List.getElem_inj hN).mp (e1.trans e2.symm)
theorem iJ {M:Model} {A:Around} {E:Value→Shared→Prop} {i:Nat} {x:Str} {v:V} {u:Value} {Q:Unit→Shared→Prop} (I:Inv X pins σ H s) (hN:X.N.Nodup) (hi:X.N[i]? = some x) (hx:Loc X.env.scope x) (r:a9 v u)
 (h:∀ s',Inv X pins (σ.set i (some v)) H s'→(∃ a,Heap.SameBut a s.heap s'.heap∧(a=X.env.locals∨X.env.cells.lookup x=some a))→Q () s') (hf:X.fn x=true∨X.env.scope.names.lookup x=some .local:=by first | exact .inl rfl | exact .inr rfl | assumption):wpAny M A (storeName X.env x u) Q E s:=by
 obtain ⟨m,hn,hl⟩:=id I.loc
 have hcls:(X.env.scope.kind == .class||(X.env.scope.kind == .module&&X.env.locals != X.env.globals))=false:=by rw [I.ok.kind]; rfl
 have hiσ:i<σ.length:=by rw [I.len]; exact (List.getElem?_eq_some_iff.mp hi).1
 have cne:=I.cne
 have tracked:∀ {a:Addr} {h':Heap},(∃ o,s.heap.get? a=some o∧H a=none)→Heap.SameBut a s.heap h'→HOk X.prog X.w H h':=fun {a h'} ha hs b ob e=>by
  obtain ⟨_,_,hfree⟩:=ha
  refine (I.hok b ob e).stay (fun c w' hc q=>(hs.2 c ?_).trans q) (fun _ q=>q) (fun _ _ q=>q) fun _ _ _ q=>q
  rintro rfl
  rcases hc with rfl | hc
  ·rw [hfree] at e; cases e
  ·rw [hfree] at hc; cases hc
 rcases hx with hk | hk
 ·refine wpAny_storeName_local hk hn (fun h' hn' hs=>?_) hcls
  obtain ⟨oL,_,_,hoL,_⟩:=id hn
  refine h _ ⟨I.ok,I.os,I.bare,⟨fun b o e n hb hx=>?_,fun b o e n hb hx=>?_,I.base.free,fun b o e hx=>?_,I.base.tups,I.base.frzs,I.base.tbls⟩,⟨_,hn',fun j y v' e1 e2 e3=>?_⟩,fun y c e=>?_,I.free,I.freeC,fun p hp=>?_,tracked ⟨oL,hoL,I.free⟩ hs,by simpa using I.len⟩ ⟨_,hs,.inl rfl⟩
  ·exact (hs.2 b (Nat.ne_of_lt (Nat.lt_of_lt_of_le (Heap.lt_size e) I.ok.above))).trans (I.base.keep b o e n hb hx)
  ·obtain ⟨sl,e1⟩:=I.base.slot b o e n hb hx
   exact ⟨sl,(hs.2 b (Nat.ne_of_lt (Nat.lt_of_lt_of_le (Heap.lt_size e) I.ok.above))).trans e1⟩
  ·obtain ⟨o',e1⟩:=I.base.there b o e hx
   exact ⟨o',(hs.2 b (Nat.ne_of_lt (Nat.lt_of_lt_of_le (Heap.lt_size e) I.ok.above))).trans e1⟩
  ·by_cases hj:j=i
   ·subst hj
    rw [hi] at e1; cases e1
    rw [List.getElem?_set_self hiσ] at e2
    cases e2
    exact ⟨u,r,.inl ⟨hk,by simp⟩⟩
   ·rw [List.getElem?_set_ne (Ne.symm hj)] at e2
    obtain ⟨u',r',q⟩:=hl j y v' e1 e2 e3
    refine ⟨u',r',?_⟩
    rcases q with ⟨k,e⟩ | ⟨k,c,e,z⟩
    ·refine .inl ⟨k,?_⟩
     have:y≠x:=fun e=>hj (ka hN e1 (e ▸ hi))
     simp [this,e]
    ·exact .inr ⟨k,c,e,z.sameBut hs (cne y c e)⟩
  ·obtain ⟨w',z⟩:=I.cell y c e
   exact ⟨w',z.sameBut hs (cne y c e)⟩
  ·obtain ⟨e,n,ne,nf,d⟩:=I.pin p hp
   exact ⟨(hs.2 p.1 ne).trans e,n,ne,nf,d⟩
 ·have hfn:X.fn x=true:=by
   rcases hf with z | z
   ·exact z
   ·rw [z] at hk; cases hk
  obtain ⟨c,hc⟩:=I.ok.has x (.inl hk)
  obtain ⟨w',z⟩:=I.cell x c hc
  refine wpAny_storeName_cell I.ok.kind hk hc z (fun h' hc' hs=>?_)
  obtain ⟨oc,hoc,hocd⟩:=id z
  refine h { s with heap:=h' } ⟨I.ok,I.os,I.bare,⟨fun b o e n hb hx=>?_,fun b o e n hb hx=>?_,I.base.free,fun b o e hx=>?_,I.base.tups,I.base.frzs,I.base.tbls⟩,⟨m,hn.sameBut hs (Ne.symm (cne x c hc)),fun j y v' e1 e2 e3=>?_⟩,fun y c' e=>?_,I.free,I.freeC,fun p hp=>?_,tracked ⟨oc,hoc,I.freeC x c hc⟩ hs,by simpa using I.len⟩ ⟨c,hs,.inr hc⟩
  ·exact (hs.2 b (Nat.ne_of_lt (Nat.lt_of_lt_of_le (Heap.lt_size e) (I.ok.cab x c hfn hc)))).trans (I.base.keep b o e n hb hx)
  ·obtain ⟨sl,e1⟩:=I.base.slot b o e n hb hx
   exact ⟨sl,(hs.2 b (Nat.ne_of_lt (Nat.lt_of_lt_of_le (Heap.lt_size e) (I.ok.cab x c hfn hc)))).trans e1⟩
  ·obtain ⟨o',e1⟩:=I.base.there b o e hx
   exact ⟨o',(hs.2 b (Nat.ne_of_lt (Nat.lt_of_lt_of_le (Heap.lt_size e) (I.ok.cab x c hfn hc)))).trans e1⟩
  ·by_cases hj:j=i
   ·subst hj
    rw [hi] at e1; cases e1
    rw [List.getElem?_set_self hiσ] at e2
    cases e2
    exact ⟨u,r,.inr ⟨.inl hk,c,hc,hc'⟩⟩
   ·rw [List.getElem?_set_ne (Ne.symm hj)] at e2
    obtain ⟨u',r',q⟩:=hl j y v' e1 e2 e3
    refine ⟨u',r',?_⟩
    rcases q with q | ⟨k,c',e,z'⟩
    ·exact .inl q
    ·refine .inr ⟨k,c',e,z'.sameBut hs ?_⟩
     rintro rfl
     exact hj (ka hN e1 (I.ok.inj _ _ _ e hc ▸ hi))
  ·by_cases hcc:c'=c
   ·subst hcc; exact ⟨_,hc'⟩
   ·obtain ⟨w2,z2⟩:=I.cell y c' e
    exact ⟨w2,z2.sameBut hs hcc⟩
  ·obtain ⟨e,n,ne,nf,d⟩:=I.pin p hp
   refine ⟨(hs.2 p.1 ?_).trans e,n,ne,nf,d⟩
   intro q
   rw [q,hoc] at e
   have q':oc=p.2:=Option.some.inj e
   exact d w' (by rw [← q']; exact hocd)
theorem f9 {M:Model} {A:Around} {E:Value→Shared→Prop} {i:Nat} {x:Str} {v:V} {u:Value} {Q:Unit→Shared→Prop} (I:Inv X pins σ H s) (hN:X.N.Nodup) (hi:X.N[i]? = some x) (hx:Loc X.env.scope x) (r:a9 v u)
 (h:∀ s',Inv X pins (σ.set i (some v)) H s'→Q () s') (hf:X.fn x=true∨X.env.scope.names.lookup x=some .local:=by first | exact .inl rfl | exact .inr rfl | assumption):wpAny M A (storeName X.env x u) Q E s :=
 iJ I hN hi hx r (fun s' I' _=>h s' I') hf
theorem Inv.call' {s':Shared} {ch:List Addr} (I:Inv X pins σ H s) (ho:s'.os=s.os) (u:Un (frs X.stack) ch H H' s.heap s'.heap) (hok:HOk X.prog X.w H' s'.heap) (hg:AllBare s'.gens)
 (hch:∀ b∈ch,(b∈X.ex∨X.s₀.heap.objs.size≤b)∧b≠X.env.locals∧(∀ x c,X.env.cells.lookup x=some c→c≠b)∧∀ p∈X.pn++pins,p.1≠b):Inv X pins σ H' s':=by
 obtain ⟨h',g',d',t',o'⟩:=s'
 have e:o'=s.os:=ho
 subst e
 exact I.call (g':=g') (t':=t') (d':=d') u hok hg hch
end
abbrev XK:=Value→Option Addr→Hp→Prop
abbrev St:=List (Option V)
abbrev VK:=V→Hp→Prop
abbrev TE:=St→Hp→VK→Prop
abbrev TT:=St→Hp→(Bool→Hp→Prop)→Prop
abbrev TA:=St→Hp→(List V→Hp→Prop)→Prop
structure Ends where
 nx:St→Hp→Prop
 rt:VK
 bk:St→Hp→Prop:=fun _ _=>False
 ct:St→Hp→Prop:=fun _ _=>False
abbrev TS:=Ends→St→Hp→Prop
def EP (X:Cx) (pins:List (Addr×Obj)) (σ:St) (Q:VK) (u:Value) (s':Shared):Prop:=∃ v H',Inv X pins σ H' s'∧a9 v u∧Q v H'
def TP (X:Cx) (pins:List (Addr×Obj)) (σ:St) (Q:Bool→Hp→Prop) (b:Bool) (s':Shared):Prop:=∃ H',Inv X pins σ H' s'∧Q b H'
def AP (X:Cx) (pins:List (Addr×Obj)) (σ:St) (Q:List V→Hp→Prop) (us:List Value) (s':Shared):Prop:=∃ vs H',Inv X pins σ H' s'∧aY vs us∧Q vs H'
def SP (X:Cx) (pins:List (Addr×Obj)) (D:Ends) (f:Flow) (s':Shared):Prop :=
 match f with
 | .next=>∃ σ' H',Inv X pins σ' H' s'∧D.nx σ' H'
 | .brk=>∃ σ' H',Inv X pins σ' H' s'∧D.bk σ' H'
 | .cont=>∃ σ' H',Inv X pins σ' H' s'∧D.ct σ' H'
 | .ret u=>∃ v σ' H',Inv X pins σ' H' s'∧a9 v u∧D.rt v H'
structure PE (X:Cx) (e:Expr) (t:TE):Prop where
 go:∀ (pins:List (Addr×Obj)) (s:Shared) (σ:St) (H:Hp) (Q:VK),Inv X pins σ H s→t σ H Q→wpAny (model X.prog X.w) X.A (eval e X.env) (EP X pins σ Q) X.xe s
instance {X:Cx} {e:Expr} {t:TE}:CoeFun (PE X e t) fun _=>∀ (pins:List (Addr×Obj)) (s:Shared) (σ:St) (H:Hp) (Q:VK),Inv X pins σ H s→t σ H Q→wpAny (model X.prog X.w) X.A (eval e X.env) (EP X pins σ Q) X.xe s:=⟨fun h=>h.go⟩
structure PT (X:Cx) (e:Expr) (t:TT):Prop where
 go:∀ (pins:List (Addr×Obj)) (s:Shared) (σ:St) (H:Hp) (Q:Bool→Hp→Prop),Inv X pins σ H s→t σ H Q→wpAny (model X.prog X.w) X.A (isTrue e X.env (eval e X.env)) (TP X pins σ Q) X.xe s
instance {X:Cx} {e:Expr} {t:TT}:CoeFun (PT X e t) fun _=>∀ (pins:List (Addr×Obj)) (s:Shared) (σ:St) (H:Hp) (Q:Bool→Hp→Prop),Inv X pins σ H s→t σ H Q→wpAny (model X.prog X.w) X.A (isTrue e X.env (eval e X.env)) (TP X pins σ Q) X.xe s:=⟨fun h=>h.go⟩
structure PW (X:Cx) (e:Expr) (t:TT):Prop where
 go:∀ (whole:Sem Value) (pins:List (Addr×Obj)) (s:Shared) (σ:St) (H:Hp) (Q:Bool→Hp→Prop),Inv X pins σ H s→t σ H Q→wpAny (model X.prog X.w) X.A (isTrue e X.env whole) (TP X pins σ Q) X.xe s
instance {X:Cx} {e:Expr} {t:TT}:CoeFun (PW X e t) fun _=>∀ (whole:Sem Value) (pins:List (Addr×Obj)) (s:Shared) (σ:St) (H:Hp) (Q:Bool→Hp→Prop),Inv X pins σ H s→t σ H Q→wpAny (model X.prog X.w) X.A (isTrue e X.env whole) (TP X pins σ Q) X.xe s:=⟨fun h=>h.go⟩
theorem PW.pt {X:Cx} {e:Expr} {t:TT} (h:PW X e t):PT X e t:=⟨h.go _⟩
structure PA (X:Cx) (es:List Expr) (t:TA):Prop where
 go:∀ (pos:Pos) (pins:List (Addr×Obj)) (s:Shared) (σ:St) (H:Hp) (Q:List V→Hp→Prop),Inv X pins σ H s→t σ H Q→wpAny (model X.prog X.w) X.A (spliced (backTo pos (starEach es X.env))) (AP X pins σ Q) X.xe s
instance {X:Cx} {es:List Expr} {t:TA}:CoeFun (PA X es t) fun _=>∀ (pos:Pos) (pins:List (Addr×Obj)) (s:Shared) (σ:St) (H:Hp) (Q:List V→Hp→Prop),Inv X pins σ H s→t σ H Q→wpAny (model X.prog X.w) X.A (spliced (backTo pos (starEach es X.env))) (AP X pins σ Q) X.xe s:=⟨fun h=>h.go⟩
structure PS (X:Cx) (st:Stmt) (t:TS):Prop where
 go:∀ (pins:List (Addr×Obj)) (s:Shared) (σ:St) (H:Hp) (D:Ends),Inv X pins σ H s→t D σ H→wpAny (model X.prog X.w) X.A (exec st X.env) (SP X pins D) X.xe s
instance {X:Cx} {st:Stmt} {t:TS}:CoeFun (PS X st t) fun _=>∀ (pins:List (Addr×Obj)) (s:Shared) (σ:St) (H:Hp) (D:Ends),Inv X pins σ H s→t D σ H→wpAny (model X.prog X.w) X.A (exec st X.env) (SP X pins D) X.xe s:=⟨fun h=>h.go⟩
structure PSs (X:Cx) (st:List Stmt) (t:TS):Prop where
 go:∀ (pins:List (Addr×Obj)) (s:Shared) (σ:St) (H:Hp) (D:Ends),Inv X pins σ H s→t D σ H→wpAny (model X.prog X.w) X.A (execs st X.env) (SP X pins D) X.xe s
instance {X:Cx} {st:List Stmt} {t:TS}:CoeFun (PSs X st t) fun _=>∀ (pins:List (Addr×Obj)) (s:Shared) (σ:St) (H:Hp) (D:Ends),Inv X pins σ H s→t D σ H→wpAny (model X.prog X.w) X.A (execs st X.env) (SP X pins D) X.xe s:=⟨fun h=>h.go⟩
theorem thn {α:Type} {t:Sem α} {Q Q' : α→Shared→Prop} {M:Model} {A:Around} {E:Value→Shared→Prop} {s:Shared} (h:wpAny M A t Q E s) (hQ:∀ a s,Q a s→Q' a s):wpAny M A t Q' E s:=wpAny_mono h hQ fun _ _ x=>x
section
variable {X:Cx}
theorem bin {a b:Expr} {ta tb:TE} (ha:PE X a ta) (hb:PE X b tb) {pins:List (Addr×Obj)} {s:Shared} {σ:St} {H:Hp} {R:V→V→Hp→Prop} (I:Inv X pins σ H s) (h:ta σ H fun x H1=>tb σ H1 fun y H2=>R x y H2)
 {α:Type} {Q : α→Shared→Prop} {f:Value→Value→Sem α}
 (hf:∀ v u s2 x y H2,Inv X pins σ H2 s2→a9 x v→a9 y u→R x y H2→wpAny (model X.prog X.w) X.A (f v u) Q X.xe s2) :
 wpAny (model X.prog X.w) X.A (eval a X.env) (fun v s₁=>wpAny (model X.prog X.w) X.A (eval b X.env) (fun u s₂=>wpAny (model X.prog X.w) X.A (f v u) Q X.xe s₂) X.xe s₁) X.xe s:=by
 refine thn (ha pins s σ H _ I h) fun v s1 ⟨x,H1,I1,r1,q1⟩=>?_
 refine thn (hb pins s1 σ H1 _ I1 q1) fun u s2 ⟨y,H2,I2,r2,q2⟩=>?_
 exact hf v u s2 x y H2 I2 r1 r2 q2
def tVar (i:Nat):TE:=fun σ H Q=>∃ v,σ[i]? = some (some v)∧Q v H
def tC (v:V):TE:=fun _ H Q=>Q v H
theorem eT {i:Nat} {x:Str} {pos:Pos} (hN:X.N[i]? = some x) (hv:Vis X.env.scope x) (hd:(x == ("__debug__":Str))=false:=by decide) (hcd:(x == ("__classdict__":Str))=false:=by decide):PE X (.Name x pos) (tVar i):=by
 (try refine ⟨?_⟩); intro pins s σ H Q I h
 obtain ⟨v,e,h⟩:=h
 obtain ⟨m,hn,hl⟩:=I.loc
 obtain ⟨u,r,l⟩:=hl i x v hN e hv
 have fin:EP X pins σ Q u s:=⟨v,H,I,r,h⟩
 rcases l with ⟨hk,hm⟩ | ⟨hk,c,hc,hcell⟩
 ·exact wpAny_Name (wpAny_loadName_local I.ok.kind hk hn hm fin) hd
 ·rcases hk with hk | hk
  ·exact wpAny_Name (wpAny_loadName_cell I.ok.kind hk hc hcell fin) hd
  ·exact wpAny_Name (wpAny_loadName_free I.ok.kind hk hc hcell fin hcd) hd
theorem vy {i j pos}:PE X (.Constant (.int i) j pos) (tC (.int i)):=⟨fun _ _ _ H _ I h=>wpAny_Constant_int ⟨.int i,H,I.tok _,⟨_,rfl⟩,h⟩⟩
theorem pe_bl {b j pos}:PE X (.Constant (.bool b) j pos) (tC (.bl b)):=⟨fun _ _ _ H _ I h=>Constant_bool ⟨.bl b,H,I,rfl,h⟩⟩
theorem uY {j pos}:PE X (.Constant .none j pos) (tC .non):=⟨fun _ _ _ H _ I h=>Constant_none ⟨.non,H,I,rfl,h⟩⟩
def Gl (X:Cx) (x:Str):Prop:=X.env.kindOf x=some .globalImplicit
theorem mq {E:Value→Shared→Prop} {pins:List (Addr×Obj)} {s:Shared} {σ:St} {H:Hp} {x:Str} {u:Value} {pos:Pos} {Q:Value→Shared→Prop} (I:Inv X pins σ H s) (hg:Gl X x) (hm:X.mg x=some u) (h:Q u s)
 (hd:(x == ("__debug__":Str))=false:=by decide):wpAny (model X.prog X.w) X.A (eval (.Name x pos) X.env) Q E s :=
 Calls.Name_function_global I.ok.kind hg (Calls.loadGlobal_global (by rw [I.ok.glob]; exact I.mod.glob.keeps I.bk) hm h) hd
theorem eB {E:Value→Shared→Prop} {pins:List (Addr×Obj)} {s:Shared} {σ:St} {H:Hp} {x:Str} {u:Value} {pos:Pos} {Q:Value→Shared→Prop} (I:Inv X pins σ H s) (hg:Gl X x) (hm:X.mg x=none) (hv:bootBuiltins x=some u) (h:Q u s)
 (hn:x ≠ "__name__":=by decide) (hd:(x == ("__debug__":Str))=false:=by decide):wpAny (model X.prog X.w) X.A (eval (.Name x pos) X.env) Q E s:=by
 obtain ⟨mb,h1,h2⟩:=I.mod.blt
 exact Calls.Name_function_global I.ok.kind hg (Calls.loadGlobal_builtin (by rw [I.ok.glob]; exact I.mod.glob.keeps I.bk) hm (by rw [I.ok.blt]; exact h1.keeps I.bk) ((h2 x hn).trans hv) h) hd
theorem rF {x:Str} {v:V} {u:Value} {pos:Pos} (hg:Gl X x) (hm:X.mg x=some u) (r:a9 v u) (hd:(x == ("__debug__":Str))=false:=by decide):PE X (.Name x pos) (tC v):=⟨fun _ _ _ H _ I h=>mq I hg hm ⟨v,H,I,r,h⟩ hd⟩
theorem cN {x:Str} {v:V} {u:Value} {pos:Pos} (hg:Gl X x) (hm:X.mg x=none) (hv:bootBuiltins x=some u) (r:a9 v u) (hn:x ≠ "__name__":=by decide) (hd:(x == ("__debug__":Str))=false:=by decide):PE X (.Name x pos) (tC v):=⟨fun _ _ _ H _ I h=>eB I hg hm hv ⟨v,H,I,r,h⟩ hn hd⟩
variable {a b:Expr} {ta tb:TE} {pos:Pos}
def tB (t:TE):TT:=fun σ H Q=>t σ H fun x H1=>∃ c,x = .bl c∧Q c H1
theorem xc {e:Expr} {t:TE} (h:PE X e t) (he:∀ whole,isTrue e X.env whole=(do let v ← whole; standAt e.pos; holding [v] (truthy v)):=by intro _; rfl):PT X e (tB t):=by
 (try refine ⟨?_⟩); intro pins s σ H Q I hw
 refine isTrue_plain (thn (h pins s σ H _ I hw) fun v s1 ⟨x,H1,I1,r1,q1⟩=>?_) (he _)
 obtain ⟨d,rfl,q⟩:=q1
 cases r1
 exact wpAny_truthy_bool ⟨H1,I1,q⟩
variable {tA tB':TT} {rest:List Expr}
def tAnd (t u:TT):TT:=fun σ H Q=>t σ H fun c H1=>if c=true then u σ H1 Q else Q false H1
def tOr (t u:TT):TT:=fun σ H Q=>t σ H fun c H1=>if c=true then Q true H1 else u σ H1 Q
def tNot (t:TT):TT:=fun σ H Q=>t σ H fun c H1=>Q (!c) H1
theorem sh (ha:PT X a tA):PW X (.BoolOp .And [a] pos) tA:=by
 (try refine ⟨?_⟩); intro wh pins s σ H Q I h
 refine isTrue_and (thn (ha pins s σ H Q I h) fun c s1 e=>?_)
 cases c with
 | true=>exact isTrue_and_nil e
 | false=>exact e
theorem vA (ha:PT X a tA):PW X (.BoolOp .Or [a] pos) tA:=by
 (try refine ⟨?_⟩); intro wh pins s σ H Q I h
 refine isTrue_or (thn (ha pins s σ H Q I h) fun c s1 e=>?_)
 cases c with
 | false=>exact isTrue_or_nil e
 | true=>exact e
theorem vK (ha:PT X a tA) (hb:PW X (.BoolOp .And (b :: rest) pos) tB'):PW X (.BoolOp .And (a :: b :: rest) pos) (tAnd tA tB'):=by
 (try refine ⟨?_⟩); intro wh pins s σ H Q I h
 refine isTrue_and (thn (ha pins s σ H _ I h) fun c s1 ⟨H1,I1,q1⟩=>?_)
 cases c with
 | true=>exact hb wh pins s1 σ H1 Q I1 q1
 | false=>exact ⟨H1,I1,q1⟩
theorem pw_or (ha:PT X a tA) (hb:PW X (.BoolOp .Or (b :: rest) pos) tB'):PW X (.BoolOp .Or (a :: b :: rest) pos) (tOr tA tB'):=by
 (try refine ⟨?_⟩); intro wh pins s σ H Q I h
 refine isTrue_or (thn (ha pins s σ H _ I h) fun c s1 ⟨H1,I1,q1⟩=>?_)
 cases c with
 | true=>exact ⟨H1,I1,q1⟩
 | false=>exact hb wh pins s1 σ H1 Q I1 q1
theorem we (ha:PT X a tA):PT X (.UnaryOp .Not a pos) (tNot tA):=by
 (try refine ⟨?_⟩); intro pins s σ H Q I h
 exact isTrue_not (ha pins s σ H (fun c H1=>Q (!c) H1) I h)
def tAndV (ta tb:TE):TE:=fun σ H Q=>ta σ H fun x H1=>∃ c,x = .bl c∧if c=true then tb σ H1 Q else Q (.bl false) H1
def tNotV (ta:TE):TE:=fun σ H Q=>ta σ H fun x H1=>∃ c,x = .bl c∧Q (.bl (!c)) H1
theorem u5 {op} {t:TE} (h:PE X a t):PE X (.BoolOp op [a] pos) t:=⟨fun pins s σ H Q I hw=>BoolOp_one (h pins s σ H Q I hw)⟩
theorem uK (ha:PE X a ta) (hb:PE X (.BoolOp .And (b :: rest) pos) tb):PE X (.BoolOp .And (a :: b :: rest) pos) (tAndV ta tb):=by
 (try refine ⟨?_⟩); intro pins s σ H Q I h
 refine BoolOp_and (thn (ha pins s σ H _ I h) fun v s1 ⟨x,H1,I1,r1,q1⟩=>?_)
 obtain ⟨c,rfl,q1⟩:=q1
 cases r1
 refine wpAny_truthy_bool ?_
 cases c with
 | true=>exact hb pins s1 σ H1 Q I1 q1
 | false=>exact ⟨.bl false,H1,I1,rfl,q1⟩
theorem vT (ha:PE X a ta):PE X (.UnaryOp .Not a pos) (tNotV ta):=by
 (try refine ⟨?_⟩); intro pins s σ H Q I h
 refine UnaryOp_ (thn (ha pins s σ H _ I h) fun v s1 ⟨x,H1,I1,r1,q1⟩=>?_)
 obtain ⟨c,rfl,q1⟩:=q1
 cases r1
 exact not_of (wpAny_truthy_bool ⟨.bl (!c),H1,I1,rfl,q1⟩)
def tIf (t:TT) (ta tb:TE):TE:=fun σ H Q=>t σ H fun c H1=>if c=true then ta σ H1 Q else tb σ H1 Q
theorem oY {c:Expr} (hc:PT X c tA) (ha:PE X a ta) (hb:PE X b tb):PE X (.IfExp c a b pos) (tIf tA ta tb):=by
 (try refine ⟨?_⟩); intro pins s σ H Q I h
 refine wpAny_IfExp (thn (hc pins s σ H _ I h) fun d s1 ⟨H1,I1,q1⟩=>?_)
 cases d with
 | true=>exact ha pins s1 σ H1 Q I1 q1
 | false=>exact hb pins s1 σ H1 Q I1 q1
end
def SqL (K:PySem.W.Frag) (H:Hp) (a:Addr) (xs:List V):Prop :=
 Rd H a (.lst xs) ∨
  ∃ (o:Obj) (its:Array Value) (n:Nat),K.lookup a=some o∧o.cls = .type "list" ∧ o.dict=none∧o.data = .seq its n∧its.size≤sizeLine∧aY xs its.toList
def SqT (K:PySem.W.Frag) (H:Hp) (a:Addr) (xs:List V):Prop :=
 Rd H a (.tup xs) ∨
  ∃ (o:Obj) (its:Array Value) (n:Nat),K.lookup a=some o∧o.cls = .type "tuple" ∧ o.data = .seq its n∧its.size≤sizeLine∧aY xs its.toList
def absV:Value→Option V
 | .none=>some .non
 | .bool b=>some (.bl b)
 | .int i _=>some (.int i)
 | .str x _=>some (.str x)
 | .bytes b _=>some (.byt b)
 | .float b _=>some (.flt b)
 | .ref a=>some (.ref a)
 | .type n=>some (.ty n)
 | _=>none
theorem a9.abs {x:V} {u:Value} (r:a9 x u):absV u=some x:=by
 cases x with
 | non=>cases r; rfl
 | bl _=>cases r; rfl
 | int _=>obtain ⟨t,rfl⟩:=r; rfl
 | str _=>obtain ⟨t,rfl⟩:=r; rfl
 | byt _=>obtain ⟨t,rfl⟩:=r; rfl
 | flt _=>obtain ⟨t,rfl⟩:=r; rfl
 | ref _=>cases r; rfl
 | ty _=>cases r; rfl
theorem a9.inj {x y:V} {u:Value} (r:a9 x u) (q:a9 y u):x=y:=Option.some.inj (r.abs.symm.trans q.abs)
theorem aY.inj:∀ {xs ys:List V} {us:List Value},aY xs us→aY ys us→xs=ys
 | _,_,_,.nil,.nil=>rfl
 | _,_,_,.cons r t,.cons r' t'=>by rw [r.inj r',aY.inj t t']
section
variable {X:Cx} {pins:List (Addr×Obj)} {σ:St} {H:Hp} {s:Shared} {a:Addr} {xs ys:List V}
theorem SqL.of {K:PySem.W.Frag} (h:H a=some (.lst xs)):SqL K H a xs:=.inl (.inl h)
theorem SqT.of {K:PySem.W.Frag} (h:H a=some (.tup xs)):SqT K H a xs:=.inl (.inl h)
theorem Inv.list (I:Inv X pins σ H s) (h:SqL X.K H a xs):∃ its:List Value,aY xs its∧PlainL s.heap a its.toArray∧xs.length≤sizeLine:=by
 rcases h with h | ⟨o,its,n,hk,hc,hd,hs,hz,r⟩
 ·obtain ⟨z,its,n,r,e⟩:=h.ok I.hok
  exact ⟨its,r,⟨_,n,e,rfl,rfl,rfl⟩,z⟩
 ·refine ⟨its.toList,r,⟨o,n,I.kIn a o hk,hc,hd,by simpa using hs⟩,?_⟩
  have e:=r.length
  simp only [Array.length_toList] at e
  omega
theorem Inv.tuple (I:Inv X pins σ H s) (h:SqT X.K H a xs):∃ its:List Value,aY xs its∧IsTup s.heap a its.toArray∧xs.length≤sizeLine:=by
 rcases h with h | ⟨o,its,n,hk,hc,hs,hz,r⟩
 ·obtain ⟨z,its,r,p⟩:=h.ok I.hok
  exact ⟨its,r,p,z⟩
 ·refine ⟨its.toList,r,⟨o,I.kIn a o hk,hc,n,by simpa using hs⟩,?_⟩
  have e:=r.length
  simp only [Array.length_toList] at e
  omega
theorem Inv.list_inj (I:Inv X pins σ H s) (h:SqL X.K H a xs) (h':SqL X.K H a ys):xs=ys:=by
 obtain ⟨its,r,⟨o,n,e,_,_,d⟩,_⟩:=I.list h
 obtain ⟨its',r',⟨o',n',e',_,_,d'⟩,_⟩:=I.list h'
 rw [e] at e'; cases e'
 rw [d] at d'
 injection d' with d1 _
 have:its=its':=by simpa using congrArg Array.toList d1
 subst this
 exact r.inj r'
end
abbrev Cx.wish (X:Cx) (E:Value→Shared→Prop):Cx:={ X with xe:=E }
abbrev Cx.nox (X:Cx):Cx:=X.wish fun _ _=>False
theorem Cx.Ok.wish {X:Cx} (ok:X.Ok) (E:Value→Shared→Prop):(X.wish E).Ok :=
 ⟨ok.mod,ok.kind,ok.glob,ok.blt,ok.above,ok.inj,ok.has,ok.cab,ok.hd,ok.frames,ok.stk,ok.exf,ok.bs,ok.bsz,ok.noex,ok.exfs,ok.funs,ok.frf,ok.tb⟩
theorem Cx.Ok.unwish {X:Cx} {E:Value→Shared→Prop} (ok:(X.wish E).Ok):X.Ok :=
 ⟨ok.mod,ok.kind,ok.glob,ok.blt,ok.above,ok.inj,ok.has,ok.cab,ok.hd,ok.frames,ok.stk,ok.exf,ok.bs,ok.bsz,ok.noex,ok.exfs,ok.funs,ok.frf,ok.tb⟩
section
variable {X:Cx} {pins:List (Addr×Obj)} {σ:St} {H:Hp} {s:Shared} {E:Value→Shared→Prop}
theorem Inv.wish (I:Inv X pins σ H s) (E:Value→Shared→Prop):Inv (X.wish E) pins σ H s:=⟨I.ok.wish E,I.os,I.bare,I.base,I.loc,I.cell,I.free,I.freeC,I.pin,I.hok,I.len⟩
theorem Inv.unwish (I:Inv (X.wish E) pins σ H s):Inv X pins σ H s:=⟨I.ok.unwish,I.os,I.bare,I.base,I.loc,I.cell,I.free,I.freeC,I.pin,I.hok,I.len⟩
theorem SP.unwish {D:Ends} {f:Flow} {s':Shared} (h:SP (X.wish E) pins D f s'):SP X pins D f s':=by
 cases f with
 | next=>obtain ⟨σ',H',I,q⟩:=h; exact ⟨σ',H',I.unwish,q⟩
 | brk=>obtain ⟨σ',H',I,q⟩:=h; exact ⟨σ',H',I.unwish,q⟩
 | cont=>obtain ⟨σ',H',I,q⟩:=h; exact ⟨σ',H',I.unwish,q⟩
 | ret u=>obtain ⟨v,σ',H',I,r,q⟩:=h; exact ⟨v,σ',H',I.unwish,r,q⟩
theorem PSs.nox {st:List Stmt} {t:TS} (h:PSs X.nox st t):PSs X st t:=⟨fun pins s σ H D I hw =>
 wpAny_mono (h pins s σ H D (I.wish _) hw) (fun _ _ q=>q.unwish) fun _ _ z=>False.elim z⟩
end
section
variable {X:Cx} {st:Stmt} {rest:List Stmt} {t u:TS} {e:Expr} {te:TE} {pos:Pos}
def tNext:TS:=fun D σ H=>D.nx σ H
def tSeq (t u:TS):TS:=fun D σ H=>t { D with nx:=u D } σ H
theorem sW:PSs X [] tNext:=⟨fun _ _ σ H _ I h=>wpAny_execs_nil ⟨σ,H,I,h⟩⟩
theorem qP (h1:PS X st t) (h2:PSs X rest u):PSs X (st :: rest) (tSeq t u):=by
 (try refine ⟨?_⟩); intro pins s σ H D I h
 refine wpAny_execs_cons (thn (h1 pins s σ H { D with nx:=u D } I h) fun f s1 q=>?_)
 cases f with
 | next =>
  obtain ⟨σ',H',I',q⟩:=q
  exact h2 pins s1 σ' H' D I' q
 | ret v=>exact q
 | brk=>exact q
 | cont=>exact q
theorem sL (h1:PS X st t):PSs X [st] t:=by
 (try refine ⟨?_⟩); intro pins s σ H D I h
 refine wpAny_execs_cons (thn (h1 pins s σ H D I h) fun f s1 q=>?_)
 cases f with
 | next=>exact wpAny_execs_nil q
 | ret v=>exact q
 | brk=>exact q
 | cont=>exact q
theorem Inv.quiet {pins:List (Addr×Obj)} {σ:St} {H:Hp} {s:Shared} (I:Inv X pins σ H s):interactive X.env=false:=by simp [interactive,I.ok.kind]
def tDrop (te:TE):TS:=fun D σ H=>te σ H fun _ H1=>D.nx σ H1
theorem jq (he:PE X e te) (hs:swapsWith e none pos.line X.env=pure false:=by rfl):PS X (.Expr e pos) (tDrop te):=by
 (try refine ⟨?_⟩); intro pins s σ H D I h
 exact wpAny_Expr_any (thn (he pins s σ H _ I h) fun v s1 ⟨x,H1,I1,r1,q1⟩=>⟨σ,H1,I1,q1⟩) I.quiet hs
def tRet (te:TE):TS:=fun D σ H=>te σ H D.rt
theorem n9 (he:PE X e te):PS X (.Return (some e) pos) (tRet te):=by
 (try refine ⟨?_⟩); intro pins s σ H D I h
 exact wpAny_Return_some (thn (he pins s σ H _ I h) fun v s1 ⟨x,H1,I1,r1,q1⟩=>⟨x,σ,H1,I1,r1,q1⟩)
def tIfS (c:TT) (t u:TS):TS:=fun D σ H=>c σ H fun b H1=>if b=true then t D σ H1 else u D σ H1
theorem ps_if {c:Expr} {a b:List Stmt} {tc:TT} (hc:PT X c tc) (ha:PSs X a t) (hb:PSs X b u):PS X (.If c a b pos) (tIfS tc t u):=by
 (try refine ⟨?_⟩); intro pins s σ H D I h
 refine wpAny_If (thn (hc pins s σ H _ I h) fun d s1 ⟨H1,I1,q1⟩=>?_)
 cases d with
 | true=>exact ha pins s1 σ H1 D I1 q1
 | false=>exact hb pins s1 σ H1 D I1 q1
def wO:TS:=fun _ _ _=>False
theorem qN:PS X st wO:=⟨fun _ _ _ _ _ _ h=>h.elim⟩
end
abbrev TG:=V→St→Hp→(St→Hp→Prop)→Prop
abbrev TGs:=List V→St→Hp→(St→Hp→Prop)→Prop
structure PG (X:Cx) (target:Expr) (t:TG):Prop where
 go:∀ (pins:List (Addr×Obj)) (s:Shared) (σ:St) (H:Hp) (v:V) (u:Value) (Q:St→Hp→Prop),Inv X pins σ H s→a9 v u→t v σ H Q →
  wpAny (model X.prog X.w) X.A (assign target X.env u) (fun _ s'=>∃ σ' H',Inv X pins σ' H' s'∧Q σ' H') X.xe s
instance {X:Cx} {target:Expr} {t:TG}:CoeFun (PG X target t) fun _=>∀ (pins:List (Addr×Obj)) (s:Shared) (σ:St) (H:Hp) (v:V) (u:Value) (Q:St→Hp→Prop),Inv X pins σ H s→a9 v u→t v σ H Q →
 wpAny (model X.prog X.w) X.A (assign target X.env u) (fun _ s'=>∃ σ' H',Inv X pins σ' H' s'∧Q σ' H') X.xe s:=⟨fun h=>h.go⟩
structure PGs (X:Cx) (ts:List Expr) (t:TGs):Prop where
 go:∀ (pins:List (Addr×Obj)) (s:Shared) (σ:St) (H:Hp) (vs:List V) (us:List Value) (Q:St→Hp→Prop),Inv X pins σ H s→aY vs us→t vs σ H Q →
  wpAny (model X.prog X.w) X.A (assignInOrder ((assignEach ts X.env).map (·.2)) us) (fun _ s'=>∃ σ' H',Inv X pins σ' H' s'∧Q σ' H') X.xe s
instance {X:Cx} {ts:List Expr} {t:TGs}:CoeFun (PGs X ts t) fun _=>∀ (pins:List (Addr×Obj)) (s:Shared) (σ:St) (H:Hp) (vs:List V) (us:List Value) (Q:St→Hp→Prop),Inv X pins σ H s→aY vs us→t vs σ H Q →
 wpAny (model X.prog X.w) X.A (assignInOrder ((assignEach ts X.env).map (·.2)) us) (fun _ s'=>∃ σ' H',Inv X pins σ' H' s'∧Q σ' H') X.xe s:=⟨fun h=>h.go⟩
abbrev rh:=V→V→V→Hp→(Hp→Prop)→Prop
def PSet (X:Cx) (t:rh):Prop :=
 ∀ (pins:List (Addr×Obj)) (s:Shared) (σ:St) (H:Hp) (o i v:V) (ov iv u:Value) (Q:Hp→Prop),Inv X pins σ H s→a9 o ov→a9 i iv→a9 v u→t o i v H Q →
  wpAny (model X.prog X.w) X.A (setItem ov iv u) (fun _ s'=>∃ H',Inv X pins σ H' s'∧Q H') X.xe s
abbrev TIp:=V→V→Hp→VK→Prop
def PIp (X:Cx) (op:Operator) (t:TIp):Prop :=
 ∀ (pins:List (Addr×Obj)) (s:Shared) (σ:St) (H:Hp) (x y:V) (v u:Value) (Q:VK),Inv X pins σ H s→a9 x v→a9 y u→t x y H Q →
  wpAny (model X.prog X.w) X.A (inplaceOp op v u) (EP X pins σ Q) X.xe s
section
variable {X:Cx} {pos:Pos}
def iL (i:Nat):TG:=fun v σ H Q=>Q (σ.set i (some v)) H
theorem bg {i:Nat} {x:Str} (hN:X.N.Nodup) (hi:X.N[i]? = some x) (hx:Loc X.env.scope x) (hf:X.fn x=true∨X.env.scope.names.lookup x=some .local:=by first | exact .inl rfl | exact .inr rfl | assumption):PG X (.Name x pos) (iL i):=by
 (try refine ⟨?_⟩); intro pins s σ H v u Q I r h
 exact wpAny_assign_Name (f9 I hN hi hx r (fun s' I'=>⟨_,H,I',h⟩) hf)
def gNil:TGs:=fun vs σ H Q=>vs=[]∧Q σ H
def gCons (t:TG) (u:TGs):TGs:=fun vs σ H Q=>∃ v r,vs=v :: r∧t v σ H fun σ' H'=>u r σ' H' Q
theorem mo:PGs X [] gNil:=by
 (try refine ⟨?_⟩); intro pins s σ H vs us Q I r h
 obtain ⟨e,h⟩:=h
 subst e
 cases r
 exact assignInOrder_nil ⟨σ,H,I,h⟩
theorem g_ {e:Expr} {es:List Expr} {t:TG} {u:TGs} (h1:PG X e t) (h2:PGs X es u)
 (hs:(assignEach (e :: es) X.env).map (·.2)=assign e X.env :: (assignEach es X.env).map (·.2):=by rfl):PGs X (e :: es) (gCons t u):=by
 (try refine ⟨?_⟩); intro pins s σ H vs us Q I r h
 obtain ⟨v,vr,e1,h⟩:=h
 subst e1
 cases r with
 | cons r rr =>
  rw [hs]
  refine assignInOrder_cons (thn (h1 pins s σ H _ _ _ I r h) fun _ s1 ⟨σ1,H1,I1,q1⟩=>?_)
  exact h2 pins s1 σ1 H1 _ _ Q I1 rr q1
def gTup (K:PySem.W.Frag) (n:Nat) (t:TGs):TG:=fun v σ H Q=>∃ a xs,v = .ref a∧SqT K H a xs∧xs.length=n∧t xs σ H Q
theorem qG {es:List Expr} {k:Nat} {t:TGs} {n:Nat} (hc:X.calm=true) (h:PGs X es t)
 (hn:(assignEach es X.env).length=n:=by rfl) (hst:(assignEach es X.env).findIdx? (·.1)=none:=by rfl):PG X (.Tuple es k pos) (gTup X.K n t):=by
 (try refine ⟨?_⟩); intro pins s σ H v u Q I r hw
 obtain ⟨a,xs,e1,hq,hl,hw⟩:=hw
 subst e1
 cases r
 obtain ⟨its,rv,ht,hz⟩:=I.tuple hq
 refine assign_Tuple_tuple (I.ok.hd hc) ht (by simp [hn,← hl,rv.length]) hst fun h' hx=>?_
 have I1:Inv X pins σ H { s with heap:=h' }:=I.kept (t':=s.toks) fun b o e=>hx b o (Nat.ne_of_lt (Heap.lt_size e)) e
 exact h pins _ σ H xs _ Q I1 (by simpa using rv) hw
def gSub (to ti:TE) (t:rh):TG:=fun v σ H Q=>to σ H fun o H1=>ti σ H1 fun i H2=>t o i v H2 fun H3=>Q σ H3
theorem vS {o i:Expr} {to ti:TE} {t:rh} (ho:PE X o to) (hi:PE X i ti) (hs:PSet X t)
 (ha:∀ v,assign (.Subscript o i pos) X.env v=(do
  let ov ← holding [v] (eval o X.env)
  let iv ← holding [v,ov] (eval i X.env)
  standAt pos
  holding [v,ov,iv] (setItem ov iv v)
  release [v,ov,iv] []):=by intro _; rfl):PG X (.Subscript o i pos) (gSub to ti t):=by
 (try refine ⟨?_⟩); intro pins s σ H v u Q I r h
 rw [ha]
 refine wpAny_bind (wpAny_holding (thn (ho pins s σ H _ I h) fun ov s1 ⟨x,H1,I1,r1,q1⟩=>?_))
 refine wpAny_bind (wpAny_holding (thn (hi pins s1 σ H1 _ I1 q1) fun iv s2 ⟨y,H2,I2,r2,q2⟩=>?_))
 refine wpAny_bind (wpAny_standAt (wpAny_bind (wpAny_holding (thn (hs pins s2 σ H2 x y v ov iv u _ I2 r1 r2 r q2) fun _ s3 ⟨H3,I3,q3⟩=>?_))))
 exact wpAny_release ⟨σ,H3,I3,q3⟩
def qF (te:TE) (g:TG):TS:=fun D σ H=>te σ H fun x H1=>g x σ H1 D.nx
theorem k9 {tg e:Expr} {te:TE} {g:TG} (he:PE X e te) (hg:PG X tg g) (hs:swapsWithSole [tg] e pos.line X.env=pure false:=by rfl) (hw:swappedStores [tg] e X.env=pure none:=by rfl)
 (h1:(assignEach [tg] X.env).map (·.2)=[assign tg X.env]:=by rfl):PS X (.Assign [tg] e pos) (qF te g):=by
 (try refine ⟨?_⟩); intro pins s σ H D I h
 refine wpAny_Assign_stores (thn (he pins s σ H _ I h) fun v s1 ⟨x,H1,I1,r1,q1⟩=>?_) hs hw
 rw [h1]
 exact thn (hg pins s1 σ H1 x v _ I1 r1 q1) fun _ s2 q=>q
theorem n5 {i:Nat} {x:Str} {e:Expr} {te:TE} {pos':Pos} (hN:X.N.Nodup) (hi:X.N[i]? = some x) (hx:Loc X.env.scope x) (he:PE X e te) (hs:swapsWith e (some (.Name x pos')) pos.line X.env=pure false:=by rfl) (hf:X.fn x=true∨X.env.scope.names.lookup x=some .local:=by first | exact .inl rfl | exact .inr rfl | assumption) :
 PS X (.Assign [.Name x pos'] e pos) (qF te (iL i)):=by
 (try refine ⟨?_⟩); intro pins s σ H D I h
 refine wpAny_Assign_Name (thn (he pins s σ H _ I h) fun v s1 ⟨y,H1,I1,r1,q1⟩=>?_) hs
 exact f9 I1 hN hi hx r1 (fun s2 I2=>⟨_,H1,I2,q1⟩) hf
def tPar (i j:Nat) (ta:TA):TS:=fun D σ H=>ta σ H fun vs H1=>∃ v w,vs=[v,w]∧D.nx ((σ.set i (some v)).set j (some w)) H1
theorem wu {i j:Nat} {x y:Str} {a b:Expr} {ta:TA} {px py pt:Pos} {kt k2 pt2} (hc:X.calm=true) (hN:X.N.Nodup) (hi:X.N[i]? = some x) (hj:X.N[j]? = some y) (hij:i≠j)
 (hx:X.env.scope.names.lookup x=some .local) (hy:X.env.scope.names.lookup y=some .local) (ha:PA X [a,b] ta)
 (hw:swappedStores [.Tuple [.Name x px,.Name y py] kt pt] (.Tuple [a,b] k2 pt2) X.env=pure (some [x,y]))
 (hs:swapsWithSole [.Tuple [.Name x px,.Name y py] kt pt] (.Tuple [a,b] k2 pt2) pos.line X.env=pure false:=by rfl) :
 PS X (.Assign [.Tuple [.Name x px,.Name y py] kt pt] (.Tuple [a,b] k2 pt2) pos) (tPar i j ta):=by
 (try refine ⟨?_⟩); intro pins s σ H D I h
 rw [exec_Assign_arm]
 refine wpAny_bind (wpAny_standAt ?_)
 rw [hs]
 refine wpAny_bind (wpAny_pure ?_)
 rw [if_neg (by decide)]
 refine wpAny_bind (Tuple_ (thn (ha _ pins s σ H _ I h) fun us s1 ⟨vs,H1,I1,r1,q1⟩=>?_))
 obtain ⟨v,w,e1,q1⟩:=q1
 subst e1
 obtain ⟨u1,u2,rfl,rv,rw'⟩:∃ u1 u2,us=[u1,u2]∧a9 v u1∧a9 w u2:=by
  cases r1 with
  | cons p q =>
   cases q with
   | cons p' q' =>
    cases q'
    exact ⟨_,_,rfl,p,p'⟩
 refine wpAny_newObj_type ?_ (by show 2≤sizeLine; decide)
 have I2:Inv X pins σ H1 { s1 with heap:=s1.heap.push { cls:=.type "tuple",data:=.seq [u1,u2].toArray } }:=I1.kept (t':=s1.toks) fun b o e=>Heap.get?_push_of_some _ e
 rw [hw]
 refine wpAny_bind (wpAny_pure ?_)
 show wpAny (model X.prog X.w) X.A (do rule "assign.swapped-stores"; let items ← unpackItems (.ref s1.heap.objs.size) 2 none; assignInOrder [fun v=>bindName X.env y v,fun v=>bindName X.env x v] items.reverse; pure Flow.next) _ _ _
 refine wpAny_bind (wpAny_rule (wpAny_bind (unpackItems_tuple (items:=#[u1,u2]) (I.ok.hd hc) (IsTup.new s1.heap _) fun h' hx'=>?_)))
 have I3:=I2.kept (h':=h') (t':=s1.toks) fun b o e=>hx' b o (Nat.ne_of_lt (Heap.lt_size e)) e
 show wpAny _ _ (assignInOrder [fun v=>bindName X.env y v,fun v=>bindName X.env x v] [u2,u1] >>= fun _=>pure Flow.next) _ _ _
 refine wpAny_bind (assignInOrder_cons (wpAny_bindName (f9 I3 hN hj (.inl hy) rw' (fun s2 I4=>?_) (.inr hy))))
 refine assignInOrder_cons (wpAny_bindName (f9 I4 hN hi (.inl hx) rv (fun s3 I5=>assignInOrder_nil (wpAny_pure ?_)) (.inr hx)))
 rw [List.set_comm _ _ (Ne.symm hij)] at I5
 exact ⟨_,H1,I5,q1⟩
def tAugS (to ti te:TE) (tget:V→V→Hp→VK→Prop) (tip:TIp) (tset:rh):TS:=fun D σ H=>to σ H fun o H1=>ti σ H1 fun i H2=>tget o i H2 fun x H3=>te σ H3 fun y H4=>tip x y H4 fun z H5=>tset o i z H5 fun H6=>D.nx σ H6
def PGet (X:Cx) (t:V→V→Hp→VK→Prop):Prop :=
 ∀ (pins:List (Addr×Obj)) (s:Shared) (σ:St) (H:Hp) (o i:V) (ov iv:Value) (Q:VK),Inv X pins σ H s→a9 o ov→a9 i iv→t o i H Q →
  wpAny (model X.prog X.w) X.A (getItem ov iv) (EP X pins σ Q) X.xe s
theorem rS {o i e:Expr} {to ti te:TE} {tget:V→V→Hp→VK→Prop} {tip:TIp} {tset:rh} {op:Operator} {tpos:Pos} (ho:PE X o to) (hi:PE X i ti) (hg:PGet X tget) (he:PE X e te) (hp:PIp X op tip) (hs:PSet X tset)
 (ha:∀ ov iv new,augStore i ov iv new=(do holding [new,ov,iv] (setItem ov iv new); release [new,ov,iv] []; pure .next):=by intros; rfl):PS X (.AugAssign (.Subscript o i tpos) op e pos) (tAugS to ti te tget tip tset):=by
 (try refine ⟨?_⟩); intro pins s σ H D I h
 refine wpAny_AugAssign_SubscriptAny (thn (ho pins s σ H _ I h) fun ov s1 ⟨x1,H1,I1,r1,q1⟩=>?_) ha
 refine thn (hi pins s1 σ H1 _ I1 q1) fun iv s2 ⟨x2,H2,I2,r2,q2⟩=>?_
 refine thn (hg pins s2 σ H2 x1 x2 ov iv _ I2 r1 r2 q2) fun old s3 ⟨x3,H3,I3,r3,q3⟩=>?_
 refine thn (he pins s3 σ H3 _ I3 q3) fun v s4 ⟨x4,H4,I4,r4,q4⟩=>?_
 refine thn (hp pins s4 σ H4 x3 x4 old v _ I4 r3 r4 q4) fun new s5 ⟨x5,H5,I5,r5,q5⟩=>?_
 exact thn (hs pins s5 σ H5 x1 x2 x5 ov iv new _ I5 r1 r2 r5 q5) fun _ s6 ⟨H6,I6,q6⟩=>⟨σ,H6,I6,q6⟩
def ipI (f:Int→Int→Int):TIp:=fun x y H Q=>∃ i j,x = .int i∧y = .int j∧Q (.int (f i j)) H
theorem vt:PIp X .Add (ipI fun i j=>i + j):=by
 (try refine ⟨?_⟩); intro pins s σ H x y v u Q I r1 r2 h
 obtain ⟨i,j,e1,e2,q⟩:=h
 subst e1; subst e2
 obtain ⟨t,rfl⟩:=r1
 obtain ⟨t',rfl⟩:=r2
 exact iadd_int ⟨.int _,H,I.tok _,⟨_,rfl⟩,q⟩
end
section
variable {X:Cx} {pos:Pos}
def uv (c:TT) (tb:TS):TS:=fun D σ H=>∃ W:Nat→St→Hp→Prop,(∃ m,W m σ H)∧∀ m σ H,W m σ H →
 c σ H fun b H1=>if b=true then ∃ N:St→Hp→Prop,(∀ σ' H',N σ' H'→∃ m',m'<m∧W m' σ' H')∧tb { D with nx:=N,ct:=N,bk:=D.nx } σ H1 else D.nx σ H1
theorem qX {c:Expr} {body:List Stmt} {tc:TT} {tb:TS} (hp:PassesOwn (model X.prog X.w) X.A X.env X.xe) (hc:PT X c tc) (hb:PSs X body tb):PS X (.While c body [] pos) (uv tc tb):=by
 (try refine ⟨?_⟩); intro pins s σ H D I h
 obtain ⟨W,⟨m0,w0⟩,turn⟩:=h
 refine wpAny_While (codeAny_whileLoop (fun n s'=>∃ σ' H',Inv X pins σ' H' s'∧W n σ' H') ?_ m0 ⟨σ,H,I,w0⟩)
 rintro n s1 ⟨σ1,H1,I1,w1⟩
 refine wpAny_passesOwn hp (thn (hc pins s1 σ1 H1 _ I1 (turn n σ1 H1 w1)) fun b s2 ⟨H2,I2,q2⟩=>?_)
 cases b with
 | true =>
  obtain ⟨N,hN,q2⟩:=q2
  rw [if_pos rfl]
  refine wpAny_passesOwn hp (thn (hb pins s2 σ1 H2 _ I2 q2) fun f s3 q3=>?_)
  cases f with
  | next =>
   obtain ⟨σ3,H3,I3,n3⟩:=q3
   obtain ⟨m',hm,w3⟩:=hN σ3 H3 n3
   exact ⟨m',hm,σ3,H3,I3,w3⟩
  | cont =>
   obtain ⟨σ3,H3,I3,n3⟩:=q3
   obtain ⟨m',hm,w3⟩:=hN σ3 H3 n3
   exact ⟨m',hm,σ3,H3,I3,w3⟩
  | brk=>exact q3
  | ret v=>exact q3
 | false =>
  rw [if_neg Bool.false_ne_true]
  exact wpAny_execs_nil ⟨σ1,H2,I2,q2⟩
end
structure It where
 go:Nat→Hp→Prop
 yld:Nat→Hp→V→Hp→Prop
 stop:Nat→Hp→Prop
def jA (X:Cx) (pins:List (Addr×Obj)) (H:Hp) (b:Addr):Prop :=
 H b=none∧b≠X.env.locals∧b ∉ X.fs∧(b∈X.ex∨X.s₀.heap.objs.size≤b)∧(∀ x c,X.env.cells.lookup x=some c→c≠b)∧∀ p∈X.pn++pins,p.1≠b
theorem Inv.fpOk {X:Cx} {pins:List (Addr×Obj)} {σ:St} {H H':Hp} {s:Shared} {b:Addr} (I:Inv X pins σ H s) (hb:s.heap.objs.size≤b) (hn:H' b=none):jA X pins H' b:=by
 refine ⟨hn,Nat.ne_of_gt (Nat.lt_of_lt_of_le I.lt hb),I.nofs hb,.inr (Nat.le_trans I.sz hb),fun x c e z=>?_,fun p hp z=>?_⟩
 ·obtain ⟨v,q⟩:=I.cell x c e
  exact absurd (Nat.lt_of_lt_of_le q.lt (by rw [z]; exact hb)) (Nat.lt_irrefl _)
 ·exact absurd (Nat.lt_of_lt_of_le (Heap.lt_size (I.pin p hp).1) (by rw [z]; exact hb)) (Nat.lt_irrefl _)
structure Turn (P:Program) (w:World) (K:PySem.W.Frag) (tg:Expr) (J:It) (fp:List Addr) (it:Addr) (tn:Nat→Heap→Prop):Prop where
 mem:it∈fp
 obj:∀ i h,tn i h→∀ b∈fp,∃ o,h.get? b=some o∧∀ v,o.data≠.cell v
 keep:∀ i h h',tn i h→(∀ b∈fp,∀ o,h.get? b=some o→h'.get? b=some o)→tn i h'
 item:∀ (X:Cx),X.prog=P→X.w=w→X.K=K→X.calm=true→∀ (i:Nat) (pins:List (Addr×Obj)) (s:Shared) (σ:St) (H:Hp) (E:Value→Shared→Prop),Inv X pins σ H s→(∀ b∈fp,jA X pins H b)→tn i s.heap→J.go i H →
  wpAny (model P w) X.A (pyNext (.ref it)) (fun r s1=>∃ u,r=some u ∧
   wpAny (model P w) X.A (letOwnedTupleGo tg (.ref it) u) (fun _ s2=>∃ x H',Inv X pins σ H' s2∧a9 x u∧J.yld i H x H'∧tn (i + 1) s2.heap∧∀ b∈fp,H' b=none) E s1) E s
 done:∀ (X:Cx),X.prog=P→X.w=w→X.K=K→X.calm=true→∀ (i:Nat) (pins:List (Addr×Obj)) (s:Shared) (σ:St) (H:Hp) (E:Value→Shared→Prop),Inv X pins σ H s→(∀ b∈fp,jA X pins H b)→tn i s.heap→J.stop i H →
  wpAny (model P w) X.A (pyNext (.ref it)) (fun r s1=>r=none∧Inv X pins σ H s1) E s
 self:∀ (A:Around) (i:Nat) (s:Shared) (Q:Value→Shared→Prop) (E:Value→Shared→Prop),tn i s.heap→Q (.ref it) s→wpAny (model P w) A (pyIter (.ref it)) Q E s
abbrev TI:=St→Hp→(It→Hp→Prop)→Prop
def PIE (X:Cx) (pins:List (Addr×Obj)) (σ:St) (tg:Expr) (R:It→Hp→Prop) (itv:Value) (s2:Shared):Prop :=
 ∃ (it:Addr) (fp:List Addr) (tn:Nat→Heap→Prop) (J:It) (H':Hp),itv = .ref it∧Inv X pins σ H' s2∧Turn X.prog X.w X.K tg J fp it tn∧tn 0 s2.heap∧(∀ b∈fp,jA X pins H' b)∧R J H'
structure PI (X:Cx) (tg iter:Expr) (wi:TI):Prop where
 go:∀ (pins:List (Addr×Obj)) (s:Shared) (σ:St) (H:Hp) (R:It→Hp→Prop),Inv X pins σ H s→wi σ H R →
  wpAny (model X.prog X.w) X.A (eval iter X.env) (fun v s1=>wpAny (model X.prog X.w) X.A (pyIter v) (PIE X pins σ tg R) X.xe s1) X.xe s
instance {X:Cx} {tg iter:Expr} {wi:TI}:CoeFun (PI X tg iter wi) fun _=>∀ (pins:List (Addr×Obj)) (s:Shared) (σ:St) (H:Hp) (R:It→Hp→Prop),Inv X pins σ H s→wi σ H R →
 wpAny (model X.prog X.w) X.A (eval iter X.env) (fun v s1=>wpAny (model X.prog X.w) X.A (pyIter v) (PIE X pins σ tg R) X.xe s1) X.xe s:=⟨fun h=>h.go⟩
theorem p8 {M:Model} {A:Around} {E:Value→Shared→Prop} {s:Shared} {tg:Expr} {it:Addr} {u:Value} {o:Obj} {n:String} {vs:Array Value} {Q:Unit→Shared→Prop} (ho:s.heap.get? it=some o) (hc:o.cls = .type n) (hd:o.data = .fields vs)
 (hn : ["enumerate","zip","dict_itemiterator","dict_reverseitemiterator","odict_iterator","itertools.zip_longest","itertools.pairwise"].contains n=false) (hQ:Q () s):wpAny M A (letOwnedTupleGo tg (.ref it) u) Q E s:=by
 unfold letOwnedTupleGo
 cases tg <;> first
  | exact wpAny_pure hQ
  | (cases u <;> first
   | exact wpAny_pure hQ
   | (refine wpAny_bind (wpAny_load ho ?_)
      rw [hc,hd]
      show wpAny M A (if (["enumerate","zip","dict_itemiterator","dict_reverseitemiterator","odict_iterator","itertools.zip_longest","itertools.pairwise"].contains n&&vs[0]? == some (rawInt _))=true then _ else _) Q E s
      rw [if_neg (by intro h; rw [hn,Bool.false_and] at h; cases h)]
      exact wpAny_pure hQ))
def Itl (K:PySem.W.Frag) (a:Addr):It :=
 ⟨fun i H=>∃ xs x,SqL K H a xs∧xs[i]? = some x,fun i H x H'=>H'=H∧∀ xs,SqL K H a xs→xs[i]? = some x,fun i H=>∃ xs,SqL K H a xs∧xs.length≤i⟩
def Itr (lo:Int) (n:Nat):It:=⟨fun i _=>i<n,fun i H x H'=>H'=H∧x = .int (lo + i),fun i _=>n≤i⟩
theorem mQ {P:Program} {w:World} {K:PySem.W.Frag} {tg:Expr} (a it:Addr):Turn P w K tg (Itl K a) [it] it (fun i h=>h.IsListIter it a i) where
 mem:=by simp
 obj:=fun i h st b hb=>by
  have e:b=it:=by simpa using hb
  subst e
  obtain ⟨o,e,c,d⟩:=st
  exact ⟨o,e,fun v z=>by rw [d] at z; cases z⟩
 keep:=fun i h h' st k=>st.at fun o e=>k it (by simp) o e
 item:=by
  intro X hP hw hK hc i pins s σ H E I hf st hg
  subst hP hw hK
  obtain ⟨xs,x,hq,hx⟩:=hg
  obtain ⟨its,rv,p,hz⟩:=I.list hq
  obtain ⟨u,hu,ru⟩:=rv.get hx
  obtain ⟨f0,f1,f2,f3,f4,f5⟩:=hf it (by simp)
  refine wpAny_pyNext_list_item st p.isList (x:=u) (by simpa using hu) fun h' st' sb=>?_
  have I1:Inv X pins σ H { s with heap:=h' }:=I.turned (t':=s.toks) (fun b o hb e=>(sb.2 b hb).trans e) f0 f1 f3 f4 f5
  obtain ⟨o,e,c,d⟩:=id st'
  exact ⟨u,rfl,p8 (s:={ s with heap:=h' }) e c d (by decide) ⟨x,H,I1,ru,⟨rfl,fun ys hy=>by rw [I.list_inj hy hq]; exact hx⟩,st',fun b hb=>(hf b hb).1⟩⟩
 done:=by
  intro X hP hw hK hc i pins s σ H E I hf st hg
  subst hP hw hK
  obtain ⟨xs,hq,hx⟩:=hg
  obtain ⟨its,rv,p,hz⟩:=I.list hq
  obtain ⟨f0,f1,f2,f3,f4,f5⟩:=hf it (by simp)
  have hl:=rv.length
  exact wpAny_pyNext_list_end (I.ok.hd hc) st p.isList (by simp; omega) fun h' eb=>⟨rfl,I.turned (t':=s.toks) (fun b o hb e=>eb b o hb e) f0 f1 f3 f4 f5⟩
 self:=fun _ _ _ _ _ st h=>wpAny_pyIter_listiter st h
theorem lR {P:Program} {w:World} {K:PySem.W.Frag} {tg:Expr} (it:Addr) (lo:Int) (n:Nat):Turn P w K tg (Itr lo n) [it] it (fun i h=>IsRangeIter h it (lo + (i:Nat) * 1) ((n:Int) - (i:Nat)) 1) where
 mem:=by simp
 obj:=fun i h st b hb=>by
  have e:b=it:=by simpa using hb
  subst e
  exact ⟨_,st,fun v z=>by
   have z':Data.fields _=Data.cell v:=z
   cases z'⟩
 keep:=fun i h h' st k=>k it (by simp) _ st
 item:=by
  intro X hP hw hK hc i pins s σ H E I hf st hg
  subst hP hw hK
  obtain ⟨f0,f1,f2,f3,f4,f5⟩:=hf it (by simp)
  have W:=Walks.range (prog:=X.prog) (w:=X.w) (I.ok.hd hc) it lo 1 n
  refine W.item i s _ _ hg st fun v h' tk hv st' kk=>?_
  obtain ⟨t,rfl⟩:=hv
  have I1:Inv X pins σ H { s with heap:=h',toks:=tk }:=I.turned (fun b o hb e=>kk b o (by simpa using hb) e) f0 f1 f3 f4 f5
  refine ⟨_,rfl,p8 (s:={ s with heap:=h',toks:=tk }) (n:="range_iterator") st' rfl rfl (by decide) ⟨.int (lo + i),H,I1,⟨t,?_⟩,⟨rfl,rfl⟩,st',fun b hb=>(hf b hb).1⟩⟩
  rw [Int.mul_one]
 done:=by
  intro X hP hw hK hc i pins s σ H E I hf st hg
  subst hP hw hK
  obtain ⟨f0,f1,f2,f3,f4,f5⟩:=hf it (by simp)
  exact wpAny_pyNext_range_end (I.ok.hd hc) st (by have:n≤i:=hg; omega) fun h' eb=>⟨rfl,I.turned (t':=s.toks) (fun b o hb e=>eb b o hb e) f0 f1 f3 f4 f5⟩
 self:=fun _ _ _ _ _ st h=>wpAny_pyIter_rangeiter st h
section
variable {X:Cx} {tg:Expr}
def iList (K:PySem.W.Frag) (tl:TE):TI:=fun σ H R=>tl σ H fun x H1=>∃ a,x = .ref a∧(∃ xs,SqL K H1 a xs)∧R (Itl K a) H1
theorem tE {l:Expr} {tl:TE} (hl:PE X l tl):PI X tg l (iList X.K tl):=by
 (try refine ⟨?_⟩); intro pins s σ H R I h
 refine thn (hl pins s σ H _ I h) fun v s1 ⟨x,H1,I1,r1,q1⟩=>?_
 obtain ⟨a,e,⟨xs,hq⟩,q⟩:=q1
 subst e
 cases r1
 obtain ⟨its,rv,p,hz⟩:=I1.list hq
 refine wpAny_pyIter_list p.isList ?_
 refine ⟨s1.heap.objs.size,[s1.heap.objs.size],_,_,H1,rfl,I1.kept (t':=s1.toks) fun b o e=>Heap.get?_push_of_some _ e,mQ a _,⟨_,Heap.get?_push_size _ rfl,rfl,rfl⟩,fun b hb=>?_,q⟩
 have e:b=s1.heap.objs.size:=by simpa using hb
 subst e
 exact I1.fpOk (Nat.le_refl _) (I1.hok.fresh (Nat.le_refl _))
theorem kA {pins:List (Addr×Obj)} {σ:St} {H:Hp} {s:Shared} {R:It→Hp→Prop} {E:Value→Shared→Prop} {lo hi:Int} {t u v:Tok} {tk:Nat} (I:Inv X pins σ H s) (h1 : -(2 ^ 62)≤lo) (h2:lo<2 ^ 62) (h3 : -(2 ^ 62)≤hi) (h4:hi<2 ^ 62)
 (q:R (Itr lo (hi - lo).toNat) H):wpAny (model X.prog X.w) X.A (pyIter (.ref s.heap.objs.size)) (PIE X pins σ tg R) E { s with heap:=s.heap.push { cls:=.type "range",data:=.fields #[.int lo t,.int hi u,.int 1 v] },toks:=tk }:=by
 refine wpAny_pyIter_range (IsRange.new ..) (small_one h1 h2 h3 h4) ?_
 have I1:Inv X pins σ H { s with heap:=s.heap.push { cls:=.type "range",data:=.fields #[.int lo t,.int hi u,.int 1 v] },toks:=tk }:=I.kept fun b o e=>Heap.get?_push_of_some _ e
 refine ⟨(s.heap.push { cls:=.type "range",data:=.fields #[.int lo t,.int hi u,.int 1 v] }).objs.size,[(s.heap.push { cls:=.type "range",data:=.fields #[.int lo t,.int hi u,.int 1 v] }).objs.size],_,_,H,rfl,
  I1.kept (t':=tk) fun b o e=>Heap.get?_push_of_some _ e,lR _ lo (hi - lo).toNat,?_,fun b hb=>?_,q⟩
 ·have e1:lo + ((0:Nat):Int) * 1=lo:=by simp
  have e2:(((hi - lo).toNat:Nat):Int) - ((0:Nat):Int)=Builtin.Range.rangeSize lo hi 1:=by rw [rangeSize_one]; split <;> omega
  show IsRangeIter _ _ (lo + ((0:Nat):Int) * 1) ((((hi - lo).toNat:Nat):Int) - ((0:Nat):Int)) 1
  rw [e1,e2]
  exact Heap.get?_push_size _ rfl
 ·have e:b=(s.heap.push { cls:=.type "range",data:=.fields #[.int lo t,.int hi u,.int 1 v] }).objs.size:=by simpa using hb
  subst e
  exact I1.fpOk (Nat.le_refl _) (I1.hok.fresh (Nat.le_refl _))
def iRng1 (ta:TA):TI:=fun σ H R=>ta σ H fun vs H1=>∃ j:Int,vs=[.int j]∧-(2 ^ 62)≤j∧j<2 ^ 62∧R (Itr 0 j.toNat) H1
def iRng2 (ta:TA):TI:=fun σ H R=>ta σ H fun vs H1=>∃ i j:Int,vs=[.int i,.int j]∧(-(2 ^ 62)≤i∧i<2 ^ 62∧-(2 ^ 62)≤j∧j<2 ^ 62)∧R (Itr i (j - i).toNat) H1
theorem nD {a:Expr} {ta:TA} {p pos:Pos} (hg:Gl X "range") (hm:X.mg "range" = none) (ha:PA X [a] ta) (hs:starEach [a] X.env=[(false,eval a X.env)]:=by rfl):PI X tg (.Call (.Name "range" p) [a] [] pos) (iRng1 ta):=by
 (try refine ⟨?_⟩); intro pins s σ H R I h
 refine Call_ (eB I hg hm boot_range (PyProof.Rows.callWith_type1 (thn (ha pos pins s σ H _ I h) fun us s1 ⟨vs,H1,I1,r1,q1⟩=>?_) hs rfl))
 obtain ⟨j,e,q1,q2,q⟩:=q1
 subst e
 cases r1 with
 | cons r rr =>
  cases rr
  obtain ⟨t,rfl⟩:=r
  exact call_range_1 (kA I1 (by omega) (by omega) q1 q2 (by simpa using q))
theorem na {a b:Expr} {ta:TA} {p pos:Pos} (hg:Gl X "range") (hm:X.mg "range" = none) (ha:PA X [a,b] ta) (hs:starEach [a,b] X.env=[(false,eval a X.env),(false,eval b X.env)]:=by rfl) (hs2:starEach [b] X.env=[(false,eval b X.env)]:=by rfl) :
 PI X tg (.Call (.Name "range" p) [a,b] [] pos) (iRng2 ta):=by
 (try refine ⟨?_⟩); intro pins s σ H R I h
 refine Call_ (eB I hg hm boot_range (PyProof.Rows.callWith_type1 (thn (ha pos pins s σ H _ I h) fun us s1 ⟨vs,H1,I1,r1,q1⟩=>?_) (by rw [hs,hs2]) (by rw [hs2]; rfl)))
 obtain ⟨i,j,e,⟨q1,q2,q3,q4⟩,q⟩:=q1
 subst e
 cases r1 with
 | cons r rr =>
  cases rr with
  | cons r' rr =>
   cases rr
   obtain ⟨t,rfl⟩:=r
   obtain ⟨t',rfl⟩:=r'
   exact call_range_2 (kA I1 q1 q2 q3 q4 q)
def tFor (wi:TI) (g:TG) (tb:TS):TS:=fun D σ H=>wi σ H fun J H1=>∃ W:Nat→Nat→St→Hp→Prop,(∃ m,W 0 m σ H1)∧∀ i m σ H,W i m σ H →
 (J.stop i H∧D.nx σ H)∨(J.go i H∧∃ N:St→Hp→Prop,(∀ σ' H',N σ' H'→∃ m',m'<m∧W (i + 1) m' σ' H')∧∀ x H',J.yld i H x H'→g x σ H' fun σ2 H2=>tb { D with nx:=N,ct:=N,bk:=D.nx } σ2 H2)
def ib (fp:List Addr) (h:Heap):List (Addr×Obj):=fp.filterMap fun b=>(h.get? b).map fun o=>(b,o)
theorem cL {fp:List Addr} {h:Heap} {b:Addr} {o:Obj} (hb:b∈fp) (e:h.get? b=some o):(b,o)∈ib fp h:=List.mem_filterMap.mpr ⟨b,hb,by rw [e]; rfl⟩
theorem ja {fp:List Addr} {h:Heap} {p:Addr×Obj} (hp:p∈ib fp h):p.1∈fp∧h.get? p.1=some p.2:=by
 obtain ⟨b,hb,e⟩:=List.mem_filterMap.mp hp
 cases q:h.get? b with
 | none=>rw [q] at e; cases e
 | some o =>
  rw [q] at e
  have e':(b,o)=p:=Option.some.inj e
  subst e'
  exact ⟨hb,q⟩
theorem Inv.pinned {pins:List (Addr×Obj)} {σ:St} {H:Hp} {s:Shared} {fp:List Addr} (I:Inv X pins σ H s) (hf:∀ b∈fp,jA X pins H b) (ho:∀ b∈fp,∃ o,s.heap.get? b=some o∧∀ v,o.data≠.cell v):Inv X (pins++ib fp s.heap) σ H s :=
 I.pins_of fun p hp=>(List.mem_append.mp hp).elim (fun z=>I.pin p (List.mem_append_right _ z)) fun z=>by
  obtain ⟨hb,e⟩:=ja z
  obtain ⟨f0,f1,f2,_⟩:=hf p.1 hb
  obtain ⟨o,e',d⟩:=ho p.1 hb
  rw [e] at e'; cases e'
  exact ⟨e,f0,f1,f2,d⟩
theorem Inv.unpinned {pins pl:List (Addr×Obj)} {σ:St} {H:Hp} {s:Shared} (I:Inv X (pins++pl) σ H s):Inv X pins σ H s:=I.pins_of fun p hp=>I.pin p (List.mem_append_right _ (List.mem_append_left _ hp))
theorem vP {iter:Expr} {body:List Stmt} {wi:TI} {g:TG} {tb:TS} {pos:Pos} (hp:PassesOwn (model X.prog X.w) X.A X.env X.xe) (hc:X.calm=true) (hi:PI X tg iter wi) (hg:PG X tg g) (hb:PSs X body tb)
 (hs:∀ x,foldedSetIterable iter X.env x=pure x:=by intro _; rfl):PS X (.For tg iter body [] pos) (tFor wi g tb):=by
 (try refine ⟨?_⟩); intro pins s σ H D I h
 refine wpAny_For (thn (hi pins s σ H _ I h) fun v s1 h1=>thn h1 fun itv s2 h2=>?_) hs
 obtain ⟨it,fp,tn,J,H2,e,I2,T,st2,f2,W,⟨m0,w0⟩,turn⟩:=h2
 subst e
 -- what stays true of the iterator's objects through the loop
 have stat:∀ {H':Hp},(∀ b∈fp,H' b=none)→∀ b∈fp,jA X pins H' b:=fun hn b hb=>⟨hn b hb,(f2 b hb).2⟩
 refine codeAny_forLoop_any (fun n s'=>∃ i σ' H',Inv X pins σ' H' s'∧tn i s'.heap∧(∀ b∈fp,H' b=none)∧W i n σ' H') ?_ m0 ⟨0,σ,H2,I2,st2,fun b hb=>(f2 b hb).1,w0⟩
 rintro n s3 ⟨i,σ3,H3,I3,st3,fr3,w3⟩
 rcases turn i n σ3 H3 w3 with ⟨stop,qn⟩ | ⟨go,N,hN,step⟩
 ·refine wpAny_passesOwn hp (thn (T.done X rfl rfl rfl hc i pins s3 σ3 H3 X.xe I3 (stat fr3) st3 stop) fun r s4 ⟨hr,I4⟩=>?_)
  subst hr
  exact wpAny_execs_nil ⟨σ3,H3,I4,qn⟩
 ·refine wpAny_passesOwn hp (thn (T.item X rfl rfl rfl hc i pins s3 σ3 H3 X.xe I3 (stat fr3) st3 go) fun r s4 ⟨u,hr,h4⟩=>?_)
  subst hr
  refine wpAny_passesOwn hp (thn h4 fun _ s5 ⟨x,H5,I5,r5,y5,st5,fr5⟩=>?_)
  have I5':=I5.pinned (stat fr5) (T.obj _ _ st5)
  refine wpAny_passesOwn hp (thn (hg _ s5 σ3 H5 x u _ I5' r5 (step x H5 y5)) fun _ s6 ⟨σ6,H6,I6,q6⟩=>?_)
  refine wpAny_passesOwn hp (thn (hb _ s6 σ6 H6 _ I6 q6) fun f s7 q7=>?_)
  have again:∀ {σ7:St} {H7:Hp},Inv X (pins++ib fp s5.heap) σ7 H7 s7→N σ7 H7→∃ m,m<n∧∃ i σ' H',Inv X pins σ' H' s7∧tn i s7.heap∧(∀ b∈fp,H' b=none)∧W i m σ' H':=fun {σ7 H7} I7 n7=>by
   obtain ⟨m',hm,w7⟩:=hN σ7 H7 n7
   refine ⟨m',hm,i + 1,σ7,H7,I7.unpinned,T.keep _ _ _ st5 fun b hb o e=>(I7.pin (b,o) (List.mem_append_right _ (List.mem_append_right _ (cL hb e)))).1,fun b hb=>?_,w7⟩
   obtain ⟨o,e,d⟩:=T.obj _ _ st5 b hb
   exact (I7.pin (b,o) (List.mem_append_right _ (List.mem_append_right _ (cL hb e)))).2.1
  cases f with
  | next=>obtain ⟨σ7,H7,I7,n7⟩:=q7; exact again I7 n7
  | cont=>obtain ⟨σ7,H7,I7,n7⟩:=q7; exact again I7 n7
  | brk=>obtain ⟨σ7,H7,I7,q7⟩:=q7; exact ⟨σ7,H7,I7.unpinned,q7⟩
  | ret v=>obtain ⟨x7,σ7,H7,I7,r7,q7⟩:=q7; exact ⟨x7,σ7,H7,I7.unpinned,r7,q7⟩
end
abbrev R2:=V→V→Hp→VK→Prop
def OpR (X:Cx) (f:Value→Value→Sem Value) (r:R2):Prop :=
 ∀ (pins:List (Addr×Obj)) (s:Shared) (σ:St) (H:Hp) (x y:V) (v u:Value) (Q:VK),Inv X pins σ H s→a9 x v→a9 y u→r x y H Q →
  wpAny (model X.prog X.w) X.A (f v u) (EP X pins σ Q) X.xe s
def UnR (X:Cx) (f:Value→Sem Value) (r:V→Hp→VK→Prop):Prop :=
 ∀ (pins:List (Addr×Obj)) (s:Shared) (σ:St) (H:Hp) (x:V) (v:Value) (Q:VK),Inv X pins σ H s→a9 x v→r x H Q →
  wpAny (model X.prog X.w) X.A (f v) (EP X pins σ Q) X.xe s
def dl (X:Cx) (f:Value) (r:List V→Hp→VK→Prop):Prop :=
 ∀ (pins:List (Addr×Obj)) (s:Shared) (σ:St) (H:Hp) (xs:List V) (us:List Value) (Q:VK),Inv X pins σ H s→aY xs us→r xs H Q →
  wpAny (model X.prog X.w) X.A (call f us) (EP X pins σ Q) X.xe s
def TruR (X:Cx) (r:V→Hp→(Bool→Hp→Prop)→Prop):Prop :=
 ∀ (pins:List (Addr×Obj)) (s:Shared) (σ:St) (H:Hp) (x:V) (v:Value) (Q:Bool→Hp→Prop),Inv X pins σ H s→a9 x v→r x H Q →
  wpAny (model X.prog X.w) X.A (truthy v) (TP X pins σ Q) X.xe s
def tOp (r:R2) (ta tb:TE):TE:=fun σ H Q=>ta σ H fun x H1=>tb σ H1 fun y H2=>r x y H2 Q
def tUn (r:V→Hp→VK→Prop) (ta:TE):TE:=fun σ H Q=>ta σ H fun x H1=>r x H1 Q
def rI (C:Int→Int→Prop) (g:Int→Int→V):R2:=fun x y H Q=>∃ i j,x = .int i∧y = .int j∧C i j∧Q (g i j) H
def rI0 (g:Int→Int→V):R2:=fun x y H Q=>∃ i j,x = .int i∧y = .int j∧Q (g i j) H
def rU (g:Int→V):V→Hp→VK→Prop:=fun x H Q=>∃ i,x = .int i∧Q (g i) H
section
variable {X:Cx} {a b c:Expr} {ta tb tc:TE} {pos:Pos}
theorem binT (ha:PE X a ta) (hb:PE X b tb) {pins:List (Addr×Obj)} {s:Shared} {σ:St} {H:Hp} {R:V→V→Hp→Prop} (I:Inv X pins σ H s)
 (h:ta σ H fun x H1=>tb σ H1 fun y H2=>R x y H2) {Q:Value→Shared→Prop} {f:Value→Value→Sem Value}
 (hf:∀ v u s2 x y H2,Inv X pins σ H2 s2→a9 x v→a9 y u→R x y H2→wpAny (model X.prog X.w) X.A (f v u) Q X.xe s2) :
 wpAny (model X.prog X.w) X.A (eval a X.env) (fun v s₁=>wpAny (model X.prog X.w) X.A (eval b X.env) (fun u s₂=>wpAny (model X.prog X.w) X.A (f v u) Q X.xe s₂) X.xe s₁) X.xe s:=by
 refine thn (ha pins s σ H _ I h) fun v s1 ⟨x,H1,I1,r1,q1⟩=>?_
 refine thn (hb pins s1 σ H1 _ I1 q1) fun u s2 ⟨y,H2,I2,r2,q2⟩=>?_
 exact hf v u s2 x y H2 I2 r1 r2 q2
theorem pT {op:Operator} {r:R2} (ho:OpR X (binaryOp op) r) (ha:PE X a ta) (hb:PE X b tb):PE X (.BinOp a op b pos) (tOp r ta tb):=by
 (try refine ⟨?_⟩); intro pins s σ H Q I h
 exact wpAny_BinOp (binT ha hb I h fun v u s2 x y H2 I2 rx ry q=>ho pins s2 σ H2 x y v u Q I2 rx ry q)
theorem pe_un {op:UnaryOp} {r:V→Hp→VK→Prop} (ho:UnR X (unaryOp op) r) (ha:PE X a ta):PE X (.UnaryOp op a pos) (tUn r ta):=by
 (try refine ⟨?_⟩); intro pins s σ H Q I h
 exact UnaryOp_ (thn (ha pins s σ H _ I h) fun v s1 ⟨x,H1,I1,r1,q1⟩=>ho pins s1 σ H1 x v Q I1 r1 q1)
theorem opI {f:Value→Value→Sem Value} {C:Int→Int→Prop} {g:Int→Int→Int}
 (rule:∀ (i j:Int) (t u:Tok) (s:Shared) (Q:Value→Shared→Prop) (E:Value→Shared→Prop),C i j→Q (.int (g i j) s.toks) { s with toks:=s.toks + 1 }→wpAny (model X.prog X.w) X.A (f (.int i t) (.int j u)) Q E s) :
 OpR X f (rI C fun i j=>.int (g i j)):=by
 (try refine ⟨?_⟩); intro pins s σ H x y v u Q I rx ry h
 obtain ⟨i,j,rfl,rfl,hc,q⟩:=h
 obtain ⟨t,rfl⟩:=rx
 obtain ⟨t',rfl⟩:=ry
 exact rule i j t t' s _ _ hc ⟨.int (g i j),H,I.tok _,⟨_,rfl⟩,q⟩
theorem opI0 {f:Value→Value→Sem Value} {g:Int→Int→Int}
 (rule:∀ (i j:Int) (t u:Tok) (s:Shared) (Q:Value→Shared→Prop) (E:Value→Shared→Prop),Q (.int (g i j) s.toks) { s with toks:=s.toks + 1 }→wpAny (model X.prog X.w) X.A (f (.int i t) (.int j u)) Q E s) :
 OpR X f (rI0 fun i j=>.int (g i j)):=by
 (try refine ⟨?_⟩); intro pins s σ H x y v u Q I rx ry h
 obtain ⟨i,j,rfl,rfl,q⟩:=h
 obtain ⟨t,rfl⟩:=rx
 obtain ⟨t',rfl⟩:=ry
 exact rule i j t t' s _ _ ⟨.int (g i j),H,I.tok _,⟨_,rfl⟩,q⟩
theorem opB0 {f:Value→Value→Sem Value} {g:Int→Int→Bool}
 (rule:∀ (i j:Int) (t u:Tok) (s:Shared) (Q:Value→Shared→Prop) (E:Value→Shared→Prop),Q (.bool (g i j)) s→wpAny (model X.prog X.w) X.A (f (.int i t) (.int j u)) Q E s) :
 OpR X f (rI0 fun i j=>.bl (g i j)):=by
 (try refine ⟨?_⟩); intro pins s σ H x y v u Q I rx ry h
 obtain ⟨i,j,rfl,rfl,q⟩:=h
 obtain ⟨t,rfl⟩:=rx
 obtain ⟨t',rfl⟩:=ry
 exact rule i j t t' s _ _ ⟨.bl (g i j),H,I,rfl,q⟩
def CDiv (i j:Int):Prop:=0<j∧j<1073741824
def CPow (i j:Int):Prop:=0≤j∧j≤1000000∧i.natAbs<2 ^ 64
def CMul (i j:Int):Prop:=(-(2 ^ 64)<i∧i<2 ^ 64)∨(-(2 ^ 64)<j∧j<2 ^ 64)
theorem CMul.ok {i j:Int} (h:CMul i j):IntMulOk i j:=by
 rcases h with ⟨h1,h2⟩ | ⟨h1,h2⟩
 ·exact .of_left (intBits_le_64 h1 h2)
 ·exact .of_right (intBits_le_64 h1 h2)
theorem bh:OpR X (binaryOp .Add) (rI0 fun i j=>.int (i + j)):=opI0 fun _ _ _ _ _ _ _ q=>add_int q
theorem bx:OpR X (binaryOp .Sub) (rI0 fun i j=>.int (i - j)):=opI0 fun _ _ _ _ _ _ _ q=>sub_int q
theorem cr:OpR X (binaryOp .Mult) (rI CMul fun i j=>.int (i * j)):=opI fun _ _ _ _ _ _ _ hc q=>mul_int q hc.ok
theorem l8:OpR X (binaryOp .FloorDiv) (rI CDiv fun i j=>.int (i / j)):=opI fun i j _ _ _ _ _ hc q=>by
 have h1:(0:Int)<j:=hc.1
 have h2:j<1073741824:=hc.2
 exact floordiv_int (by omega) (by rw [Int.fdiv_eq_ediv_of_nonneg i (by omega)]; exact q) (.inl (PyProof.noPylong_small (by omega)))
theorem dL:OpR X (binaryOp .Mod) (rI (fun _ j=>0<j) fun i j=>.int (i % j)):=opI fun i j _ _ _ _ _ hc q=>by
 have h1:(0:Int)<j:=hc
 exact mod_int' (by omega) (by rw [Int.fmod_eq_emod_of_nonneg i (by omega)]; exact q)
theorem jB:OpR X (binaryOp .Pow) (rI CPow fun i j=>.int (i ^ j.toNat)):=opI fun _ _ _ _ _ _ _ hc q=>pow_int_small hc.1 hc.2.1 hc.2.2 q
theorem unI {f:Value→Sem Value} {g:Int→Int}
 (rule:∀ (i:Int) (t:Tok) (s:Shared) (Q:Value→Shared→Prop) (E:Value→Shared→Prop),Q (.int (g i) s.toks) { s with toks:=s.toks + 1 }→wpAny (model X.prog X.w) X.A (f (.int i t)) Q E s) :
 UnR X f (rU fun i=>.int (g i)):=by
 (try refine ⟨?_⟩); intro pins s σ H x v Q I rx h
 obtain ⟨i,rfl,q⟩:=h
 obtain ⟨t,rfl⟩:=rx
 exact rule i t s _ _ ⟨.int (g i),H,I.tok _,⟨_,rfl⟩,q⟩
theorem u_:UnR X (unaryOp .USub) (rU fun i=>.int (-i)):=unI fun _ _ _ _ _ q=>neg_int q
end
section
variable {X:Cx} {a b c:Expr} {ta tb tc:TE} {pos:Pos}
theorem qr {pins:List (Addr×Obj)} {σ:St} {H:Hp} {s:Shared} {Q:VK} {k k':Bool} (I:Inv X pins σ H s) (q:Q (.bl k) H) (e:k=k'):EP X pins σ Q (.bool k') s:=by
 subst e
 exact ⟨.bl k,H,I,rfl,q⟩
theorem kG:OpR X (compareOp .Lt) (rI0 fun i j=>.bl (decide (i<j))):=opB0 fun _ _ _ _ _ _ _ q=>lt_int q
theorem gz:OpR X (compareOp .LtE) (rI0 fun i j=>.bl (decide (i≤j))):=opB0 fun _ _ _ _ _ _ _ q=>le_int q
theorem eG:OpR X (compareOp .Gt) (rI0 fun i j=>.bl (decide (j<i))):=opB0 fun _ _ _ _ _ _ _ q=>gt_int q
theorem tN:OpR X (compareOp .GtE) (rI0 fun i j=>.bl (decide (j≤i))):=opB0 fun _ _ _ _ _ _ _ q=>ge_int q
theorem vb:OpR X (compareOp .Is) (fun x y H Q=>y = .non∧Q (.bl (decide (x = .non))) H):=by
 (try refine ⟨?_⟩); intro pins s σ H x y v u Q I rx ry h
 obtain ⟨rfl,q⟩:=h
 cases ry
 refine is_none_gen (qr I q ?_)
 cases x <;> first
  | (cases rx; rfl)
  | (obtain ⟨t,rfl⟩:=rx; rfl)
theorem mJ:OpR X (compareOp .IsNot) (fun x y H Q=>y = .non∧Q (.bl (!decide (x = .non))) H):=by
 (try refine ⟨?_⟩); intro pins s σ H x y v u Q I rx ry h
 obtain ⟨rfl,q⟩:=h
 cases ry
 refine isnot_none_gen (qr I q ?_)
 cases x <;> first
  | (cases rx; rfl)
  | (obtain ⟨t,rfl⟩:=rx; rfl)
theorem aQ (b:Expr) {op:CmpOp} (h:op≠.In:=by decide) (h2:op≠.NotIn:=by decide):behindInMarks op b=false:=by
 have e1:(op == CmpOp.In)=false:=by cases op <;> first | rfl | exact absurd rfl h
 have e2:(op == CmpOp.NotIn)=false:=by cases op <;> first | rfl | exact absurd rfl h2
 cases b <;> simp [behindInMarks,e1,e2]
theorem sF {op:CmpOp} {r:R2} (ho:OpR X (compareOp op) r) (ha:PE X a ta) (hb:PE X b tb) (hm:behindInMarks op b=false):PE X (.Compare a [op] [b] pos) (tOp r ta tb):=by
 (try refine ⟨?_⟩); intro pins s σ H Q I h
 exact wpAny_Compare1 (binT ha hb I h fun v u s2 x y H2 I2 rx ry q=>ho pins s2 σ H2 x y v u Q I2 rx ry q) hm
def tZ (t:TE):TT:=fun σ H Q=>t σ H fun x H'=>∃ k,x = .bl k∧Q k H'
theorem su {op:CmpOp} {r:R2} (ho:OpR X (compareOp op) r) (ha:PE X a ta) (hb:PE X b tb) (hm:behindInMarks op b=false):PT X (.Compare a [op] [b] pos) (tZ (tOp r ta tb)):=by
 (try refine ⟨?_⟩); intro pins s σ H Q I h
 refine wpAny_isTrue_Compare1 (thn (ha pins s σ H _ I h) fun v s1 ⟨x,H1,I1,r1,q1⟩=>thn (hb pins s1 σ H1 _ I1 q1) fun u s2 ⟨y,H2,I2,r2,q2⟩ =>
  thn (ho pins s2 σ H2 x y v u _ I2 r1 r2 q2) fun c s3 ⟨z,H3,I3,r3,k,e,q3⟩=>?_) hm
 subst e
 cases r3
 exact wpAny_truthy_bool ⟨H3,I3,q3⟩
def q_ (r r':R2) (ta tb tc:TE):TE:=fun σ H Q=>ta σ H fun x H1=>tb σ H1 fun y H2=>r x y H2 fun z H3=>∃ k,z = .bl k ∧
 (if k=true then tc σ H3 fun w' H4=>r' y w' H4 Q else Q (.bl false) H3)
theorem oh {op op':CmpOp} {r r':R2} (ho:OpR X (compareOp op) r) (ho':OpR X (compareOp op') r') (ha:PE X a ta) (hb:PE X b tb) (hc:PE X c tc)
 (hm:lastMarks [op,op'] [b,c]=false:=by with_unfolding_all rfl):PE X (.Compare a [op,op'] [b,c] pos) (q_ r r' ta tb tc):=by
 (try refine ⟨?_⟩); intro pins s σ H Q I h
 refine Compare_chain (thn (ha pins s σ H _ I h) fun v s1 ⟨x,H1,I1,r1,q1⟩=>chain_link (thn (hb pins s1 σ H1 _ I1 q1) fun u s2 ⟨y,H2,I2,r2,q2⟩ =>
  thn (ho pins s2 σ H2 x y v u _ I2 r1 r2 q2) fun d s3 ⟨z,H3,I3,r3,k,e,q3⟩=>?_)) hm
 subst e
 cases r3
 refine wpAny_truthy_bool ?_
 cases k with
 | false=>exact ite_ff ⟨.bl false,H3,I3,rfl,q3⟩
 | true=>exact ite_tt (chain_last (thn (hc pins s3 σ H3 _ I3 q3) fun w' s4 ⟨z',H4,I4,r4,q4⟩=>ho' pins s4 σ H4 y z' u w' Q I4 r2 r4 q4))
def TruV (K:PySem.W.Frag) (x:V) (H:Hp) (k:Bool):Prop :=
 match x with
 | .non=>k=false
 | .bl b=>k=b
 | .int i=>k=(i != 0)
 | .str y=>y.length≤sizeLine∧k=((y.length:Int) != 0)
 | .byt y=>y.size≤sizeLine∧k=((y.size:Int) != 0)
 | .ref p=>(∃ xs,SqL K H p xs∧k = !xs.isEmpty)∨(∃ xs,SqT K H p xs∧k = !xs.isEmpty)∨∃ kvs,H p=some (.dK kvs)∧k = !kvs.isEmpty
 | _=>False
theorem kX {κ:Type} {kvs:List (κ×V)} {vs:List (κ×Value)} (r:KV kvs vs):(!vs.isEmpty) = !kvs.isEmpty:=by
 cases r <;> rfl
theorem ik {xs:List V} {its:List Value} (r:aY xs its):(!its.toArray.isEmpty) = !xs.isEmpty:=by
 cases r <;> simp
theorem fw:(sizeLine:Nat)<2 ^ 63:=by rw [sizeLine_eq]; decide
theorem vB:TruR X (fun x H Q=>∃ k,TruV X.K x H k∧Q k H):=by
 (try refine ⟨?_⟩); intro pins s σ H x v Q I rx h
 obtain ⟨k,e,q⟩:=h
 have hl:=fw
 have hs:sizeLine=16777216:=sizeLine_eq
 cases x with
 | non =>
  cases rx
  have e':k=false:=e
  subst e'
  exact truthy_none ⟨H,I,q⟩
 | bl b =>
  cases rx
  have e':k=b:=e
  subst e'
  exact wpAny_truthy_bool ⟨H,I,q⟩
 | int i =>
  obtain ⟨t,rfl⟩:=rx
  have e':k=(i != 0):=e
  subst e'
  exact PySem.P.truthy_int ⟨H,I,q⟩
 | str y =>
  obtain ⟨t,rfl⟩:=rx
  obtain ⟨hy,e'⟩:y.length≤sizeLine∧k=((y.length:Int) != 0):=e
  subst e'
  exact PySem.P.truthy_str (by omega) ⟨H,I.tok _,q⟩
 | byt y =>
  obtain ⟨t,rfl⟩:=rx
  obtain ⟨hy,e'⟩:y.size≤sizeLine∧k=((y.size:Int) != 0):=e
  subst e'
  exact PySem.W.truthy_bytes (by omega) ⟨H,I.tok _,q⟩
 | ref p =>
  cases rx
  have e':(∃ xs,SqL X.K H p xs∧k = !xs.isEmpty)∨(∃ xs,SqT X.K H p xs∧k = !xs.isEmpty)∨∃ kvs,H p=some (.dK kvs)∧k = !kvs.isEmpty:=e
  rcases e' with ⟨xs,hx,e'⟩ | ⟨xs,hx,e'⟩ | ⟨kvs,hx,e'⟩
  ·subst e'
   obtain ⟨its,r,pl,hz⟩:=I.list hx
   have hlen:=r.length
   exact wpAny_truthy_list pl.isList (by simp only [List.size_toArray]; omega) ⟨H,I.tok _,by rw [ik r]; exact q⟩
  ·subst e'
   obtain ⟨its,r,pl,hz⟩:=I.tuple hx
   have hlen:=r.length
   exact truthy_tuple pl (by simp only [List.size_toArray]; omega) ⟨H,I.tok _,by rw [ik r]; exact q⟩
  ·subst e'
   obtain ⟨hz,hS,vs,r,m⟩:kvs.length≤sizeLine∧(p == sysModules)=false∧∃ vs,KV kvs vs∧s.heap.DictOf (jO X.prog X.w) p vs:=I.hok p _ hx
   have hlen:kvs.length=vs.length:=Paired.length r
   exact wpAny_truthy_dict hS m (by omega) ⟨H,I.tok _,by rw [kX r]; exact q⟩
 | _=>exact (show False from e).elim
theorem qI (ha:PE X a ta) (he:∀ whole,isTrue a X.env whole=(do let v ← whole; standAt a.pos; holding [v] (truthy v))) :
 PT X a (fun σ H Q=>ta σ H fun x H'=>∃ k,TruV X.K x H' k∧Q k H'):=by
 (try refine ⟨?_⟩); intro pins s σ H Q I h
 exact isTrue_plain (thn (ha pins s σ H _ I h) fun v s1 ⟨x,H1,I1,r1,q1⟩=>vB pins s1 σ H1 x v Q I1 r1 q1) (he _)
theorem gA {x:V} {us:List Value} (r:aY [x] us):∃ u,us=[u]∧a9 x u:=by
 cases r with
 | cons r1 r2=>cases r2; exact ⟨_,rfl,r1⟩
theorem oZ {x y:V} {us:List Value} (r:aY [x,y] us):∃ u w',us=[u,w']∧a9 x u∧a9 y w':=by
 cases r with
 | cons r1 r2 =>
  cases r2 with
  | cons r3 r4=>cases r4; exact ⟨_,_,rfl,r1,r3⟩
theorem cI (hc:X.calm=true):dl X (.builtin "max") (fun xs H Q=>∃ i j,xs=[.int i,.int j]∧Q (.int (if j > i then j else i)) H):=by
 (try refine ⟨?_⟩); intro pins s σ H xs us Q I r h
 obtain ⟨i,j,rfl,q⟩:=h
 obtain ⟨u,w',rfl,⟨t,rfl⟩,⟨t',rfl⟩⟩:=oZ r
 refine max_two_ints (I.ok.hd hc) fun h' tk k=>⟨_,H,I.kept k,?_,q⟩
 by_cases hj:j > i
 ·rw [if_pos hj,if_pos hj]; exact ⟨_,rfl⟩
 ·rw [if_neg hj,if_neg hj]; exact ⟨_,rfl⟩
theorem iS (hc:X.calm=true):dl X (.builtin "min") (fun xs H Q=>∃ i j,xs=[.int i,.int j]∧Q (.int (if j<i then j else i)) H):=by
 (try refine ⟨?_⟩); intro pins s σ H xs us Q I r h
 obtain ⟨i,j,rfl,q⟩:=h
 obtain ⟨u,w',rfl,⟨t,rfl⟩,⟨t',rfl⟩⟩:=oZ r
 refine min_two_ints (I.ok.hd hc) fun h' tk k=>⟨_,H,I.kept k,?_,q⟩
 by_cases hj:j<i
 ·rw [if_pos hj,if_pos hj]; exact ⟨_,rfl⟩
 ·rw [if_neg hj,if_neg hj]; exact ⟨_,rfl⟩
theorem mL:dl X (.type "int") (fun xs H Q=>(∃ i,xs=[.int i]∧Q (.int i) H)∨∃ k,xs=[.bl k]∧Q (.int (if k then 1 else 0)) H):=by
 (try refine ⟨?_⟩); intro pins s σ H xs us Q I r h
 rcases h with ⟨i,rfl,q⟩ | ⟨k,rfl,q⟩
 ·obtain ⟨u,rfl,t,rfl⟩:=gA r
  exact call_int_int ⟨.int i,H,I,⟨_,rfl⟩,q⟩
 ·obtain ⟨u,rfl,r1⟩:=gA r
  cases r1
  exact call_int_bool ⟨.int (if k then 1 else 0),H,I.tok _,⟨_,rfl⟩,q⟩
end
structure ObjM (h:Heap) (x dx C:Addr) (mA:Str→Option Value):Prop where
 obj:h.get? x=some (PySem.W.instObj C dx)
 ns:h.Ns1 dx mA
 ne:dx≠x
theorem nv {h:Heap} {dx:Addr} {mA:Str→Option Value} (n:h.Ns1 dx mA):∃ od,h.get? dx=some od∧∀ name,PySem.W.lookIn name od=some (mA name):=by
 obtain ⟨o,es,ep,ho,hd,hk,_,hm⟩:=n
 refine ⟨o,ho,fun name=>?_⟩
 have e:=hm name
 unfold nsFind findBy at e
 rw [← Array.find?_toList] at e
 unfold PySem.W.lookIn
 rw [hd]
 dsimp only
 split
 ·rename_i y q
  rw [q] at e
  exact congrArg some e
 ·rename_i q
  rw [q] at e
  have a:es.toList.any (·.refKey)=false:=by
   rw [List.any_eq_false]
   intro y hy
   obtain ⟨z,t,hkey⟩:=hk y (Array.mem_toList_iff.mp hy)
   simp [DictEntry.refKey,hkey]
  have a' : ¬ es.toList.any (·.refKey)=true:=by rw [a]; exact Bool.false_ne_true
  rw [if_neg a']
  exact congrArg some e
theorem ObjM.look {h:Heap} {x dx C:Addr} {mA:Str→Option Value} (I:ObjM h x dx C mA):∃ od,PySem.W.InstAt h x (PySem.W.instObj C dx) C (some od)∧∀ name,PySem.W.lookIn name od=some (mA name) :=
 let ⟨od,ho,hl⟩:=nv I.ns
 ⟨od,⟨I.obj,rfl,rfl,ho⟩,hl⟩
section
variable {prog:Program} {w:World} {A:Around} {E:Value→Shared→Prop} {s:Shared} {K:PySem.W.Frag} {x dx C f:Addr} {mA:Str→Option Value} {name:Str} {v:Value}
end
section
variable {P:Program} {w:World} {H H':Hp} {h h':Heap} {a C dx:Addr} {fs fs':List (Str×V)}
theorem sB (hok:HOk P w H h) (e:H a=some (.ins C dx fs)):∃ mA,ObjM h a dx C mA∧(∀ f,RelO (fs.lookup f) (mA f))∧PySem.Within mA (fs.map (·.1))∧fs.length≤1000∧H dx=some (.own a):=by
 obtain ⟨d,z,ne,ob,mA,n,r,q⟩:=(show b9 P w H h a (.ins C dx fs) from hok a _ e)
 exact ⟨mA,⟨ob,n,ne⟩,r,q,z,d⟩
end
structure Cls (K:PySem.W.Frag) (C:Addr):Prop where
 pg:PySem.W.plainGet K C Str.empty=true
 hd:PySem.W.hasDictIn K C=true
 po:PySem.W.plainOver K C=true
 sa:PySem.W.findIn K (.ref C) "__setattr__" = some (some (.builtin "object.__setattr__"))
theorem Cls.get {K:PySem.W.Frag} {C:Addr} (c:Cls K C) (f:Str):PySem.W.plainGet K C f=true:=c.pg
section
variable {X:Cx} {pins:List (Addr×Obj)} {σ:St} {H:Hp} {s:Shared} {a C dx:Addr} {fs:List (Str×V)} {f:Str} {v:V} {A:Around} {E:Value→Shared→Prop}
end
section
variable {X:Cx} {o e value:Expr} {f:Str} {pos pos' tpos:Pos} {ta tv:TE}
end
section
variable {X:Cx} {pins:List (Addr×Obj)} {σ:St} {H:Hp} {s:Shared} {A:Around} {E:Value→Shared→Prop} {Q:Value→Shared→Prop} {c:Value} {b:Bool}
inductive TyOf (K:PySem.W.Frag) (H:Hp):V→Value→Prop where
 | non:TyOf K H .non (.type "NoneType")
 | bl (x:Bool):TyOf K H (.bl x) (.type "bool")
 | int (i:Int):TyOf K H (.int i) (.type "int")
 | str (x:Str):TyOf K H (.str x) (.type "str")
 | flt (x:UInt64):TyOf K H (.flt x) (.type "float")
 | lst {a:Addr} {xs:List V} (e:H a=some (.lst xs)):TyOf K H (.ref a) (.type "list")
 | frz {a:Addr} {o:Obj} {xs:List V} (e:H a=some (.frz o (.lst xs))):TyOf K H (.ref a) (.type "list")
 | tup {a:Addr} {xs:List V} (e:H a=some (.tup xs)):TyOf K H (.ref a) (.type "tuple")
 | dK {a:Addr} {kvs:List (Key×V)} (e:H a=some (.dK kvs)):TyOf K H (.ref a) (.type "dict")
 | dT {a:Addr} {kvs:List (List Key×V)} (e:H a=some (.dT kvs)):TyOf K H (.ref a) (.type "dict")
 | ins {a C dx:Addr} {fs:List (Str×V)} (e:H a=some (.ins C dx fs)) (cl:Cls K C) (ha:PySem.W.findIn K (.ref C) "__class__" = some (some (.builtin "object.__class__")))
  (hn:PySem.W.specialIn K (.builtin "object.__class__") "__get__" = some (some (.builtin "getset_descriptor.__get__"))) (htk:PySem.W.takesIn K (.builtin "object.__class__")=some true)
  (hm:PySem.W.mroIn K C (.type "object")=some true):TyOf K H (.ref a) (.ref C)
theorem nI {x:V} {u t:Value} (I:Inv X pins σ H s) (rx:a9 x u) (ty:TyOf X.K H x t) (e:PySem.W.kitOne X.K t c=some b) (h:∀ tk,Q (.bool b) { s with toks:=tk }) :
 wpAny (model X.prog X.w) A (call (.builtin "isinstance") [u,c]) Q E s:=by
 cases ty with
 | non=>cases (show u=Value.none from rx); exact PySem.W.kia_one PySem.W.kitx_none I.kIn True.intro e (fun z=>nomatch z) h
 | bl y=>cases (show u=Value.bool y from rx); exact PySem.W.kia_one PySem.W.kitx_bool I.kIn True.intro e (fun z=>nomatch z) h
 | int i=>obtain ⟨t,q⟩:=(show ∃ t,u=Value.int i t from rx); cases q; exact PySem.W.kia_one PySem.W.kitx_int I.kIn True.intro e (fun z=>nomatch z) h
 | str y=>obtain ⟨t,q⟩:=(show ∃ t,u=Value.str y t from rx); cases q; exact PySem.W.kia_one PySem.W.kitx_str I.kIn True.intro e (fun z=>nomatch z) h
 | flt y=>obtain ⟨t,q⟩:=(show ∃ t,u=Value.float y t from rx); cases q; exact PySem.W.kia_one PySem.W.kitx_float I.kIn True.intro e (fun z=>nomatch z) h
 | @lst a xs ea =>
  cases (show u=Value.ref a from rx)
  obtain ⟨_,_,n,_,h1⟩:=(show b9 X.prog X.w H s.heap a (.lst xs) from I.hok a _ ea)
  exact PySem.W.kia_one PySem.W.kitx_list I.kIn ⟨_,h1,rfl⟩ e (fun z=>nomatch z) h
 | @frz a ob xs ea =>
  cases (show u=Value.ref a from rx)
  obtain ⟨_,_,_,n,_,h1⟩:=(show b9 X.prog X.w H s.heap a (.frz ob (.lst xs)) from I.hok a _ ea)
  exact PySem.W.kia_one PySem.W.kitx_list I.kIn ⟨_,h1,rfl⟩ e (fun z=>nomatch z) h
 | @tup a xs ea =>
  cases (show u=Value.ref a from rx)
  obtain ⟨_,_,_,p⟩:=(show b9 X.prog X.w H s.heap a (.tup xs) from I.hok a _ ea)
  obtain ⟨o,h1,h2,_⟩:=p
  exact PySem.W.kia_one PySem.W.kitx_tuple I.kIn ⟨o,h1,h2⟩ e (fun z=>nomatch z) h
 | @dK a kvs ea =>
  cases (show u=Value.ref a from rx)
  obtain ⟨_,_,vs,_,p⟩:=(show b9 X.prog X.w H s.heap a (.dK kvs) from I.hok a _ ea)
  obtain ⟨o,es,ep,h1,h2,_⟩:=p
  exact PySem.W.kia_one PySem.W.kitx_dict I.kIn ⟨o,h1,h2.1⟩ e (fun z=>nomatch z) h
 | @dT a kvs ea =>
  cases (show u=Value.ref a from rx)
  obtain ⟨_,_,xs,_,o,es,ep,h1,h2,_⟩:=(show b9 X.prog X.w H s.heap a (.dT kvs) from I.hok a _ ea)
  exact PySem.W.kia_one PySem.W.kitx_dict I.kIn ⟨o,h1,h2.1⟩ e (fun z=>nomatch z) h
 | @ins a C dx fs ea cl ha hn htk hm =>
  cases (show u=Value.ref a from rx)
  obtain ⟨mA,O,_⟩:=sB I.hok ea
  obtain ⟨od,J,_⟩:=O.look
  exact PySem.W.kia_one (PySem.W.kitx_own (cl.get _) cl.hd ha hn htk hm) I.kIn J e (fun z=>nomatch z) h
end
structure Room (k:Nat) (A:Around):Prop where
 hd:A.handled=none
 dp:A.depth + 3 * k + 5<recursionLimit
 un:A.units + 16 * k + 200<cLine
 gd:A.guards=some []
theorem Room.mono {j k:Nat} {A:Around} (r:Room k A) (h:j≤k):Room j A:=⟨r.hd,by have:=r.dp; omega,by have:=r.un; omega,r.gd⟩
theorem Room.deeper {k:Nat} {A:Around} (r:Room (k + 1) A) (env:Env):Room k (A.deeper env) :=
 ⟨r.hd,by have:=r.dp; show A.depth + 1 + 3 * k + 5<_; omega,by have:=r.un; show A.units + 3 + 16 * k + 200<_; omega,r.gd⟩
theorem Room.in1 {k:Nat} {A:Around} (r:Room (k + 1) A):Room k A.in1 :=
 ⟨r.hd,by have:=r.dp; show A.depth + 3 * k + 5<_; omega,by have:=r.un; show A.units + 1 + 16 * k + 200<_; omega,r.gd⟩
theorem Room.depth {k:Nat} {A:Around} (r:Room k A):A.depth<recursionLimit:=by have:=r.dp; omega
theorem Room.units {k:Nat} {A:Around} (r:Room k A):A.units + 64<cLine:=by have:=r.un; omega
def tNil:TA:=fun _ H Q=>Q [] H
def tCons (ta:TE) (tr:TA):TA:=fun σ H Q=>ta σ H fun x H1=>tr σ H1 fun xs H2=>Q (x :: xs) H2
section
variable {X:Cx} {e:Expr} {es:List Expr} {te:TE} {t:TA} {pos:Pos}
theorem eK:PA X [] tNil:=⟨fun _ _ _ _ H Q I h=>Calls.spliced_nil ⟨[],H,I,.nil,h⟩⟩
theorem cq (ha:PE X e te) (hr:PA X es t) (hs:starEach (e :: es) X.env=(false,eval e X.env) :: starEach es X.env:=by rfl):PA X (e :: es) (tCons te t):=by
 (try refine ⟨?_⟩); intro pos pins s σ H Q I h
 rw [hs]
 show wpAny _ _ (spliced ((false,eval e X.env) :: backTo pos (starEach es X.env))) _ _ s
 refine Calls.spliced_cons (thn (ha pins s σ H _ I h) fun u s1 ⟨x,H1,I1,r1,q1⟩=>?_)
 exact thn (hr pos pins s1 σ H1 _ I1 q1) fun us s2 ⟨xs,H2,I2,r2,q2⟩=>⟨x :: xs,H2,I2,.cons r1 r2,q2⟩
def tTup (t:TA):TE:=fun σ H Q=>t σ H fun xs H1=>xs.length≤sizeLine∧∀ p,H1 p=none→Q (.ref p) (upd H1 p (.tup xs))
def tLst (t:TA):TE:=fun σ H Q=>t σ H fun xs H1=>xs.length≤sizeLine∧∀ p,H1 p=none→Q (.ref p) (upd H1 p (.lst xs))
theorem oM {x1} (h:PA X es t):PE X (.Tuple es x1 pos) (tTup t):=by
 (try refine ⟨?_⟩); intro pins s σ H Q I hq
 refine wpAny_Tuple_spliced (thn (h pos pins s σ H _ I hq) fun us s1 ⟨xs,H1,I1,r,z,q⟩=>⟨by rw [← r.length]; exact z,?_⟩)
 have hf:H1 s1.heap.objs.size=none:=I1.hok.fresh (Nat.le_refl _)
 refine ⟨.ref s1.heap.objs.size,upd H1 s1.heap.objs.size (.tup xs),I1.laid (t':=s1.toks) (fun b u e=>Heap.get?_push_of_some _ e) (Nat.le_refl _) ?_,rfl,q _ hf⟩
 exact ⟨z,us,r,⟨_,Heap.get?_push_size _ rfl,rfl,_,rfl⟩⟩
theorem lw (h:PA X es t):PE X (.List es pos) (tLst t):=by
 (try refine ⟨?_⟩); intro pins s σ H Q I hq
 refine wpAny_List_spliced (thn (h pos pins s σ H _ I hq) fun us s1 ⟨xs,H1,I1,r,z,q⟩=>⟨by rw [← r.length]; exact z,?_⟩)
 have hf:H1 s1.heap.objs.size=none:=I1.hok.fresh (Nat.le_refl _)
 refine ⟨.ref s1.heap.objs.size,upd H1 s1.heap.objs.size (.lst xs),I1.laid (t':=s1.toks) (fun b u e=>Heap.get?_push_of_some _ e) (Nat.le_refl _) ?_,rfl,q _ hf⟩
 exact ⟨z,us,0,r,Heap.get?_push_size _ rfl⟩
end
abbrev Sp:=List V→Hp→VK→XK→Prop
abbrev CXT:=List Env→Hp→Shared→XK→Value→Shared→Prop
structure Env0 (P:Program) (w:World) (K:PySem.W.Frag) (mg:Str→Option Value) (base:Heap) (A:Around) (outer:List Env) (s:Shared) (H:Hp):Prop where
 frames:A.frames=some outer
 mod:Mod K mg base
 bs:∀ b o,base.get? b=some o→s.heap.get? b=some o∧H b=none
 bsz:base.objs.size≤s.heap.objs.size
 funs:s.heap.FunFrames base outer
 frf:∀ b∈frs outer,H b=none
 hok:HOk P w H s.heap
 bare:AllBare s.gens
 tb:TbM base H
def CE (outer:List Env) (P:Program) (w:World) (H:Hp) (s:Shared) (Q:VK) (u:Value) (s':Shared):Prop :=
 ∃ v H',s'.os=s.os∧AllBare s'.gens∧Un (frs outer) [] H H' s.heap s'.heap∧HOk P w H' s'.heap∧a9 v u∧Q v H'
def CR (CX:CXT) (outer:List Env) (P:Program) (w:World) (H:Hp) (s:Shared) (Q:VK) (E:XK) (r:Result) (s':Shared):Prop :=
 match r with
 | .ok (.ret u)=>CE outer P w H s Q u s'
 | .ok _=>False
 | .error e=>CX outer H s E e s'
structure FnOk (P:Program) (w:World) (K:PySem.W.Frag) (mg:Str→Option Value) (base:Heap) (CX:CXT) (k:Nat) (f:Addr) (fd:FuncData) (ps:List Str) (sp:Sp):Prop where
 len:∀ vs H Q E,sp vs H Q E→vs.length=ps.length
 run:∀ (A:Around) (outer:List Env) (s:Shared) (H:Hp) (args:Args) (us:List Value) (vs:List V) (Q:VK) (E:XK),Room k A→Env0 P w K mg base A outer s H→BindsTo s fd args (ps.zip us)→aY vs us→sp vs H Q E →
  codeAny (model P w) A (.call (.ref f) args) (CR CX outer P w H s Q E) s
theorem FnOk.imp {P:Program} {w:World} {K:PySem.W.Frag} {mg:Str→Option Value} {base:Heap} {CX:CXT} {k:Nat} {f:Addr} {fd:FuncData} {ps:List Str} {sp sp':Sp} (F:FnOk P w K mg base CX k f fd ps sp)
 (h:∀ vs H Q E,sp' vs H Q E→sp vs H Q E):FnOk P w K mg base CX k f fd ps sp' :=
 ⟨fun vs H Q E q=>F.len vs H Q E (h _ _ _ _ q),fun A outer s H args us vs Q E hr he hb hv hs=>F.run A outer s H args us vs Q E hr he hb hv (h _ _ _ _ hs)⟩
section
variable {X:Cx} {pins:List (Addr×Obj)} {σ:St} {H:Hp} {s s':Shared}
theorem Inv.env0 (I:Inv X pins σ H s):Env0 X.prog X.w X.K X.mg X.base X.A X.stack s H :=
 ⟨I.ok.frames,I.ok.mod,I.bs,Nat.le_trans I.ok.bsz I.sz,I.stack,I.stkFree,I.hok,I.bare,I.ok.tb.un I.base⟩
theorem Inv.after {Q:VK} {u:Value} (I:Inv X pins σ H s) (h:CE X.stack X.prog X.w H s Q u s'):EP X pins σ Q u s':=by
 obtain ⟨v,H',os,bare,un,hok,r,q⟩:=h
 obtain ⟨hh,g,d,t,os'⟩:=s'
 obtain rfl:os'=s.os:=os
 exact ⟨v,H',I.call (h':=hh) (g':=g) (d':=d) (t':=t) (ch:=[]) un hok bare (fun b z=>absurd z (by simp)),r,q⟩
end
def tCall (sp:Sp) (dvs:List V) (E:XK) (t:TA):TE:=fun σ H Q=>t σ H fun vs H1=>sp (vs++dvs) H1 Q E
def gB (K:PySem.W.Frag) (fd:FuncData) (ps:List Str) (ds:List Value):Prop :=
 ∀ (s:Shared) (us:List Value),K.In s.heap→(us++ds).length=ps.length→BindsTo s fd ⟨us,[]⟩ (ps.zip (us++ds))
theorem gB.all {K:PySem.W.Frag} {fd:FuncData} {ps:List Str} (h:∀ us:List Value,us.length=ps.length→bindArgs fd ⟨us,[]⟩=pure (ps.zip us)):gB K fd ps []:=fun s us _ hl=>by
 rw [List.append_nil] at hl ⊢
 exact .of_eq (h us hl)
def lv (CX:CXT) (X:Cx) (E:XK):Prop:=∀ (pins:List (Addr×Obj)) (σ:St) (H:Hp) (s:Shared) (e:Value) (s':Shared),Inv X pins σ H s→CX X.stack H s E e s'→X.xe e s'
section
variable {X:Cx} {CX:CXT} {k:Nat} {f C:Addr} {fd:FuncData} {ps:List Str} {sp:Sp} {dvs:List V} {ds:List Value} {E:XK} {x m:Str} {p pos apos:Pos} {e o:Expr} {es:List Expr} {ta:TE} {t:TA}
theorem w5 {pins:List (Addr×Obj)} {σ:St} {H:Hp} {s:Shared} {Q:VK} {us:List Value} {vs:List V} (F:FnOk X.prog X.w X.K X.mg X.base CX k f fd ps sp) (hr:Room k X.A) (hb:gB X.K fd ps ds) (hd:aY dvs ds) (hx:lv CX X E)
 (I:Inv X pins σ H s) (r:aY vs us) (h:sp (vs++dvs) H Q E):wpAny (model X.prog X.w) X.A (call (.ref f) us) (EP X pins σ Q) X.xe s:=by
 have r2:aY (vs++dvs) (us++ds):=r.append hd
 have hl:(us++ds).length=ps.length:=by rw [← r2.length]; exact F.len _ _ _ _ h
 refine wpAny_call (codeAny_mono (F.run X.A X.stack s H ⟨us,[]⟩ (us++ds) (vs++dvs) Q E hr I.env0 (hb s us I.kIn hl) r2 h) fun r s' hq=>?_)
 cases r with
 | error e=>exact hx pins σ H s e s' I hq
 | ok fl =>
  cases fl with
  | ret u=>exact I.after hq
  | next=>exact False.elim hq
  | brk=>exact False.elim hq
  | cont=>exact False.elim hq
theorem my (F:FnOk X.prog X.w X.K X.mg X.base CX k f fd ps sp) (hr:Room k X.A) (hg:Gl X x) (hm:X.mg x=some (.ref f)) (hk:PySem.W.keepIn X.K (.ref f)=true) (hb:gB X.K fd ps ds) (hd:aY dvs ds) (hx:lv CX X E)
 (ha:PA X (e :: es) t) (hdb:(x == ("__debug__":Str))=false:=by decide) (he:starEach (e :: es) X.env=(false,eval e X.env) :: starEach es X.env:=by rfl) (hpl:(backTo pos (starEach es X.env)).any (·.1)=false:=by rfl) :
 PE X (.Call (.Name x p) (e :: es) [] pos) (tCall sp dvs E t):=by
 (try refine ⟨?_⟩); intro pins s σ H Q I h
 refine wpAny_Call_Name_kw (mq I hg hm ?_ hdb)
 refine PySem.W.callWith_K (h₀:=X.base) I.ok.mod.kin hk (thn (ha pos pins s σ H _ I h) fun us s1 ⟨vs,H1,I1,r,q⟩=>⟨I1.kIn,?_⟩) he hpl
 exact w5 F hr hb hd hx I1 r q
end
section
variable {X:Cx} {CX:CXT} {k:Nat} {f C:Addr} {fd:FuncData} {ps ks:List Str} {sp:Sp} {E:XK} {x m:Str} {p pos apos kpos:Pos} {e o:Expr} {es:List Expr} {kws:List Keyword} {te ta:TE} {t tk:TA} {nm:Option Str}
variable {g:List Value→List Value→List Value} {gV:List V→List V→List V}
end
structure FnScope (N P:List Str) (sc:Scope):Prop where
 kind:sc.kind = .function
 co:sc.isCoroutine=false
 gen:sc.isGenerator=false
 nd:N.Nodup
 pre:N.take P.length=P
 par:∀ x∈P,sc.names.lookup x=some .local∨sc.names.lookup x=some .cell
 nofree:∀ y∈sc.names,y.2≠.free
theorem jb {kindOf:Str→Option NameKind} {x:Str}:∀ {binds:List (Str×Value)} {m:Str→Option Value},(∀ v,(x,v) ∉ binds)→bindL kindOf binds m x=m x
 | [],_,_=>rfl
 | (n,v) :: r,m,h=>by
  unfold bindL
  rw [jb fun w hw=>h w (List.mem_cons_of_mem _ hw)]
  split
  ·have:x≠n:=by rintro rfl; exact h v List.mem_cons_self
   simp [this]
  ·rfl
theorem iZ {kindOf:Str→Option NameKind} {x:Str}:∀ {binds:List (Str×Value)} {m:Str→Option Value},(∀ v,(x,v) ∉ binds)→bindC kindOf binds m x=m x
 | [],_,_=>rfl
 | (n,v) :: r,m,h=>by
  unfold bindC
  rw [iZ fun w hw=>h w (List.mem_cons_of_mem _ hw)]
  split
  ·rfl
  ·have:x≠n:=by rintro rfl; exact h v List.mem_cons_self
   simp [this]
theorem i8 {kindOf:Str→Option NameKind} {x:Str} {v:Value}:∀ {P:List Str} {vs:List Value} {i:Nat} {m:Str→Option Value},P.Nodup→P[i]? = some x→vs[i]? = some v→kindOf x=some .local →
 bindL kindOf (P.zip vs) m x=some v
 | [],_,_,_,_,h,_,_=>by simp at h
 | _ :: _,[],_,_,_,_,h,_=>by simp at h
 | p :: P,w :: vs,0,m,nd,h1,h2,hk=>by
  simp at h1 h2; subst h1; subst h2
  show bindL kindOf ((p,w) :: P.zip vs) m p=_
  unfold bindL
  rw [jb fun v hv=>(List.nodup_cons.mp nd).1 (List.of_mem_zip hv).1,if_pos hk]
  simp
 | p :: P,w :: vs,i + 1,m,nd,h1,h2,hk=>by
  show bindL kindOf ((p,w) :: P.zip vs) m x=_
  unfold bindL
  exact i8 (i:=i) (List.nodup_cons.mp nd).2 (by simpa using h1) (by simpa using h2) hk
theorem iX {kindOf:Str→Option NameKind} {x:Str} {v:Value}:∀ {P:List Str} {vs:List Value} {i:Nat} {m:Str→Option Value},P.Nodup→P[i]? = some x→vs[i]? = some v→kindOf x≠some .local →
 bindC kindOf (P.zip vs) m x=some v
 | [],_,_,_,_,h,_,_=>by simp at h
 | _ :: _,[],_,_,_,_,h,_=>by simp at h
 | p :: P,w :: vs,0,m,nd,h1,h2,hk=>by
  simp at h1 h2; subst h1; subst h2
  show bindC kindOf ((p,w) :: P.zip vs) m p=_
  unfold bindC
  rw [iZ fun v hv=>(List.nodup_cons.mp nd).1 (List.of_mem_zip hv).1,if_neg hk]
  simp
 | p :: P,w :: vs,i + 1,m,nd,h1,h2,hk=>by
  show bindC kindOf ((p,w) :: P.zip vs) m x=_
  unfold bindC
  exact iX (i:=i) (List.nodup_cons.mp nd).2 (by simpa using h1) (by simpa using h2) hk
def dZ (N:List Str) (vs:List V):St:=vs.map some++List.replicate (N.length - vs.length) none
def jr (CX:CXT) (P:Program) (w:World) (K:PySem.W.Frag) (mg:Str→Option Value) (base:Heap) (N:List Str) (qual:Str) (scope:Scope) (f:Addr) (cd:Value) (A:Around) (outer:List Env) (s:Shared) (H:Hp) (E:XK):Cx where
 prog:=P
 w:=w
 K:=K
 mg:=mg
 base:=base
 A:=A.deeper (envOfC qual scope s.heap.objs.size f cd)
 N:=N
 s₀:=s
 H₀:=H
 env:=envOfC qual scope s.heap.objs.size f cd
 outer:=outer
 stack:=envOfC qual scope s.heap.objs.size f cd :: outer
 ex:=[]
 calm:=true
 fn:=fun _=>true
 pn:=[]
 xe:=fun e s'=>wpAny (model P w) (A.deeper (envOfC qual scope s.heap.objs.size f cd)) (leaving (envOfC qual scope s.heap.objs.size f cd) e) (fun _ s''=>CX outer H s E e s'') (fun e' s''=>CX outer H s E e' s'') s'
theorem kH {sc:Scope} {n:Nat} {x:Str} (h:sc.names.lookup x=some .cell):∃ c,(cellsFrom n sc.names []).lookup x=some c:=by
 have q:=PySem.W.cellsFrom_some sc.names n [] (.inl h)
 exact Option.isSome_iff_exists.mp q
theorem mX {CX:CXT} {P:Program} {w:World} {K:PySem.W.Frag} {mg:Str→Option Value} {base:Heap} {N ps:List Str} {qual:Str} {scope:Scope} {f:Addr} {cd:Value} {A:Around} {outer:List Env} {s s1:Shared} {H:Hp} {E:XK} {us:List Value} {vs:List V}
 (S:FnScope N ps scope) (hd:A.handled=none) (e0:Env0 P w K mg base A outer s H) (hl:vs.length=ps.length) (r:aY vs us)
 (x:InCallC s s.heap.objs.size (bindL (envOfC qual scope s.heap.objs.size f cd).kindOf (ps.zip us) fun _=>none) (cellsFrom (s.heap.objs.size + 1) scope.names []) (bindC (envOfC qual scope s.heap.objs.size f cd).kindOf (ps.zip us) fun _=>none) s1) :
 Inv (jr CX P w K mg base N qual scope f cd A outer s H E) [] (dZ N vs) H s1:=by
 have hpl:ps.length≤N.length:=by have:=congrArg List.length S.pre; rw [List.length_take] at this; omega
 obtain ⟨h1,tk,rfl,hk⟩:=x.done
 have noA:∀ b:Addr,b ∉ (jr CX P w K mg base N qual scope f cd A outer s H E).ex:=fun b z=>absurd (show b∈([]:List Addr) from z) (by simp)
 refine ⟨⟨e0.mod,S.kind,rfl,rfl,Nat.le_refl _,fun y z c h1 h2=>?_,fun y hy=>?_,fun y c _ h=>?_,fun _=>hd,Around.frames_deeper e0.frames,.inr ⟨rfl,rfl⟩,fun b z=>absurd z (noA b),e0.bs,e0.bsz,fun b _ _=>noA b,fun b z=>absurd z (noA b),e0.funs,e0.frf,e0.tb⟩,
  rfl,e0.bare,Un.kept hk,⟨_,x.toInCall.ns,fun i y v h1 h2 h3=>?_⟩,fun y c h=>⟨_,x.cell y c h⟩,e0.hok.fresh (Nat.le_refl _),fun y c h=>?_,fun p hp=>absurd (show p∈([]:List (Addr×Obj)) from hp) (by simp),e0.hok.kept hk,?_⟩
 ·exact name_of_addr x.apart (PySem.mem_of_lookup h1) (PySem.mem_of_lookup h2)
 ·have hy:scope.names.lookup y=some .cell∨scope.names.lookup y=some .free:=hy
  rcases hy with hy | hy
  ·exact kH hy
  ·exact absurd rfl (S.nofree _ (PySem.mem_of_lookup hy))
 ·exact Nat.le_of_lt (x.above y c (PySem.mem_of_lookup h))
 ·have hi:i<vs.length:=by
   unfold dZ at h2
   by_cases hi:i<vs.length
   ·exact hi
   ·rw [List.getElem?_append_right (by simpa using hi)] at h2
    rw [List.getElem?_replicate] at h2
    split at h2 <;> cases h2
  have ha:vs[i]? = some v:=by
   unfold dZ at h2
   rw [List.getElem?_append_left (by simpa using hi),List.getElem?_map] at h2
   cases e:vs[i]? with
   | none=>rw [e] at h2; cases h2
   | some a=>rw [e] at h2; cases h2; rfl
  obtain ⟨u,hu,rv⟩:=r.get ha
  have hp:ps[i]? = some y:=by
   rw [← S.pre,List.getElem?_take_of_lt (by omega)]; exact h1
  have ndP:ps.Nodup:=by rw [← S.pre]; exact S.nd.sublist (List.take_sublist _ _)
  refine ⟨u,rv,?_⟩
  rcases S.par y (List.mem_of_getElem? hp) with k | k
  ·exact .inl ⟨k,i8 ndP hp hu k⟩
  ·obtain ⟨c,e⟩:=kH (n:=s.heap.objs.size + 1) k
   refine .inr ⟨.inl k,c,e,?_⟩
   have q:=x.cell y c e
   rw [iX ndP hp hu (by show scope.names.lookup y≠_; rw [k]; decide)] at q
   exact q
 ·exact e0.hok.fresh (Nat.le_of_lt (x.above y c (PySem.mem_of_lookup h)))
 ·unfold dZ
  show _=N.length
  rw [List.length_append,List.length_map,List.length_replicate]
  omega
theorem t5 {CX:CXT} {P:Program} {w:World} {K:PySem.W.Frag} {mg:Str→Option Value} {base:Heap} {k:Nat} {f:Addr} {name qual:Str} {params:Arguments} {body:List Stmt} {scope:Scope} {dV kV doc pm cdv ct oc:Value} {an od:Option Addr}
 {osl:Array (Option Value)} {N ps:List Str} {sp:Sp} (lk:K.lookup f=some ⟨oc,od,.func (PySem.W.fnOf name qual params body scope dV kV doc pm an cdv ct),osl⟩) (hcd:PySem.W.codeIn K cdv qual=true) (S:FnScope N ps scope)
 (len:∀ vs H Q E,sp vs H Q E→vs.length=ps.length)
 (hbody:∀ (A:Around) (outer:List Env) (s:Shared) (H:Hp) (vs:List V) (Q:VK) (E:XK),Room k (A.deeper (envOfC qual scope s.heap.objs.size f cdv))→sp vs H Q E →
  ∃ t,PSs (jr CX P w K mg base N qual scope f cdv A outer s H E) body t∧t { nx:=fun _ H'=>Q .non H',rt:=Q } (dZ N vs) H) :
 FnOk P w K mg base CX (k + 1) f (PySem.W.fnOf name qual params body scope dV kV doc pm an cdv ct) ps sp:=by
 refine ⟨len,fun A outer s H args us vs Q E hr e0 hb r hsp=>?_⟩
 have hl:=len _ _ _ _ hsp
 have KX:K.In s.heap:=e0.mod.kin.keeps fun b o e=>(e0.bs b o e).1
 have lim:s.heap.NoLimit:=e0.mod.nolimit.keeps fun b o e=>(e0.bs b o e).1
 have hkind:∀ y∈ps.zip us,scope.names.lookup y.1=some .local∨(scope.names.lookup y.1=some .cell∧((cellsFrom (s.heap.objs.size + 1) scope.names []).lookup y.1).isSome=true):=fun ⟨n,v⟩ hy=>by
  rcases S.par n (List.of_mem_zip hy).1 with q | q
  ·exact .inl q
  ·exact .inr ⟨q,PySem.W.cellsFrom_some _ _ _ (.inl q)⟩
 refine codeAny_call_function hr.depth (KX _ _ lk) rfl S.co S.gen rfl (PySem.W.codeRec_of KX hcd) (hb _ _ _ _ ?_)
 refine wpAny_newFunctionEnv_cells S.kind hkind fun env he s1 x=>?_
 subst he
 refine ⟨lim.keeps x.toInCall.keep,codeAny_func ?_⟩
 obtain ⟨t,ht,hq⟩:=hbody A outer s H vs Q E (hr.deeper _) hsp
 have I:Inv (jr CX P w K mg base N qual scope f cdv A outer s H E) [] (dZ N vs) H s1:=mX S hr.hd e0 hl r x
 refine wpAny_mono (ht [] s1 (dZ N vs) H _ I hq) (fun fl s' hs=>?_) fun e s' hs=>hs
 have fin:∀ {σ':St} {H':Hp} {v:V} {u:Value},Inv (jr CX P w K mg base N qual scope f cdv A outer s H E) [] σ' H' s'→a9 v u→Q v H'→CE outer P w H s Q u s' :=
  fun {σ' H' v u} J rv q=>⟨v,H',J.os,J.bare,J.base,J.hok,rv,q⟩
 cases fl with
 | ret u =>
  obtain ⟨v,σ',H',J,rv,q⟩:=hs
  exact fin J rv q
 | next =>
  obtain ⟨σ',H',J,q⟩:=hs
  exact fin (v:=V.non) (u:=Value.none) J rfl q
 | brk =>
  obtain ⟨_,_,_,q⟩:=hs
  exact False.elim q
 | cont =>
  obtain ⟨_,_,_,q⟩:=hs
  exact False.elim q
section
variable {X:Cx} {x:Str} {p pos:Pos} {e:Expr} {es:List Expr} {t:TA} {id T:String} {r:List V→Hp→VK→Prop}
def tCB (r:List V→Hp→VK→Prop) (t:TA):TE:=fun σ H Q=>t σ H fun vs H1=>r vs H1 Q
theorem ie (hc:dl X (.builtin id) r) (hg:Gl X x) (hm:X.mg x=none) (hv:bootBuiltins x=some (.builtin id)) (ha:PA X (e :: es) t) (hn:x ≠ "__name__":=by decide) (hdb:(x == ("__debug__":Str))=false:=by decide)
 (he:starEach (e :: es) X.env=(false,eval e X.env) :: starEach es X.env:=by rfl) (hpl:(backTo pos (starEach es X.env)).any (·.1)=false:=by rfl):PE X (.Call (.Name x p) (e :: es) [] pos) (tCB r t):=by
 (try refine ⟨?_⟩); intro pins s σ H Q I h
 refine wpAny_Call_Name_kw (eB I hg hm hv ?_ hn hdb)
 exact PyProof.Rows.callWith_builtin1 (thn (ha pos pins s σ H _ I h) fun us s1 ⟨vs,H1,I1,r1,q1⟩=>hc pins s1 σ H1 vs us Q I1 r1 q1) he hpl
theorem gm (hc:dl X (.type T) r) (hg:Gl X x) (hm:X.mg x=none) (hv:bootBuiltins x=some (.type T)) (ha:PA X (e :: es) t) (hn:x ≠ "__name__":=by decide) (hdb:(x == ("__debug__":Str))=false:=by decide)
 (he:starEach (e :: es) X.env=(false,eval e X.env) :: starEach es X.env:=by rfl) (hpl:(backTo pos (starEach es X.env)).any (·.1)=false:=by rfl):PE X (.Call (.Name x p) (e :: es) [] pos) (tCB r t):=by
 (try refine ⟨?_⟩); intro pins s σ H Q I h
 refine wpAny_Call_Name_kw (eB I hg hm hv ?_ hn hdb)
 exact PyProof.Rows.callWith_type1 (thn (ha pos pins s σ H _ I h) fun us s1 ⟨vs,H1,I1,r1,q1⟩=>hc pins s1 σ H1 vs us Q I1 r1 q1) he hpl
end
end L2
namespace HT
open PySem PyProof.Rows
section
open PySem.SeqAt
open PySem.AutoSeq1 (wpAny_loadPart')
open PySem.MeetsSeq PySem.MeetsSeq2 PySem.MeetsSeq3
end
section
variable {prog:Program} {w:World} {A:Around} {E:Value→Shared→Prop} {s:Shared}
def sIx (n d:Nat):Option Int→Nat
 | none=>d
 | some v=>if v<0 then (v + (n:Int)).toNat else min v.toNat n
end
end HT
namespace L2
open PySem PySem.Spec PyProof.Rows
abbrev TO:=St→Hp→(Option Int→Hp→Prop)→Prop
structure PO (X:Cx) (e:Option Expr) (t:TO):Prop where
 go:∀ (pins:List (Addr×Obj)) (s:Shared) (σ:St) (H:Hp) (Q:Option Int→Hp→Prop),Inv X pins σ H s→t σ H Q →
  wpAny (model X.prog X.w) X.A (evalPart e X.env) (fun u s'=>∃ o H',Inv X pins σ H' s'∧IsPart u o∧Q o H') X.xe s
instance {X:Cx} {e:Option Expr} {t:TO}:CoeFun (PO X e t) fun _=>∀ (pins:List (Addr×Obj)) (s:Shared) (σ:St) (H:Hp) (Q:Option Int→Hp→Prop),Inv X pins σ H s→t σ H Q →
 wpAny (model X.prog X.w) X.A (evalPart e X.env) (fun u s'=>∃ o H',Inv X pins σ H' s'∧IsPart u o∧Q o H') X.xe s:=⟨fun h=>h.go⟩
def rV:TO:=fun _ H Q=>Q none H
def tPart (t:TE):TO:=fun σ H Q=>t σ H fun x H1=>∃ i,x = .int i∧Q (some i) H1
theorem gS {ns:List Int}:∀ {us:List Value},aY (ns.map V.int) us→IntsAre us ns:=by
 induction ns with
 | nil=>intro us r; rw [List.map_nil] at r; cases r; exact .nil
 | cons n ns ih =>
  intro us r
  rw [List.map_cons] at r
  cases r with
  | cons r1 r2 =>
   obtain ⟨t,e⟩:=r1
   subst e
   exact .cons n t (ih r2)
section
variable {X:Cx} {e:Expr} {te:TE} {lo hi:Option Expr} {tl th:TO} {pos p2:Pos}
theorem tF:PO X none rV:=by
 (try refine ⟨?_⟩); intro pins s σ H Q I h
 rw [evalPart_none]
 exact wpAny_pure ⟨none,H,I,.none,h⟩
theorem tz (h:PE X e te):PO X (some e) (tPart te):=by
 (try refine ⟨?_⟩); intro pins s σ H Q I hw
 rw [evalPart_some]
 refine thn (h pins s σ H _ I hw) fun u s1 ⟨x,H1,I1,r1,q1⟩=>?_
 obtain ⟨i,rfl,q⟩:=q1
 obtain ⟨t,rfl⟩:=r1
 exact ⟨some i,H1,I1,.int i t,q⟩
def SlR (X:Cx) (r:V→Option Int→Option Int→Hp→VK→Prop):Prop :=
 ∀ (pins:List (Addr×Obj)) (s:Shared) (σ:St) (H:Hp) (x:V) (v vl vu:Value) (lo hi:Option Int) (sl:Addr) (Q:VK),Inv X pins σ H s→a9 x v→s.heap.IsSliceOf sl vl vu .none→IsPart vl lo→IsPart vu hi→r x lo hi H Q →
  ∃ T id,typeLookup (.type T) "__getitem__" = pure (some (.builtin id))∧s.TypeIs v T∧wpAny (model X.prog X.w) X.A (getItem v (.ref sl)) (EP X pins σ Q) X.xe s
def tSl (r:V→Option Int→Option Int→Hp→VK→Prop) (te:TE) (tl th:TO):TE:=fun σ H Q=>te σ H fun x H1=>tl σ H1 fun l H2=>th σ H2 fun u H3=>r x l u H3 Q
theorem qQ {r:V→Option Int→Option Int→Hp→VK→Prop} (hr:SlR X r) (he:PE X e te) (hl:PO X lo tl) (hu:PO X hi th):PE X (.Subscript e (.Slice lo hi none p2) pos) (tSl r te tl th):=by
 (try refine ⟨?_⟩); intro pins s σ H Q I h
 refine Subscript_ (thn (he pins s σ H _ I h) fun v s1 ⟨x,H1,I1,r1,q1⟩=>?_)
 refine wpAny_Slice (thn (hl pins s1 σ H1 _ I1 q1) fun vl s2 ⟨l,H2,I2,pl,q2⟩=>thn (hu pins s2 σ H2 _ I2 q2) fun vu s3 ⟨u,H3,I3,pu,q3⟩=>?_)
 rw [evalPart_none]
 refine wpAny_pure ?_
 have I4:Inv X pins σ H3 { s3 with heap:=s3.heap.push { cls:=.type "slice",data:=.fields #[vl,vu,.none] } }:=I3.kept (t':=s3.toks) fun b ob q=>Heap.get?_push_of_some _ q
 obtain ⟨T,id,hT,ht,hg⟩:=hr pins { s3 with heap:=s3.heap.push { cls:=.type "slice",data:=.fields #[vl,vu,.none] } } σ H3 x v vl vu l u s3.heap.objs.size Q I4 r1 (Heap.IsSliceOf.new ..) pl pu q3
 show wpAny (model X.prog X.w) X.A (subscriptTail e (.Slice lo hi none p2) v (.ref s3.heap.objs.size)) (EP X pins σ Q) X.xe { s3 with heap:=s3.heap.push { cls:=.type "slice",data:=.fields #[vl,vu,.none] } }
 exact tail_any (ops:=[.ref s3.heap.objs.size,v]) ht hT hg (by with_unfolding_all rfl)
def lN (xs:List V) (lo hi:Option Int):List V:=(xs.drop (HT.sIx xs.length 0 lo)).take (HT.sIx xs.length xs.length hi - HT.sIx xs.length 0 lo)
theorem kB (xs:List V) (lo hi:Option Int):(lN xs lo hi).length≤xs.length:=by
 unfold lN
 rw [List.length_take,List.length_drop]
 omega
end
def ixN (n:Nat) (i:Int):Option Nat:=if 0≤i then (if i<n then some i.toNat else none) else if -(n:Int)≤i then some (i + n).toNat else none
def atI {α:Type} (xs:List α) (i:Int):Option α:=(ixN xs.length i).bind fun j=>xs[j]?
theorem jg {n:Nat} {i:Int} {j:Nat} (h:ixN n i=some j):seqIndex? i n=some j∧j<n∧-(n:Int)≤i∧i<n:=by
 unfold ixN at h
 by_cases h0 : 0≤i
 ·rw [if_pos h0] at h
  by_cases h1:i<n
  ·rw [if_pos h1] at h
   have e:i.toNat=j:=Option.some.inj h
   exact ⟨by rw [seqIndex_of h0 h1,e],by omega,by omega,h1⟩
  ·rw [if_neg h1] at h; cases h
 ·rw [if_neg h0] at h
  by_cases h1 : -(n:Int)≤i
  ·rw [if_pos h1] at h
   have e:(i + n).toNat=j:=Option.some.inj h
   exact ⟨by rw [seqIndex_neg (by omega) h1,e],by omega,h1,by omega⟩
  ·rw [if_neg h1] at h; cases h
theorem f7 {α:Type} {xs:List α} {i:Int} {v : α} (h:atI xs i=some v):∃ j,seqIndex? i xs.length=some j∧xs[j]? = some v∧j<xs.length∧-(xs.length:Int)≤i∧i<xs.length:=by
 unfold atI at h
 cases e:ixN xs.length i with
 | none=>rw [e] at h; cases h
 | some j =>
  rw [e] at h
  obtain ⟨h1,h2,h3,h4⟩:=jg e
  exact ⟨j,h1,h,h2,h3,h4⟩
theorem eX {α:Type} {xs:List α} {j:Nat} {v : α} (h:xs[j]? = some v):atI xs (j:Int)=some v:=by
 have hj:j<xs.length:=(List.getElem?_eq_some_iff.mp h).1
 have e:ixN xs.length (j:Int)=some j:=by
  unfold ixN
  rw [if_pos (by omega),if_pos (by omega)]; simp
 unfold atI; rw [e]; exact h
def mD (b:Expr):Prop:=∀ o i,subscripted b false o i=operate [o,i] (getItem o i)
def IxR (X:Cx) (r:R2):Prop :=
 ∀ (value slice:Expr) (pins:List (Addr×Obj)) (s:Shared) (σ:St) (H:Hp) (x y:V) (v u:Value) (Q:VK),Inv X pins σ H s→a9 x v→a9 y u→r x y H Q →
  subscripted slice false v u=operate [v,u] (getItem v u)→wpAny (model X.prog X.w) X.A (subscriptTail value slice v u) (EP X pins σ Q) X.xe s
def MtR (X:Cx) (id:String) (r:V→List V→Hp→VK→Prop):Prop :=
 ∀ (pins:List (Addr×Obj)) (s:Shared) (σ:St) (H:Hp) (x:V) (xs:List V) (v:Value) (us:List Value) (Q:VK),Inv X pins σ H s→a9 x v→aY xs us→r x xs H Q →
  wpAny (model X.prog X.w) X.A (call (.builtin id) (v :: us)) (EP X pins σ Q) X.xe s
section
variable {X:Cx} {a b:Expr} {ta tb:TE} {pos:Pos}
theorem IxR.or {r r':R2} (h:IxR X r) (h':IxR X r'):IxR X (fun x y H Q=>r x y H Q∨r' x y H Q):=by
 intro value slice pins s σ H x y v u Q I rx ry q hs
 rcases q with q | q
 ·exact h value slice pins s σ H x y v u Q I rx ry q hs
 ·exact h' value slice pins s σ H x y v u Q I rx ry q hs
theorem pe_ix {r:R2} (hr:IxR X r) (ha:PE X a ta) (hb:PE X b tb) (hs:mD b):PE X (.Subscript a b pos) (tOp r ta tb):=by
 (try refine ⟨?_⟩); intro pins s σ H Q I h
 exact Subscript_ (binT ha hb I h fun v u s2 x y H2 I2 rx ry q=>hr a b pins s2 σ H2 x y v u Q I2 rx ry q (hs _ _))
def rIxL (K:PySem.W.Frag):R2:=fun x y H Q=>∃ p xs i v,x = .ref p∧y = .int i∧SqL K H p xs∧atI xs i=some v∧Q v H
def rIxT (K:PySem.W.Frag):R2:=fun x y H Q=>∃ p xs i v,x = .ref p∧y = .int i∧SqT K H p xs∧atI xs i=some v∧Q v H
def rIxS:R2:=fun x y H Q=>∃ z i c,x = .str z∧y = .int i∧z.length≤sizeLine∧atI z.cps.toList i=some c∧Q (.str ⟨#[c]⟩) H
theorem sJ:IxR X (rIxL X.K):=by
 intro value slice pins s σ H x y v u Q I rx ry h hs
 obtain ⟨p,xs,i,z,rfl,rfl,hq,he,q⟩:=h
 cases rx
 obtain ⟨t,rfl⟩:=ry
 obtain ⟨its,r,pl,hz⟩:=I.list hq
 obtain ⟨j,h1,h2,h3,h4,h5⟩:=f7 he
 obtain ⟨w,ew,rw'⟩:=r.get h2
 have hl:=r.length
 have hn:=fw
 have fin:EP X pins σ Q w s:=⟨z,H,I,rw',q⟩
 by_cases h0 : 0≤i
 ·have hj:i.toNat=j:=by
   rw [seqIndex_of h0 h5] at h1
   exact Option.some.inj h1
  exact item_listR pl.isList h0 (by omega) (by rw [hj]; simpa using ew) fin hs
 ·have hj:(i + (its.toArray.size:Int)).toNat=j:=by
   rw [seqIndex_neg (by omega) h4] at h1
   rw [List.size_toArray,← hl]
   exact Option.some.inj h1
  exact subscriptTail_builtinR (x:=w) pl.isList.typeIs slot_list_getitem.lookup
   (wpAny_getItem_list_neg (Q:=fun r s'=>r=w∧EP X pins σ Q r s') pl.isList (by omega) (by rw [List.size_toArray] <;> omega) (by omega) (by rw [hj]; simpa using ew) ⟨rfl,fin⟩) hs
theorem wC:IxR X (rIxT X.K):=by
 intro value slice pins s σ H x y v u Q I rx ry h hs
 obtain ⟨p,xs,i,z,rfl,rfl,hq,he,q⟩:=h
 cases rx
 obtain ⟨t,rfl⟩:=ry
 obtain ⟨its,r,pl,hz⟩:=I.tuple hq
 obtain ⟨j,h1,h2,h3,h4,h5⟩:=f7 he
 obtain ⟨w,ew,rw'⟩:=r.get h2
 have hl:=r.length
 have hn:=fw
 have fin:EP X pins σ Q w s:=⟨z,H,I,rw',q⟩
 exact subscriptTail_builtinR (x:=w) pl.typeIs slot_tuple_getitem.lookup
  (getItem_tuple (j:=j) (Q:=fun r s'=>r=w∧EP X pins σ Q r s') pl (by omega) (by omega) (by rw [List.size_toArray,← hl]; exact h1) (by simpa using ew) ⟨rfl,fin⟩) hs
theorem xp:IxR X rIxS:=by
 intro value slice pins s σ H x y v u Q I rx ry h hs
 obtain ⟨z,i,c,rfl,rfl,hz,he,q⟩:=h
 obtain ⟨t,rfl⟩:=rx
 obtain ⟨t',rfl⟩:=ry
 obtain ⟨j,h1,h2,h3,h4,h5⟩:=f7 he
 have hl:z.cps.toList.length=z.length:=by simp [Str.length]
 rw [hl] at h1 h4 h5
 have hn:=fw
 exact tail_any (typeIs_str s z t) slot_str_getitem.lookup (getItem_str (c:=c) (by
  have e1:decide (i < -(2 ^ 63:Int))=false:=decide_eq_false (by omega)
  have e2:decide (i ≥ 2 ^ 63)=false:=decide_eq_false (by omega)
  rw [e1,e2,Bool.or_false]) (by rw [h1]; simpa using h2) ⟨.str ⟨#[c]⟩,H,I.tok _,⟨_,rfl⟩,q⟩) hs
def rIx (K:PySem.W.Frag):R2:=fun x y H Q=>rIxL K x y H Q∨rIxT K x y H Q∨rIxS x y H Q
theorem ai:IxR X (rIx X.K):=sJ.or (wC.or xp)
theorem lA (its:List Value) (n j:Nat) (u:Value):Obj.mapSeq (·.setIfInBounds j u) { cls:=.type "list",data:=.seq its.toArray n } = { cls:=.type "list",data:=.seq (its.set j u).toArray n }:=by
 simp [Obj.mapSeq]
theorem Inv.lst {pins:List (Addr×Obj)} {σ:St} {H:Hp} {s:Shared} {p:Addr} {xs:List V} (I:Inv X pins σ H s) (h:H p=some (.lst xs)) :
 ∃ (its:List Value) (n:Nat),aY xs its∧s.heap.get? p=some { cls:=.type "list",data:=.seq its.toArray n }∧xs.length≤sizeLine:=by
 obtain ⟨z,its,n,r,e⟩:=I.hok p _ h
 exact ⟨its,n,r,e,z⟩
theorem Inv.lstUpd {pins:List (Addr×Obj)} {σ:St} {H:Hp} {s:Shared} {p:Addr} {xs ys:List V} {its its':List Value} {n n':Nat} {f:Obj→Obj} (I:Inv X pins σ H s) (h:H p=some (.lst xs))
 (ho:s.heap.get? p=some { cls:=.type "list",data:=.seq its.toArray n }) (hf:f { cls:=.type "list",data:=.seq its.toArray n } = { cls:=.type "list",data:=.seq its'.toArray n' }) (r:aY ys its') (hz:ys.length≤sizeLine) (t:Nat) :
 Inv X pins σ (upd H p (.lst ys)) { s with heap:=s.heap.update p f,toks:=t }:=by
 have e:(s.heap.update p f).get? p=some { cls:=.type "list",data:=.seq its'.toArray n' }:=by
  rw [Heap.get?_update_self f ho (by rw [hf] <;> rfl),hf]
 refine I.write (x:=p) (e:=p) (by rw [h]; trivial) (.inl rfl) (fun b u hb q=>(Heap.get?_update_other _ _ (Ne.symm hb)).trans q) ⟨_,e⟩ ?_
 exact ⟨hz,its',n',r,e⟩
def rSetL:V→V→V→Hp→(Hp→Prop)→Prop:=fun o i v H Q=>∃ p xs k j,o = .ref p∧i = .int k∧H p=some (.lst xs)∧ixN xs.length k=some j∧Q (upd H p (.lst (xs.set j v)))
theorem kN:PSet X rSetL:=by
 (try refine ⟨?_⟩); intro pins s σ H o i v ov iv u Q I ro ri rv h
 obtain ⟨p,xs,k,j,rfl,rfl,hp,hj,q⟩:=h
 cases ro
 obtain ⟨t,rfl⟩:=ri
 obtain ⟨its,n,r,ho,hz⟩:=I.lst hp
 obtain ⟨h1,h2,h3,h4⟩:=jg hj
 have hl:=r.length
 have hn:=fw
 have I':Inv X pins σ (upd H p (.lst (xs.set j v))) { s with heap:=s.heap.update p (Obj.mapSeq (·.setIfInBounds j u)) } :=
  I.lstUpd hp ho (lA its n j u) (r.set rv j) (by rw [List.length_set]; exact hz) s.toks
 by_cases h0 : 0≤k
 ·have hk:k.toNat=j:=by
   rw [seqIndex_of h0 h4] at h1
   exact Option.some.inj h1
  exact PySem.W.ki_setAt ho h0 (by omega) (by rw [List.size_toArray,← hl]; exact h4) (by rw [hk]; exact ⟨_,I',q⟩)
 ·have hk:(k + (its.toArray.size:Int)).toNat=j:=by
   rw [seqIndex_neg (by omega) h3] at h1
   rw [List.size_toArray,← hl]
   exact Option.some.inj h1
  exact PySem.W.ki_setBack ho (by omega) (by rw [List.size_toArray,← hl]; exact h3) (by omega) (by rw [hk]; exact ⟨_,I',q⟩)
theorem jC (lo hi:Option Int) (n:Nat):(sliceBounds lo hi none n).1=((HT.sIx n 0 lo:Nat):Int)∧(sliceBounds lo hi none n).2.1=((HT.sIx n n hi:Nat):Int)∧(sliceBounds lo hi none n).2.2=1:=by
 refine ⟨?_,?_,rfl⟩
 ·cases lo with
  | none=>simp [sliceBounds,HT.sIx]
  | some i =>
   simp only [sliceBounds,HT.sIx,Option.getD_none,show (1:Int) > 0 by decide,if_true]
   by_cases h:i<0
   ·simp only [h,if_true] <;> omega
   ·simp only [h,if_false] <;> omega
 ·cases hi with
  | none=>simp [sliceBounds,HT.sIx]
  | some i =>
   simp only [sliceBounds,HT.sIx,Option.getD_none,show (1:Int) > 0 by decide,if_true]
   by_cases h:i<0
   ·simp only [h,if_true] <;> omega
   ·simp only [h,if_false] <;> omega
theorem iD (its:List Value) (lo hi:Option Int):slicePick its.toArray lo hi none=((its.drop (HT.sIx its.length 0 lo)).take (HT.sIx its.length its.length hi - HT.sIx its.length 0 lo)).toArray:=by
 obtain ⟨h1,h2,h3⟩:=jC lo hi its.toArray.size
 unfold slicePick
 rw [h1,h2,h3]
 simp only [sliceRange_one,pick_run,List.size_toArray] <;> rfl
def rSlL (K:PySem.W.Frag):V→Option Int→Option Int→Hp→VK→Prop:=fun x lo hi H Q=>∃ a xs,x = .ref a∧SqL K H a xs∧∀ p,H p=none→Q (.ref p) (upd H p (.lst (lN xs lo hi)))
theorem sj:SlR X (rSlL X.K):=by
 (try refine ⟨?_⟩); intro pins s σ H x v vl vu lo hi sl Q I rx hs pl pu h
 obtain ⟨a,xs,rfl,hx,q⟩:=h
 cases rx
 obtain ⟨its,r,ht,hz⟩:=I.list hx
 have hlen:=r.length
 refine ⟨"list",_,slot_list_getitem.lookup,ht.isList.typeIs,?_⟩
 refine wpAny_getItem_list_slice ht.isList hs pl pu .none (by simp) ?_ (by rw [List.size_toArray] <;> omega)
 rw [iD,← hlen]
 refine ⟨.ref s.heap.objs.size,_,I.laid (t':=s.toks) (o:=.lst (lN xs lo hi)) (fun b ob q=>Heap.get?_push_of_some _ q) (Nat.le_refl _) ?_,rfl,q _ (I.hok.fresh (Nat.le_refl _))⟩
 exact ⟨Nat.le_trans (kB xs lo hi) hz,_,0,(r.drop (HT.sIx xs.length 0 lo)).take (HT.sIx xs.length xs.length hi - HT.sIx xs.length 0 lo),Heap.get?_push_size _ rfl⟩
def fo:V→Bool
 | .non=>true
 | .bl _=>true
 | .int _=>true
 | .str _=>true
 | _=>false
def eqV:V→V→Bool
 | .non,.non=>true
 | .bl a,.bl b=>a == b
 | .bl a,.int b=>(if a then 1 else 0) == b
 | .int a,.bl b=>a == (if b then 1 else 0)
 | .int a,.int b=>a == b
 | .str a,.str b=>a == b
 | _,_=>false
theorem vZ {A:Around} {s:Shared} {y x:V} {u v:Value} (ry:a9 y u) (rx:a9 x v) (fy:fo y=true) (fx:fo x=true):SeqAt.EqAt A s u v (eqV y x):=by
 cases y with
 | non =>
  cases ry
  cases x with
  | non=>cases rx; exact SeqAt.EqAt.same _
  | bl b=>cases rx; exact SeqAt.EqAt.none_bool b
  | int b=>obtain ⟨t,rfl⟩:=rx; exact SeqAt.EqAt.none_int b t
  | str b=>obtain ⟨t,rfl⟩:=rx; exact SeqAt.EqAt.none_str b t
  | _=>exact absurd (show false=true from fx) Bool.false_ne_true
 | bl a =>
  cases ry
  cases x with
  | non=>cases rx; exact SeqAt.EqAt.bool_none a
  | bl b=>cases rx; exact SeqAt.EqAt.bool_bool a b
  | int b=>obtain ⟨t,rfl⟩:=rx; exact SeqAt.EqAt.bool_int a b t
  | str b=>obtain ⟨t,rfl⟩:=rx; exact SeqAt.EqAt.bool_str a b t
  | _=>exact absurd (show false=true from fx) Bool.false_ne_true
 | int a =>
  obtain ⟨t',rfl⟩:=ry
  cases x with
  | non=>cases rx; exact SeqAt.EqAt.int_none a t'
  | bl b=>cases rx; exact SeqAt.EqAt.int_bool a t' b
  | int b=>obtain ⟨t,rfl⟩:=rx; exact SeqAt.EqAt.int_int a t' b t
  | str b=>obtain ⟨t,rfl⟩:=rx; exact SeqAt.EqAt.int_str a t' b t
  | _=>exact absurd (show false=true from fx) Bool.false_ne_true
 | str a =>
  obtain ⟨t',rfl⟩:=ry
  cases x with
  | non=>cases rx; exact SeqAt.EqAt.str_none a t'
  | bl b=>cases rx; exact SeqAt.EqAt.str_bool a t' b
  | int b=>obtain ⟨t,rfl⟩:=rx; exact SeqAt.EqAt.str_int a t' b t
  | str b=>obtain ⟨t,rfl⟩:=rx; exact SeqAt.EqAt.str_str a t' b t
  | _=>exact absurd (show false=true from fx) Bool.false_ne_true
 | _=>exact absurd (show false=true from fy) Bool.false_ne_true
def eqU (x:V) (u:Value):Bool:=match u with
 | .none=>eqV .non x
 | .bool b=>eqV (.bl b) x
 | .int i _=>eqV (.int i) x
 | .str z _=>eqV (.str z) x
 | _=>false
theorem o4 {x y:V} {u:Value} (r:a9 y u) (f:fo y=true):eqU x u=eqV y x:=by
 cases y with
 | non=>cases r; rfl
 | bl b=>cases r; rfl
 | int i=>obtain ⟨t,rfl⟩:=r; rfl
 | str z=>obtain ⟨t,rfl⟩:=r; rfl
 | _=>exact absurd (show false=true from f) Bool.false_ne_true
theorem f8 {x:V}:∀ {xs:List V} {us:List Value},aY xs us→xs.all fo=true→us.any (eqU x)=xs.any fun y=>eqV y x
 | _,_,.nil,_=>rfl
 | y :: xs,u :: us,.cons r t,f=>by
  rw [List.all_cons,Bool.and_eq_true] at f
  rw [List.any_cons,List.any_cons,o4 r f.1,f8 t f.2]
theorem eO {A:Around} {s:Shared} {x:V} {v:Value} (rx:a9 x v) (fx:fo x=true):∀ {xs:List V} {us:List Value},aY xs us→xs.all fo=true→∀ u∈us,SeqAt.EqAt A s u v (eqU x u)
 | _,_,.nil,_=>fun u hu=>by cases hu
 | y :: xs,u :: us,.cons r t,f=>fun u' hu=>by
  rw [List.all_cons,Bool.and_eq_true] at f
  rcases List.mem_cons.mp hu with rfl | hu
  ·rw [o4 r f.1]; exact vZ r rx f.1 fx
  ·exact eO rx fx t f.2 u' hu
def inV (x:V) (xs:List V):Bool:=xs.any fun y=>eqV y x
def rIn (K:PySem.W.Frag) (neg:Bool):R2:=fun x y H Q=>∃ p xs,y = .ref p∧(SqL K H p xs∨SqT K H p xs)∧fo x=true∧xs.all fo=true∧Q (.bl (if neg then !inV x xs else inV x xs)) H
theorem m_:OpR X (compareOp .In) (rIn X.K false):=by
 (try refine ⟨?_⟩); intro pins s σ H x y v u Q I rx ry h
 obtain ⟨p,xs,rfl,hq,fx,fs,q⟩:=h
 cases ry
 rcases hq with hq | hq
 ·obtain ⟨its,r,pl,hz⟩:=I.list hq
  refine SeqAt.in_listAt (eqU x) pl.isList (fun w hw=>eO rx fx r fs w (by simpa using hw)) ⟨.bl _,H,I,rfl,?_⟩
  rw [show its.toArray.any (eqU x)=its.any (eqU x) by simp,f8 r fs]
  exact q
 ·obtain ⟨its,r,pl,hz⟩:=I.tuple hq
  refine SeqAt.in_tupleAt (eqU x) pl (fun w hw=>eO rx fx r fs w (by simpa using hw)) ⟨.bl _,H,I,rfl,?_⟩
  rw [show its.toArray.any (eqU x)=its.any (eqU x) by simp,f8 r fs]
  exact q
theorem jk:OpR X (compareOp .NotIn) (rIn X.K true):=by
 (try refine ⟨?_⟩); intro pins s σ H x y v u Q I rx ry h
 obtain ⟨p,xs,rfl,hq,fx,fs,q⟩:=h
 cases ry
 rcases hq with hq | hq
 ·obtain ⟨its,r,pl,hz⟩:=I.list hq
  refine SeqAt.notIn_listAt (eqU x) pl.isList (fun w hw=>eO rx fx r fs w (by simpa using hw)) ⟨.bl _,H,I,rfl,?_⟩
  rw [show its.toArray.any (eqU x)=its.any (eqU x) by simp,f8 r fs]
  exact q
 ·obtain ⟨its,r,pl,hz⟩:=I.tuple hq
  refine SeqAt.notIn_tupleAt (eqU x) pl (fun w hw=>eO rx fx r fs w (by simpa using hw)) ⟨.bl _,H,I,rfl,?_⟩
  rw [show its.toArray.any (eqU x)=its.any (eqU x) by simp,f8 r fs]
  exact q
theorem az:dl X (.builtin "len") (fun xs H Q=>∃ p ys,xs=[.ref p]∧(SqL X.K H p ys∨SqT X.K H p ys)∧Q (.int ys.length) H):=by
 (try refine ⟨?_⟩); intro pins s σ H xs us Q I r h
 obtain ⟨p,ys,rfl,hq,q⟩:=h
 obtain ⟨u,rfl,rx⟩:=gA r
 cases rx
 have hn:=fw
 rcases hq with hq | hq
 ·obtain ⟨its,r',pl,hz⟩:=I.list hq
  have hlen:=r'.length
  exact Calls.call_len_list pl.isList (by simp only [List.size_toArray] <;> omega) ⟨.int ys.length,H,I.tok _,⟨s.toks + 1,by rw [List.size_toArray,hlen]⟩,q⟩
 ·obtain ⟨its,r',pl,hz⟩:=I.tuple hq
  have hlen:=r'.length
  exact len_tuple pl (by simp only [List.size_toArray] <;> omega) ⟨.int ys.length,H,I.tok _,⟨s.toks + 1,by rw [List.size_toArray,hlen]⟩,q⟩
theorem d9:dl X (.type "list") (fun xs H Q=>∃ p ys,xs=[.ref p]∧(SqL X.K H p ys∨SqT X.K H p ys)∧∀ l,H l=none→Q (.ref l) (upd H l (.lst ys))):=by
 (try refine ⟨?_⟩); intro pins s σ H xs us Q I r h
 obtain ⟨p,ys,rfl,hq,q⟩:=h
 obtain ⟨u,rfl,rx⟩:=gA r
 cases rx
 have fin:∀ (its:List Value),aY ys its→ys.length≤sizeLine→∀ (h':Heap) (c':Nat),(∀ b o',s.heap.get? b=some o'→h'.get? b=some o') →
  h'.get? s.heap.objs.size=some { cls:=.type "list",dict:=none,data:=.seq its.toArray c',slots:=#[] }→EP X pins σ Q (.ref s.heap.objs.size) { s with heap:=h' }:=fun its r' hz h' c' kp e =>
  ⟨.ref s.heap.objs.size,_,I.laid (t':=s.toks) kp (Nat.le_refl _) (show b9 X.prog X.w _ h' _ (.lst ys) from ⟨hz,its,c',r',e⟩),rfl,q _ (I.hok.fresh (Nat.le_refl _))⟩
 rcases hq with hq | hq
 ·obtain ⟨its,r',pl,hz⟩:=I.list hq
  have hlen:=r'.length
  obtain ⟨o,ho,hc,n,hd⟩:=pl.isList
  exact call_list_seq p (.inl rfl) ho hc hd (fun h' c' kp e=>fin its r' hz h' c' kp e) (by simp only [List.size_toArray] <;> omega)
 ·obtain ⟨its,r',pl,hz⟩:=I.tuple hq
  have hlen:=r'.length
  obtain ⟨o,ho,hc,n,hd⟩:=pl
  exact call_list_seq p (.inr rfl) ho hc hd (fun h' c' kp e=>fin its r' hz h' c' kp e) (by simp only [List.size_toArray] <;> omega)
def tyV (K:PySem.W.Frag) (T:String) (x:V) (H:Hp):Prop:=match x with
 | .str _=>T = "str"
 | .int _=>T = "int"
 | .ref p=>(T = "list" ∧ ∃ xs,SqL K H p xs)∨(T = "tuple" ∧ ∃ o,K.lookup p=some o∧o.cls = .type "tuple" ∧ o.dict=none) ∨
  (T = "dict" ∧ ((∃ kvs,H p=some (.dK kvs))∨∃ kvs,H p=some (.dT kvs)))∨(T = "set" ∧ ∃ S n,H p=some (.set S n))
 | _=>False
theorem wx {pins:List (Addr×Obj)} {σ:St} {H:Hp} {s:Shared} {T:String} {x:V} {v:Value} (I:Inv X pins σ H s) (r:a9 x v) (ty:tyV X.K T x H) :
 s.TypeIs v T∧∀ a,v = .ref a→∃ ob,s.heap.get? a=some ob∧ob.dict=none:=by
 cases x with
 | str z =>
  obtain ⟨t,rfl⟩:=r
  cases (show T = "str" from ty)
  exact ⟨typeIs_str s z t,fun _ e=>nomatch e⟩
 | int i =>
  obtain ⟨t,rfl⟩:=r
  cases (show T = "int" from ty)
  exact ⟨typeIs_int s i t,fun _ e=>nomatch e⟩
 | ref p =>
  cases r
  rcases ty with ⟨rfl,xs,hq⟩ | ⟨rfl,o,hk,hc,hd⟩ | ⟨rfl,hk⟩ | ⟨rfl,S,n,hk⟩
  ·obtain ⟨its,_,pl,_⟩:=I.list hq
   refine ⟨pl.isList.typeIs,fun a e=>?_⟩
   cases e
   obtain ⟨o,n,e,c,hd,_⟩:=pl
   exact ⟨o,e,hd⟩
  ·refine ⟨⟨o,I.kIn p o hk,hc⟩,fun a e=>?_⟩
   cases e
   exact ⟨o,I.kIn _ o hk,hd⟩
  ·have z:∃ o,s.heap.get? p=some o∧o.ExactDict:=by
    rcases hk with ⟨kvs,hk⟩ | ⟨kvs,hk⟩
    ·obtain ⟨_,_,_,_,o,_,_,e,ex,_⟩:=I.hok p _ hk
     exact ⟨o,e,ex⟩
    ·obtain ⟨_,_,_,_,o,_,_,e,ex,_⟩:=I.hok p _ hk
     exact ⟨o,e,ex⟩
   obtain ⟨o,e,ex⟩:=z
   refine ⟨⟨o,e,ex.1⟩,fun a e2=>?_⟩
   cases e2
   exact ⟨o,e,ex.2.1⟩
  ·obtain ⟨o,_,_,_,e,ex,_⟩:=I.hok p _ hk
   refine ⟨⟨o,e,ex.1⟩,fun a e2=>?_⟩
   cases e2
   exact ⟨o,e,ex.2.1⟩
 | _=>exact False.elim ty
def tBM (K:PySem.W.Frag) (T:String) (r:V→List V→Hp→VK→Prop) (to:TE) (t:TA):TE:=fun σ H Q=>to σ H fun x H1=>tyV K T x H1∧t σ H1 fun xs H2=>r x xs H2 Q
variable {o e:Expr} {es:List Expr} {to:TE} {t:TA} {name:Str} {apos cpos:Pos} {T id:String} {r:V→List V→Hp→VK→Prop}
theorem tU (pa:PlainAttrs T) (slot:Slot T name id) (hty:typeOf (.builtin id)=pure (.type "method_descriptor")) (hm:MtR X id r) (ho:PE X o to) (ha:PA X (e :: es) t)
 (hbase:attributeBase o name X.env (eval o X.env)=eval o X.env:=by rfl)
 (hfew:((backTo cpos (starEach (e :: es) X.env)).all (fun x=>!x.1)&&(backToKw cpos (keywordEach [] X.env)).all (fun x=>x.1.isSome)
  && decide ((e :: es).length + ([]:List Keyword).length + (if ([]:List Keyword).isEmpty then 0 else 1)<30))=true:=by rfl)
 (hline:(apos.endLine == cpos.line)=true:=by rfl) (hs:starEach (e :: es) X.env=(false,eval e X.env) :: starEach es X.env:=by rfl) (hplain:(backTo cpos (starEach es X.env)).any (·.1)=false:=by rfl) :
 PE X (.Call (.Attribute o name apos) (e :: es) [] cpos) (tBM X.K T r to t):=by
 (try refine ⟨?_⟩); intro pins s σ H Q I h
 refine wpAny_Call_method_late hbase hfew hline rfl (thn (ho pins s σ H _ I h) fun v s1 ⟨x,H1,I1,r1,ty,q1⟩=>?_)
 obtain ⟨h1,h2⟩:=wx I1 r1 ty
 refine ⟨T,id,pa,slot,hty,h1,h2,?_⟩
 have hA:=ha cpos pins s1 σ H1 _ I1 q1
 rw [hs] at hA ⊢
 refine Calls.callWith_builtin (by show (false||(backTo cpos (starEach es X.env)).any (·.1))=false; rw [hplain] <;> rfl) (Calls.evalArgs_plain ?_)
 exact thn hA fun us s2 ⟨vs,H2,I2,r2,q2⟩=>hm pins s2 σ H2 x vs v us Q I2 r1 r2 q2
/- xs.append(e),list.index on a module's tuple .. are MtR facts of 06m -/
end
def MtM (X:Cx) (id:String) (r:V→List V→Hp→VK→Prop):Prop :=
 ∀ (pins:List (Addr×Obj)) (s:Shared) (σ:St) (H:Hp) (x:V) (xs:List V) (v:Value) (us:List Value) (Q:VK),Inv X pins σ H s→a9 x v→aY xs us→r x xs H Q →
  wpAny (model X.prog X.w) X.A (call (.builtin id) (v :: us)) (EP X pins σ Q) X.xe s
theorem aY.one:∀ {x:V} {us:List Value},aY [x] us→∃ u,us=[u]∧a9 x u:=fun h=>by
 cases h with
 | cons r q=>cases q; exact ⟨_,rfl,r⟩
theorem aY.rep {xs:List V} {us:List Value} (h:aY xs us):∀ k:Nat,aY (List.replicate k xs).flatten (List.replicate k us).flatten
 | 0=>.nil
 | k + 1=>by
  rw [List.replicate_succ,List.replicate_succ,List.flatten_cons,List.flatten_cons]
  exact aY.append h (aY.rep h k)
theorem iK (its:List Value):∀ (k:Nat) (acc:List Value),
 List.foldl (fun x1 x2=>x1++x2) acc.toArray (List.replicate k its.toArray)=(acc++(List.replicate k its).flatten).toArray
 | 0,acc=>by simp
 | k + 1,acc=>by
  have e:acc.toArray++its.toArray=(acc++its).toArray:=by simp
  have e2:(acc++its)++(List.replicate k its).flatten=acc++(List.replicate (k + 1) its).flatten:=by
   rw [List.replicate_succ,List.flatten_cons,List.append_assoc]
  rw [← e2,← iK its k (acc++its),← e,List.replicate_succ,List.foldl_cons]
section
variable {X:Cx} {pins:List (Addr×Obj)} {σ:St} {H:Hp} {s:Shared} {l b:Addr} {xs ys zs:List V}
theorem Inv.lset {its its':List Value} {n:Nat} {f:Array Value→Array Value} {t':Nat} (I:Inv X pins σ H s) (hH:H l=some (.lst xs))
 (e:s.heap.get? l=some { cls:=.type "list",data:=.seq its.toArray n }) (hf:f its.toArray=its'.toArray) (hv:aY ys its') (hz:ys.length≤sizeLine) :
 Inv X pins σ (upd H l (.lst ys)) { s with heap:=s.heap.update l (Obj.mapSeq f),toks:=t' }:=by
 have q:=PySem.IsL.update e f
 rw [hf] at q
 refine I.write (x:=l) (e:=l) (by rw [hH]; exact trivial) (.inl rfl) (fun b' u hb hu=>(Heap.get?_update_other s.heap (Obj.mapSeq f) (Ne.symm hb)).trans hu) ⟨_,q⟩ ?_
 exact ⟨hz,its',_,hv,q⟩
theorem Inv.lnew {its:List Value} {t':Nat} (I:Inv X pins σ H s) (hv:aY ys its) (hz:ys.length≤sizeLine) :
 Inv X pins σ (upd H s.heap.objs.size (.lst ys)) { s with heap:=s.heap.push { cls:=.type "list",data:=.seq its.toArray },toks:=t' } :=
 I.laid (fun _ _ q=>Heap.get?_push_of_some _ q) (Nat.le_refl _) ⟨hz,its,0,hv,Heap.get?_push_size _ rfl⟩
theorem Inv.fresh (I:Inv X pins σ H s):H s.heap.objs.size=none:=I.hok.fresh (Nat.le_refl _)
theorem Inv.lstM (I:Inv X pins σ H s) (hH:H l=some (.lst xs)):xs.length≤sizeLine∧∃ (its:List Value) (n:Nat),aY xs its∧xs.length=its.length∧s.heap.get? l=some { cls:=.type "list",data:=.seq its.toArray n }:=by
 obtain ⟨z,its,n,r,e⟩:=I.hok l _ hH
 exact ⟨z,its,n,r,r.length,e⟩
theorem kl {n:Nat} (h:n≤sizeLine):Builtin.List.listTooLong n=false:=by
 unfold Builtin.List.listTooLong
 exact decide_eq_false (by omega)
end
section
variable {X:Cx}
def r6:V→List V→Hp→VK→Prop:=fun x vs H Q=>∃ l xs y,x = .ref l∧vs=[y]∧H l=some (.lst xs)∧xs.length<sizeLine∧Q .non (upd H l (.lst (xs++[y])))
theorem iI:MtM X "list.append" r6:=by
 (try refine ⟨?_⟩); intro pins s σ H x vs v us Q I rx rv h
 obtain ⟨l,xs,y,rfl,rfl,hH,hz,q⟩:=h
 cases rx
 obtain ⟨u,rfl,ru⟩:=rv.one
 obtain ⟨z,its,n,r,hl,e⟩:=I.lstM hH
 refine call_meets F.slot_list_append ⟨_,e,rfl⟩ F.entry_list_append (F.args_list_append_2 _ _) (PySem.list_append l its.toArray n u (by rw [List.size_toArray]; omega)) ⟨e,?_⟩
 refine ⟨.non,_,I.lset (its':=its++[u]) hH e (by simp) (r.append (.cons ru .nil)) ?_,rfl,q⟩
 rw [List.length_append,List.length_singleton]
 omega
def rD:V→List V→Hp→VK→Prop:=fun x vs H Q=>∃ l b xs zs,x = .ref l∧vs=[.ref b]∧H l=some (.lst xs)∧H b=some (.lst zs)∧xs.length + zs.length≤sizeLine∧Q .non (upd H l (.lst (xs++zs)))
theorem xr:MtM X "list.extend" rD:=by
 (try refine ⟨?_⟩); intro pins s σ H x vs v us Q I rx rv h
 obtain ⟨l,b,xs,zs,rfl,rfl,hH,hB,hz,q⟩:=h
 cases rx
 obtain ⟨u,rfl,ru⟩:=rv.one
 cases ru
 obtain ⟨z,its,n,r,hl,e⟩:=I.lstM hH
 obtain ⟨z2,its2,n2,r2,hl2,e2⟩:=I.lstM hB
 have hsz:its.toArray.size + its2.toArray.size≤sizeLine:=by rw [List.size_toArray,List.size_toArray]; omega
 have hlong : ¬ (!its.toArray.isEmpty&&Builtin.List.listTooLong (its.toArray.size + its2.toArray.size))=true:=by
  rw [kl hsz,Bool.and_false]
  exact Bool.false_ne_true
 refine call_meets F.slot_list_extend ⟨_,e,rfl⟩ F.entry_list_extend (F.args_list_extend_2 _ _)
  (AutoSeq1.list_extend_list_list_0 l its.toArray n b its2.toArray n2 hlong (by rw [List.size_toArray]; omega) (by omega)) ⟨e,e2,?_⟩
 refine ⟨.non,_,I.lset (its':=its++its2) hH e (by simp) (r.append r2) ?_,rfl,q⟩
 rw [List.length_append]
 omega
def rCat:R2:=fun x y H Q=>∃ l b xs zs,x = .ref l∧y = .ref b∧H l=some (.lst xs)∧H b=some (.lst zs)∧xs.length + zs.length≤sizeLine∧∀ p,H p=none→Q (.ref p) (upd H p (.lst (xs++zs)))
theorem ju:OpR X (binaryOp .Add) rCat:=by
 (try refine ⟨?_⟩); intro pins s σ H x y v u Q I rx ry h
 obtain ⟨l,b,xs,zs,rfl,rfl,hH,hB,hz,q⟩:=h
 cases rx
 cases ry
 obtain ⟨z,its,n,r,hl,e⟩:=I.lstM hH
 obtain ⟨z2,its2,n2,r2,hl2,e2⟩:=I.lstM hB
 refine PySem.P.add_list e e2 ?_ (by rw [List.size_toArray,List.size_toArray]; omega)
 have ea:its.toArray++its2.toArray=(its++its2).toArray:=by simp
 rw [ea]
 exact ⟨.ref _,_,I.lnew (t':=s.toks) (r.append r2) (by rw [List.length_append]; omega),rfl,q _ I.fresh⟩
def rRep:R2:=fun x y H Q=>∃ l k xs,x = .ref l∧y = .int k∧H l=some (.lst xs)∧-(2 ^ 63)≤k∧k<2 ^ 63∧xs.length * k.toNat≤sizeLine ∧
 ∀ p,H p=none→Q (.ref p) (upd H p (.lst (List.replicate k.toNat xs).flatten))
theorem sU {α:Type} (xs:List α) (k:Nat):(List.replicate k xs).flatten.length=k * xs.length:=by
 induction k with
 | zero=>simp
 | succ k ih=>rw [List.replicate_succ,List.flatten_cons,List.length_append,ih,Nat.succ_mul,Nat.add_comm]
theorem gg:OpR X (binaryOp .Mult) rRep:=by
 (try refine ⟨?_⟩); intro pins s σ H x y v u Q I rx ry h
 obtain ⟨l,k,xs,rfl,rfl,hH,h1,h2,hz,q⟩:=h
 cases rx
 obtain ⟨t,rfl⟩:=ry
 obtain ⟨z,its,n,r,hl,e⟩:=I.lstM hH
 have hlen:its.toArray.size * k.toNat≤sizeLine:=by rw [List.size_toArray,← hl]; exact hz
 have hcap : ¬ its.toArray.size * k.toNat > (2 ^ 63 - 1) / 8:=by
  have:(sizeLine:Nat)≤(2 ^ 63 - 1) / 8:=by decide
  omega
 have hfit : ¬ (!Builtin.List.listFitsIndex k)=true:=by
  rw [fitsIndex_both h1 h2]
  exact Bool.false_ne_true
 have hlong : ¬ Builtin.List.listTooLong (its.toArray.size * k.toNat)=true:=by
  rw [kl hlen]
  exact Bool.false_ne_true
 have hnew:List.foldl (fun x1 x2=>x1++x2) #[] (List.replicate (if its.toArray.isEmpty=true then 0 else k.toNat) its.toArray)=(List.replicate k.toNat its).flatten.toArray:=by
  have f0:∀ m:Nat,List.foldl (fun x1 x2=>x1++x2) #[] (List.replicate m its.toArray)=(List.replicate m its).flatten.toArray:=fun m=>by
   have:=iK its m []
   rw [List.nil_append] at this
   exact this
  rw [f0]
  cases its with
  | nil=>simp
  | cons a r'=>rw [if_neg (by simp)]
 refine wpAny_binaryOp_repeat_ref (T:="list") (U:="int") (by decide) ⟨_,e,rfl⟩ (fun s'=>typeIs_int s' k t) noFill_list_mul F.fills_int_mul F.slot_int_rmul repeat_list F.slot_int_index.lookup
  (call_meets F.slot_int_rmul (typeIs_int s k t) F.entry_int_rmul (F.args_int_rmul_2 _ _) (int___rmul___int_list k t l its.toArray n)
   ⟨e,rfl,⟨_,e,rfl⟩,call_meets F.slot_list_mul ⟨_,e,rfl⟩ F.entry_list_mul (F.args_list_mul_2 _ _) (AutoListH.list___mul___list_int_3 l its.toArray n k t hfit hcap hlong) ⟨e,?_⟩⟩)
 rw [hnew]
 exact ⟨.ref _,_,I.lnew (t':=s.toks) (r.rep k.toNat) (by rw [sU,Nat.mul_comm]; exact hz),rfl,q _ I.fresh⟩
end
section
variable {prog:Program} {w:World} {A:Around} {E:Value→Shared→Prop} {s:Shared}
end
section
variable {X:Cx}
end
end L2
namespace Att
open PySem PySem.W PySem.Calls PyProof.Rows
theorem gF {P:Params} {h:Heap}:∀ (ns:List Int) (vs:List Value),WellAll P h vs (ns.map WData.int)→IntsAre vs ns:=by
 intro ns
 induction ns with
 | nil =>
  intro vs w
  rw [List.map_nil] at w
  cases w
  exact .nil
 | cons n ns ih =>
  intro vs w
  rw [List.map_cons] at w
  cases w with
  | cons a b =>
   cases a
   exact .cons _ _ (ih _ b)
theorem nH {l:OpenLaw} {n:Nat} (hn:l.most=some n) {P:Params} {h:Heap} {args:List WData} {vals:List Value}
 (hpre:l.row.toRowW.claim.pre args=true) (hwl:WellAll P h vals args) :
 ∃ a vs ns,vals=[Value.ref a]∧args=[WData.list (ns.map WData.int)]∧h.get? a=some { cls:=.type "list",data:=.seq vs.toArray }∧IntsAre vs ns∧ns.length≤n:=by
 have hsh:WShape.hasAll [] args [.list .int]=true:=(pre_splitW hpre).1
 have hc:l.pre.holds [] { args:=args } = true:=(pre_splitW hpre).2
 obtain ⟨d,r,rfl,h1,h2⟩:=hasAllW_cons hsh
 obtain rfl:=hasAllW_nil h2
 obtain ⟨xs,rfl,h3⟩:=hasW_list h1
 obtain ⟨ns,rfl⟩:=items_int h3
 have hlen:ns.length≤n:=by
  unfold OpenLaw.pre at hc
  have h4:(WTm.not (.lt (.lit (.int (n:Int))) (.len (.arg 0)))).holds [] { args:=[.list (ns.map .int)] } = true:=by
   have h4:=(holds_andW hc).1
   rw [hn] at h4
   exact h4
  have h5:=condW_of h4 (w_not (w_lt w_lit (w_len_list (w_arg rfl))))
  rw [List.length_map] at h5
  refine Nat.le_of_not_lt fun q=>?_
  have q':(n:Int)<((ns.length:Nat):Int):=by omega
  first
   | (rw [decide_eq_true q'] at h5; exact absurd h5 (by decide))
   | (simp at h5; omega)
 cases hwl with
 | cons w1 w2 =>
  cases w2
  cases w1 with
  | list ho hall=>exact ⟨_,_,ns,rfl,rfl,ho,gF ns _ hall,hlen⟩
theorem ni (l:OpenLaw) (args:List WData):l.row.toRowW.claim.post args (.bool true) args=true :=
 postW_of (r:=l.row.toRowW) (X:=(true == true))
  (show WShape.has [] (.bool true) .bool=true by first | rfl | decide | simp [WShape.has,WShape.arms,WShape.armsAll])
  (show (WTm.eq .res (.lit (.bool true))).value [] { args:=args,res:=some (.bool true),after:=args } = some (.bool (true == true)) from w_eq_bool (w_res rfl) w_lit) rfl
theorem attach_call {l:OpenLaw} {n:Nat} {q:Program} {loose:List Str} {XP:(Str→Option Value)→Heap→Prop} {YP:World→Heap→Prop} {d:DefRec}
 (hn:l.most=some n) (hdf:d.params.defaults=[])
 (call:∀ (w:World) (s₀ s₁:Shared) (mg mb:Str→Option Value) (fa:Addr) (o:Obj) (pm cd doc:Value) (a:Addr) (vs:List Value) (ns:List Int),
  Ground q loose [] XP w s₀ mg mb s₁.heap→YP w s₁.heap →
  s₁.heap.get? fa=some o→o.data = .func (docDef d.name d.params d.body d.scope pm cd doc)→s₁.heap.CodeRec cd d.name→mg d.name=some (.ref fa) →
  s₁.heap.get? a=some { cls:=.type "list",data:=.seq vs.toArray }→IntsAre vs ns→ns.length≤n→s₁.gens = #[] →
  codeAny (model l.prog w) callerA (.call (.ref fa) ⟨[.ref a],[]⟩) (fun r s'=>r = .ok (.ret (.bool true))∧OldK s₁.heap s'.heap∧s'.os=s₁.os∧AllBare s'.gens) s₁) :
 WalkO q loose XP YP l.row.toRowW d [] (fun f vs=>PySem.call f vs):=by
 intro w s₀ s₁ mg mb G Y fa o pm cd doc dV kV ho hd hcd hD hmg hg args vals as hpre hlay hrd hwl hlo
 obtain rfl:dV = .none:=Dflts.none hD hdf
 obtain rfl:kV = .none:=Dflts.noKw hD
 obtain ⟨a,vs,ns,rfl,rfl,hobj,hints,hlen⟩:=nH hn hpre hwl
 refine enter_call (codeAny_mono (call w s₀ s₁ mg mb fa o pm cd doc a vs ns G Y ho (fd_plain hd) hcd hmg hobj hints hlen hg) fun r s' hq=>?_)
 obtain ⟨rfl,h2,h3,h4⟩:=hq
 exact ⟨.inl ⟨.bool true,.bool true,[],rfl,fun _=>rfl,.bool true,ni l _,fun _=>⟨List.Pairwise.nil,fun _ hm=>(nomatch hm)⟩⟩,h2,h3,h4⟩
section
variable {prog:Program} {w:World} {A:Around} {E:Value→Shared→Prop} {s:Shared} {K:Frag}
def jz (h:Heap):Heap:={ h with objs:=#[] }
theorem io (h:Heap) (b:Addr):(jz h).get? b=none:=by
 cases e:(jz h).get? b with
 | none=>rfl
 | some o=>exact absurd (Heap.lt_size e) (Nat.not_lt_zero _)
def jp (h:Heap) (L d:Addr):List (Addr×Obj):=(List.range h.objs.size).filterMap fun a=>if a=L∨a=d then none else (h.get? a).map fun o=>(a,o)
theorem iw {h:Heap} {L d a:Addr} {o:Obj}:(a,o)∈jp h L d↔a≠L∧a≠d∧h.get? a=some o:=by
 unfold jp
 rw [List.mem_filterMap]
 constructor
 ·rintro ⟨b,_,e⟩
  split at e
  ·cases e
  ·rename_i hb
   obtain ⟨o',ho,e'⟩:=Option.map_eq_some_iff.mp e
   cases e'
   exact ⟨fun q=>hb (.inl q),fun q=>hb (.inr q),ho⟩
 ·rintro ⟨n1,n2,ho⟩
  refine ⟨a,List.mem_range.mpr (Heap.lt_size ho),?_⟩
  rw [if_neg (show ¬ (a=L∨a=d) from fun q=>q.elim n1 n2),ho] <;> rfl
theorem wX {h:Heap} {L:Addr} {m:Str→Option Value} (n:h.Ns L m):Fr (jz h) L h m :=
 ⟨n,fun b o e=>(by rw [io] at e; cases e),Nat.zero_le _⟩
end
end Att
namespace L2
open PySem PySem.Spec PyProof.Rows
theorem e7:∀ {vs:List Value} {ns:List Int},IntsAre vs ns→aY (ns.map V.int) vs
 | _,_,.nil=>.nil
 | _,_,.cons n t h=>.cons ⟨t,rfl⟩ (e7 h)
end L2
/- THE LAST THEOREM (shape; LID,My.* are yours):
   My.Adr: a structure of the addresses that your layer names (classes,functions); My.Txt K t: a structure (Prop) of the equations over K;
   My.txt_mk : {K} {implicit addresses ..} (e1:nsIn K mainGlobals "law" = some (some (.ref f))) (e2:K.lookup f=some ⟨oc,od,.func (fnOf "law" "law" params body scope dV kV doc pm an cdv ct),sl⟩) (e3:codeIn K cdv "law" = true) ..:∃ t,My.Txt K t
(the tactic k_is has no namespace: write k_is) -/
namespace L2
open PySem PySem.Spec PyProof.Rows
def eu (s:Stmt):Arguments:=match s with
 | .FunctionDef _ a _ _ _ _ _ _ _ _=>a
 | _=>{ posonlyargs:=[],args:=[],vararg:=none,kwonlyargs:=[],kw_defaults:=[],kwarg:=none,defaults:=[] }
def cC (s:Stmt):List Stmt:=match s with
 | .FunctionDef _ _ b _ _ _ _ _ _ _=>b
 | _=>[]
def ak (s:Stmt):Scope:=match s with
 | .FunctionDef _ _ _ _ _ _ sc _ _ _=>sc
 | _=>{ kind:=.function,names:=[],isGenerator:=false,isCoroutine:=false }
abbrev CX0:CXT:=fun _ _ _ _ _ _=>False
abbrev E0:XK:=fun _ _ _=>False
theorem tK {X:Cx}:lv CX0 X E0:=fun _ _ _ _ _ _ _ h=>h.elim
structure Fun (K:PySem.W.Frag) (x qual:Str) (st:Stmt) (f:Addr) (fd:FuncData):Prop where
 ex:∃ (oc:Value) (od:Option Addr) (kV doc pm:Value) (an:Option Addr) (cdv ct:Value) (osl:Array (Option Value)),
  fd=PySem.W.fnOf x qual (eu st) (cC st) (ak st) .none kV doc pm an cdv ct∧K.lookup f=some ⟨oc,od,.func fd,osl⟩∧PySem.W.codeIn K cdv qual=true
 kp:PySem.W.keepIn K (.ref f)=true
section
variable {P:Program} {w:World} {K:PySem.W.Frag} {mg:Str→Option Value} {base:Heap}
theorem Fun.ok {x qual:Str} {st:Stmt} {f:Addr} {fd:FuncData} {N ps:List Str} {k:Nat} {sp:Sp} (F:Fun K x qual st f fd) (S:FnScope N ps (ak st)) (len:∀ vs H Q E,sp vs H Q E→vs.length=ps.length)
 (hbody:∀ (cdv:Value) (A:Around) (outer:List Env) (s:Shared) (H:Hp) (vs:List V) (Q:VK) (E:XK),Room k (A.deeper (envOfC qual (ak st) s.heap.objs.size f cdv))→sp vs H Q E →
  ∃ t,PSs (jr CX0 P w K mg base N qual (ak st) f cdv A outer s H E).nox (cC st) t∧t { nx:=fun _ H'=>Q .non H',rt:=Q } (dZ N vs) H):FnOk P w K mg base CX0 (k + 1) f fd ps sp:=by
 obtain ⟨oc,od,kV,doc,pm,an,cdv,ct,osl,rfl,lk,hcd⟩:=F.ex
 refine t5 lk hcd S len fun A outer s H vs Q E hr hsp=>?_
 obtain ⟨t,h,q⟩:=hbody cdv A outer s H vs Q E hr hsp
 exact ⟨t,h.nox,q⟩
theorem Fun.binds {x qual:Str} {st:Stmt} {f:Addr} {fd:FuncData} {ps:List Str} (F:Fun K x qual st f fd)
 (h:∀ (kV doc pm:Value) (an:Option Addr) (cdv ct:Value) (us:List Value),us.length=ps.length→bindArgs (PySem.W.fnOf x qual (eu st) (cC st) (ak st) .none kV doc pm an cdv ct) ⟨us,[]⟩=pure (ps.zip us)):gB K fd ps []:=by
 obtain ⟨oc,od,kV,doc,pm,an,cdv,ct,osl,rfl,lk,hcd⟩:=F.ex
 exact .all (h kV doc pm an cdv ct)
theorem vh {x qual:Str} {st:Stmt} {f:Addr} {oc:Value} {od an:Option Addr} {osl:Array (Option Value)} {kV doc pm cdv ct:Value} (l:K.lookup f=some ⟨oc,od,.func (PySem.W.fnOf x qual (eu st) (cC st) (ak st) .none kV doc pm an cdv ct),osl⟩)
 (c:PySem.W.codeIn K cdv qual=true) (k:PySem.W.keepIn K (.ref f)=true):Fun K x qual st f (PySem.W.fnOf x qual (eu st) (cC st) (ak st) .none kV doc pm an cdv ct):=⟨⟨oc,od,kV,doc,pm,an,cdv,ct,osl,rfl,l,c⟩,k⟩
end
theorem d4 {n:Nat} (h:n≤1000):n<sizeLine:=Nat.lt_of_le_of_lt h (by decide)
section
variable {X:Cx}
end
theorem cj {c A B:Prop} [Decidable c] (h1:c→A) (h2 : ¬ c→B):if c then A else B:=by
 by_cases h:c
 ·rw [if_pos h]
  exact h1 h
 ·rw [if_neg h]
  exact h2 h
def aU (H H':Hp):Prop:=∀ b o,H b=some o→H' b=some o
theorem aU.refl (H:Hp):aU H H:=fun _ _ h=>h
theorem aU.trans {H H1 H2:Hp} (a:aU H H1) (b:aU H1 H2):aU H H2:=fun c o h=>b c o (a c o h)
inductive D where
 | non | bl (b:Bool) | int (i:Int) | str (x:Str) | tup (ds:List D) | lst (ds:List D) | dct | dic (ks:List Key) (ds:List D) | scr (φ:Addr→Prop) (ns:List Int) | ext (φ:Hp→Addr→Prop)
mutual
def Rep (H:Hp):D→V→Prop
 | .non,v=>v = .non
 | .bl b,v=>v = .bl b
 | .int i,v=>v = .int i
 | .str x,v=>v = .str x
 | .tup ds,v=>∃ a xs,v = .ref a∧H a=some (.tup xs)∧Reps H ds xs
 | .lst ds,v=>∃ a xs,v = .ref a∧H a=some (.lst xs)∧Reps H ds xs
 | .dct,v=>∃ a kvs,v = .ref a∧H a=some (.dK kvs)
 | .dic ks ds,v=>∃ a xs,v = .ref a∧H a=some (.dK (ks.zip xs))∧ks.length=ds.length∧Reps H ds xs
 | .scr φ ns,v=>∃ a,v = .ref a∧((∃ o,H a=some (.frz o (.lst (ns.map V.int))))∨φ a)
 | .ext φ,v=>∃ a H0,v = .ref a∧aU H0 H∧φ H0 a
def Reps (H:Hp):List D→List V→Prop
 | [],xs=>xs=[]
 | d :: ds,xs=>∃ v vs,xs=v :: vs∧Rep H d v∧Reps H ds vs
end
theorem Reps.length {H:Hp}:∀ {ds:List D} {xs:List V},Reps H ds xs→xs.length=ds.length
 | [],xs,h=>by rw [Reps] at h; subst h; rfl
 | d :: ds,xs,h=>by
  rw [Reps] at h
  obtain ⟨v,vs,rfl,_,h2⟩:=h
  have:=Reps.length h2
  simp [this]
mutual
theorem Rep.mono {H H':Hp} (e:aU H H'):∀ (d:D) (v:V),Rep H d v→Rep H' d v
 | .non,v,h=>by rw [Rep] at *; exact h
 | .bl b,v,h=>by rw [Rep] at *; exact h
 | .int i,v,h=>by rw [Rep] at *; exact h
 | .str x,v,h=>by rw [Rep] at *; exact h
 | .tup ds,v,h=>by
  rw [Rep] at *
  obtain ⟨a,xs,h1,h2,h3⟩:=h
  exact ⟨a,xs,h1,e _ _ h2,Reps.mono e ds xs h3⟩
 | .lst ds,v,h=>by
  rw [Rep] at *
  obtain ⟨a,xs,h1,h2,h3⟩:=h
  exact ⟨a,xs,h1,e _ _ h2,Reps.mono e ds xs h3⟩
 | .dct,v,h=>by
  rw [Rep] at *
  obtain ⟨a,kvs,h1,h2⟩:=h
  exact ⟨a,kvs,h1,e _ _ h2⟩
 | .dic ks ds,v,h=>by
  rw [Rep] at *
  obtain ⟨a,xs,h1,h2,h3,h4⟩:=h
  exact ⟨a,xs,h1,e _ _ h2,h3,Reps.mono e ds xs h4⟩
 | .scr φ ns,v,h=>by
  rw [Rep] at *
  obtain ⟨a,h1,h2⟩:=h
  refine ⟨a,h1,?_⟩
  rcases h2 with ⟨o,h2⟩ | h2
  ·exact .inl ⟨o,e _ _ h2⟩
  ·exact .inr h2
 | .ext φ,v,h=>by
  rw [Rep] at *
  obtain ⟨a,H0,h1,h2,h3⟩:=h
  exact ⟨a,H0,h1,fun b o q=>e _ _ (h2 b o q),h3⟩
theorem Reps.mono {H H':Hp} (e:aU H H'):∀ (ds:List D) (xs:List V),Reps H ds xs→Reps H' ds xs
 | [],xs,h=>by rw [Reps] at *; exact h
 | d :: ds,xs,h=>by
  rw [Reps] at *
  obtain ⟨v,vs,h1,h2,h3⟩:=h
  exact ⟨v,vs,h1,Rep.mono e d v h2,Reps.mono e ds vs h3⟩
end
def D.ty:D→String
 | .non => "NoneType" | .bl _ => "bool" | .int _ => "int" | .str _ => "str" | .tup _ => "tuple" | .lst _ => "list" | .dct => "dict" | .dic _ _ => "dict" | .scr _ _ => "list" | .ext _ => "object"
def D.isS:D→Bool
 | .scr _ _=>true
 | .ext _=>true
 | _=>false
theorem Rep.ty {K:PySem.W.Frag} {H:Hp} {d:D} {v:V} (h:Rep H d v) (hs:d.isS=false):TyOf K H v (.type d.ty):=by
 cases d with
 | non=>rw [Rep] at h; subst h; exact .non
 | bl b=>rw [Rep] at h; subst h; exact .bl b
 | int i=>rw [Rep] at h; subst h; exact .int i
 | str x=>rw [Rep] at h; subst h; exact .str x
 | tup ds=>rw [Rep] at h; obtain ⟨a,xs,rfl,h2,_⟩:=h; exact .tup h2
 | lst ds=>rw [Rep] at h; obtain ⟨a,xs,rfl,h2,_⟩:=h; exact .lst h2
 | dct=>rw [Rep] at h; obtain ⟨a,kvs,rfl,h2⟩:=h; exact .dK h2
 | dic ks ds=>rw [Rep] at h; obtain ⟨a,xs,rfl,h2,_⟩:=h; exact .dK h2
 | scr φ ns=>cases hs
 | ext φ=>cases hs
theorem mx {H:Hp} {a:Addr} {xs:List V} {ds:List D} (h:H a=some (.tup xs)) (r:Reps H ds xs):Rep H (.tup ds) (.ref a):=by rw [Rep]; exact ⟨a,xs,rfl,h,r⟩
theorem fL {H:Hp} {a:Addr} {xs:List V} {ds:List D} (h:H a=some (.lst xs)) (r:Reps H ds xs):Rep H (.lst ds) (.ref a):=by rw [Rep]; exact ⟨a,xs,rfl,h,r⟩
theorem ck {H:Hp}:Reps H [] []:=by rw [Reps]
theorem b_ {H:Hp} {d:D} {v:V} {ds:List D} {vs:List V} (h:Rep H d v) (r:Reps H ds vs):Reps H (d :: ds) (v :: vs):=by rw [Reps]; exact ⟨v,vs,rfl,h,r⟩
theorem bD {H:Hp} (i:Int):Rep H (.int i) (.int i):=by rw [Rep]
theorem cR {H:Hp} (i:Bool):Rep H (.bl i) (.bl i):=by rw [Rep]
theorem mG {H:Hp}:Rep H .non .non:=by rw [Rep]
theorem ra {H:Hp} {p:Addr} (h:H p=none) (o:HO):aU H (upd H p o):=fun b u q=>by rw [ax (aH q h)]; exact q
section
variable {X:Cx}
def nq (d:D) (T:String):Option Bool:=if d.isS=true then none else if (Value.type d.ty == Value.type T)=true then some true else if PySem.W.kitMeta T=true then (fastBuiltinMro d.ty).map (·.contains (.type T)) else none
theorem rk (K:PySem.W.Frag) (d:D) (T:String) (hs:d.isS=false):PySem.W.kitOne K (.type d.ty) (.type T)=nq d T:=by
 unfold nq; rw [hs,if_neg (by decide)]; rfl
def rIsI:List V→Hp→VK→Prop:=fun xs H Q=>∃ x T d b,xs=[x,.ty T]∧Rep H d x∧nq d T=some b∧Q (.bl b) H
theorem j9:dl X (.builtin "isinstance") rIsI:=by
 intro pins s σ H xs us Q I r h
 obtain ⟨x,T,d,b,rfl,hd,e,q⟩:=h
 obtain ⟨u,w',rfl,ru,rw'⟩:=oZ r
 cases (show w'=Value.type T from rw')
 have hs:d.isS=false:=by
  cases z:d.isS with
  | false=>rfl
  | true=>unfold nq at e; rw [z,if_pos rfl] at e; cases e
 rw [← rk X.K d T hs] at e
 exact nI I ru (hd.ty hs) e fun tk=>⟨.bl b,H,I.tok tk,rfl,q⟩
def Sm (i:Int):Prop:=i.natAbs<2 ^ 8000
theorem Sm.log {i:Int} (h:Sm i):i.natAbs.log2<8000:=by
 by_cases h0:i.natAbs=0
 ·rw [h0]; decide
 ·exact (Nat.log2_lt h0).mpr h
theorem Sm.bits {i:Int} (h:Sm i):Builtin.Int.intBits i≤8000:=by
 unfold Builtin.Int.intBits
 split
 ·exact Nat.zero_le _
 ·have:=h.log; omega
theorem Sm.mul {i j:Int} (h:Sm i) (h':Sm j):IntMulOk i j:=by
 have a:=h.bits
 have b:=h'.bits
 unfold IntMulOk Builtin.Int.intTooBig
 have e : ¬ ((Builtin.Int.intBits i:Int) + (Builtin.Int.intBits j:Int) > (bitsLine:Int)):=by
  have:bitsLine=134217728:=by decide
  omega
 rw [decide_eq_false e]
 simp
def CMulB (i j:Int):Prop:=Sm i∧Sm j
def CDivB (i j:Int):Prop:=0<j∧Sm j
theorem bF:OpR X (binaryOp .Mult) (rI CMulB fun i j=>.int (i * j)):=opI fun _ _ _ _ _ _ _ hc q=>mul_int q (hc.1.mul hc.2)
theorem eV:OpR X (binaryOp .FloorDiv) (rI CDivB fun i j=>.int (i / j)):=opI fun i j _ _ _ _ _ hc q=>by
 refine floordiv_int (Int.ne_of_gt hc.1) ?_ (.inl (PyProof.noPylong_of_log2 (Nat.lt_of_lt_of_le hc.2.log (by decide))))
 rw [Int.fdiv_eq_ediv_of_nonneg _ (Int.le_of_lt hc.1)]
 exact q
end
theorem bj:bootBuiltins "len" = some (.builtin "len"):=by decide +kernel
theorem fE:bootBuiltins "max" = some (.builtin "max"):=by decide +kernel
theorem q8:bootBuiltins "min" = some (.builtin "min"):=by decide +kernel
theorem a7:bootBuiltins "isinstance" = some (.builtin "isinstance"):=by decide +kernel
theorem o3:bootBuiltins "sum" = some (.builtin "sum"):=by decide +kernel
theorem ff:bootBuiltins "sorted" = some (.builtin "sorted"):=by decide +kernel
theorem qL:bootBuiltins "int" = some (.type "int"):=by decide +kernel
theorem rQ:bootBuiltins "bool" = some (.type "bool"):=by decide +kernel
theorem il:bootBuiltins "tuple" = some (.type "tuple"):=by decide +kernel
theorem dH:bootBuiltins "list" = some (.type "list"):=by decide +kernel
theorem jh:bootBuiltins "enumerate" = some (.type "enumerate"):=by decide +kernel
def cM (n b:Int):Int:=if b=0 then n else (Int.gcd n b:Int)
theorem m9 {n b:Int} (h : 0<b):cM b (n % b)=cM n b:=by
 unfold cM
 have e:Int.gcd n b=Int.gcd b (n % b):=by
  rw [Int.emod_def,Int.gcd_sub_mul_left_right,Int.gcd_comm]
 rw [if_neg (show ¬ b=0 by omega)]
 split
 ·rename_i h0
  rw [e,h0,Int.gcd_zero_right]
  omega
 ·rw [e]
theorem fN {n b:Int} (h : 0<b) : 0<cM n b:=by
 unfold cM
 rw [if_neg (by omega)]
 have : 0<Int.gcd n b:=Int.gcd_pos_of_ne_zero_right _ (by omega)
 omega
theorem mm {n b:Int} (h : 0<b):cM n b≤b:=by
 unfold cM
 rw [if_neg (by omega)]
 exact Int.le_of_dvd h (Int.gcd_dvd_right ..)
theorem rC {n b:Int} (h : 0<b):cM n b∣n:=by
 unfold cM
 rw [if_neg (by omega)]
 exact Int.gcd_dvd_left ..
theorem sM {n b:Int} (h : 0<b):cM n b∣b:=by
 unfold cM
 rw [if_neg (by omega)]
 exact Int.gcd_dvd_right ..
section
variable {X:Cx} {pins:List (Addr×Obj)} {σ:St} {H:Hp} {s:Shared} {pos:Pos}
end
end L2
namespace L2
open PySem
theorem cT {i:Int} {n:Nat} (h:i.natAbs≤n) (hn:n<2 ^ 8000):Sm i:=Nat.lt_of_le_of_lt h hn
end L2
namespace L2
open PySem PySem.Spec PyProof.Rows
def CL (env:Env):List (Str×Addr)→Prop
 | []=>True
 | p :: r=>env.cells.lookup p.1=some p.2∧CL env r
theorem CL.get {env:Env}:∀ {cl:List (Str×Addr)},CL env cl→∀ {x:Str} {c:Addr},cl.lookup x=some c→env.cells.lookup x=some c
 | [],_,x,c,h=>by simp at h
 | (y,d) :: r,h,x,c,e=>by
  rw [List.lookup_cons] at e
  cases hx:x == y with
  | true =>
   rw [hx] at e
   have e1:x=y:=by simpa using hx
   have e2:d=c:=Option.some.inj e
   subst e1 e2
   exact h.1
  | false =>
   rw [hx] at e
   exact CL.get h.2 e
theorem eR {env:Env}:∀ {names:List (Str×NameKind)} {x:Str} {k:NameKind},
 (names.map fun (n,k)=>if (k == NameKind.free&&env.scope.kind == .function&&env.kindOf n == some .cell) then (n,NameKind.cell) else (n,k)).lookup x=some k →
 ∃ k',names.lookup x=some k'∧(k'=k∨(k' = .free∧k = .cell))
 | [],x,k,h=>by simp at h
 | (n,kn) :: r,x,k,h=>by
  have ih:=@eR env r x k
  by_cases hc:(kn == NameKind.free&&env.scope.kind == .function&&env.kindOf n == some .cell)=true
  ·have h':List.lookup x ((n,NameKind.cell) :: (r.map fun (n,k)=>if (k == NameKind.free&&env.scope.kind == .function&&env.kindOf n == some .cell) then (n,NameKind.cell) else (n,k)))=some k:=by
    rw [List.map_cons] at h
    simp only [hc,if_true] at h
    exact h
   rw [List.lookup_cons] at h' ⊢
   cases hx:x == n with
   | true =>
    rw [hx] at h'
    have:kn = .free:=by
     simp only [Bool.and_eq_true,beq_iff_eq] at hc
     exact hc.1.1
    exact ⟨kn,rfl,.inr ⟨this,(Option.some.inj h').symm⟩⟩
   | false=>rw [hx] at h'; exact ih h'
  ·have h':List.lookup x ((n,kn) :: (r.map fun (n,k)=>if (k == NameKind.free&&env.scope.kind == .function&&env.kindOf n == some .cell) then (n,NameKind.cell) else (n,k)))=some k:=by
    rw [List.map_cons] at h
    simp only [hc] at h
    exact h
   rw [List.lookup_cons] at h' ⊢
   cases hx:x == n with
   | true=>rw [hx] at h'; exact ⟨kn,rfl,.inl (Option.some.inj h')⟩
   | false=>rw [hx] at h'; exact ih h'
def bT (X:Cx) (scope:Scope) (cl:List (Str×Addr)) (N:List Str) (C:Addr) (s₀:Shared) (H₀:Hp) (ex:List Addr):Cx where
 prog:=X.prog
 w:=X.w
 K:=X.K
 mg:=X.mg
 base:=X.base
 A:=X.A
 N:=N
 s₀:=s₀
 H₀:=H₀
 env:=compEnvC scope cl C X.env
 outer:=X.stack
 stack:=X.stack
 ex:=ex
 fn:=fun _=>false
 calm:=X.calm
 pn:=[]
 xe:=fun _ _=>False
def okJ (X:Cx) (scope:Scope) (j:Nat):Bool:=match X.N[j]? with
 | some x=>(match X.env.scope.names.lookup x with | some .cell=>true | _=>false)&&(match scope.names.lookup x with | some .free=>true | _=>false)
 | none=>false
def dD (own:List Str) (js:List Nat) (σ:St):St:=own.map (fun _=>none)++js.map fun j=>(σ[j]?).getD none
def dA (X:Cx) (own:List Str) (js:List Nat):List Str:=own++js.map fun j=>(X.N[j]?).getD (Str.ofString "")
structure CompOk (X:Cx) (scope:Scope) (cl:List (Str×Addr)) (own:List Str) (js:List Nat):Prop where
 clos:closureFor scope X.env=pure cl
 kind:scope.kind = .function
 names:∀ x∈scope.names,x.2 = .local→scope.names.lookup x.1=some .local
 ncell:(scope.names.all fun y=>match y.2 with | .cell=>false | _=>true)=true
 has:(scope.names.all fun y=>match y.2 with | .free=>(cl.lookup y.1).isSome | _=>true)=true
 cells:CL X.env cl
 js:js.all (okJ X scope)=true
theorem CompOk.nc {X:Cx} {scope:Scope} {cl:List (Str×Addr)} {own:List Str} {js:List Nat} (c:CompOk X scope cl own js):∀ y∈scope.names,y.2≠.cell:=fun y hy e=>by
 have:=List.all_eq_true.mp c.ncell y hy
 rw [e] at this
 cases this
theorem CompOk.fr {X:Cx} {scope:Scope} {cl:List (Str×Addr)} {own:List Str} {js:List Nat} (c:CompOk X scope cl own js) {x:Str} (h:scope.names.lookup x=some .free):∃ d,cl.lookup x=some d:=by
 have:=List.all_eq_true.mp c.has (x,.free) (PySem.mem_of_lookup h)
 exact Option.isSome_iff_exists.mp this
section
variable {X:Cx} {pins:List (Addr×Obj)} {σ:St} {H:Hp} {s:Shared} {scope:Scope} {cl:List (Str×Addr)} {own:List Str} {js:List Nat}
theorem lM {h1:Heap} {C:Addr} {fp:List Addr} {t':Nat} (c:CompOk X scope cl own js) (I:Inv X pins σ H s) (hf:∀ b∈fp,jA X pins H b) (hlt:∀ b∈fp,b<s.heap.objs.size)
 (hC:s.heap.objs.size≤C) (hk:∀ b o,s.heap.get? b=some o→h1.get? b=some o) (hn:h1.Ns C fun _=>none) :
 Inv (bT X scope cl (dA X own js) C s H fp) [] (dD own js σ) H { s with heap:=h1,toks:=t' }:=by
 have kindOfY:∀ x k,(bT X scope cl (dA X own js) C s H fp).env.kindOf x=some k→∃ k',scope.names.lookup x=some k'∧(k'=k∨(k' = .free∧k = .cell)):=fun x k e=>eR (env:=X.env) (names:=scope.names) e
 refine ⟨⟨I.ok.mod,c.kind,I.ok.glob,I.ok.blt,hC,fun x y d h1 h2=>I.ok.inj x y d (c.cells.get h1) (c.cells.get h2),fun x hx=>?_,fun x d h=>(by cases h),I.ok.hd,I.ok.frames,.inl rfl,fun b hb=>⟨?_,fun x d e=>(hf b hb).2.2.2.2.1 x d (c.cells.get e)⟩,
  fun b o e=>I.bs b o e,Nat.le_trans I.ok.bsz I.sz,fun b o e hb=>?_,fun b hb z=>?_,I.stack,I.stkFree,I.ok.tb.un I.base⟩,rfl,I.bare,Un.kept hk,⟨_,hn,fun i x v e1 e2 e3=>?_⟩,fun x d e=>?_,I.hok.fresh hC,fun x d e=>I.freeC x d (c.cells.get e),fun p hp=>(by cases hp),I.hok.kept hk,?_⟩
 ·rcases hx with hx | hx
  ·obtain ⟨k',e1,e2⟩:=kindOfY x _ hx
   rcases e2 with e2 | ⟨e2,_⟩
   ·exact absurd e2 (c.nc _ (PySem.mem_of_lookup e1))
   ·subst e2; exact c.fr e1
  ·obtain ⟨k',e1,e2⟩:=kindOfY x _ hx
   rcases e2 with e2 | ⟨_,e2⟩
   ·subst e2; exact c.fr e1
   ·cases e2
 ·exact Nat.ne_of_lt (Nat.lt_of_lt_of_le (hlt b hb) hC)
 ·rcases (hf b hb).2.2.2.1 with z | z
  ·exact I.ok.noex b o e z
  ·exact absurd (Nat.lt_of_lt_of_le (Heap.lt_size e) (Nat.le_trans I.ok.bsz z)) (Nat.lt_irrefl _)
 ·rcases List.mem_cons.mp (I.stkSub b z) with q | q
  ·exact (hf b hb).2.1 q
  ·exact (hf b hb).2.2.1 q
 ·-- a name taken from the frame
  have e1:(dA X own js)[i]? = some x:=e1
  unfold dA at e1
  unfold dD at e2
  by_cases hi:i<own.length
  ·rw [List.getElem?_append_left (by simpa using hi),List.getElem?_map,List.getElem?_eq_getElem hi] at e2
   cases e2
  ·rw [List.getElem?_append_right (by simpa using Nat.not_lt.mp hi),List.getElem?_map,List.length_map] at e2
   rw [List.getElem?_append_right (Nat.not_lt.mp hi),List.getElem?_map] at e1
   cases ej:js[i - own.length]? with
   | none=>rw [ej] at e2; cases e2
   | some j =>
    rw [ej] at e1 e2
    have hj:=List.all_eq_true.mp c.js j (List.mem_of_getElem? ej)
    unfold okJ at hj
    have e1':(X.N[j]?).getD (Str.ofString "")=x:=Option.some.inj e1
    have e2':(σ[j]?).getD none=some v:=Option.some.inj e2
    cases en:X.N[j]? with
    | none=>rw [en] at hj; cases hj
    | some y =>
     rw [en] at hj e1'
     have e1'':y=x:=e1'
     subst e1''
     have hv : σ[j]? = some (some v):=by
      cases es : σ[j]? with
      | none=>rw [es] at e2'; cases e2'
      | some ov=>rw [es] at e2'; rw [show ov=some v from e2']
     dsimp only at hj
     rw [Bool.and_eq_true] at hj
     have k1:X.env.scope.names.lookup y=some .cell:=by
      have:=hj.1
      split at this
      ·assumption
      ·cases this
     have k2:scope.names.lookup y=some .free:=by
      have:=hj.2
      split at this
      ·assumption
      ·cases this
     obtain ⟨m,_,hl⟩:=I.loc
     obtain ⟨u,ru,l⟩:=hl j y v en hv (.inr (.inl k1))
     refine ⟨u,ru,?_⟩
     rcases l with ⟨l,_⟩ | ⟨_,d,ed,z⟩
     ·rw [show X.env.kindOf y=some .cell from k1] at l; cases l
     ·obtain ⟨d',ed'⟩:=c.fr k2
      have:=c.cells.get ed'
      rw [ed] at this
      cases this
      obtain ⟨o,ho,hd⟩:=z
      refine .inr ⟨?_,d,ed',⟨o,hk _ _ ho,hd⟩⟩
      have e3:(bT X scope cl (dA X own js) C s H fp).env.scope.names.lookup y=some .local∨(bT X scope cl (dA X own js) C s H fp).env.scope.names.lookup y=some .cell∨(bT X scope cl (dA X own js) C s H fp).env.scope.names.lookup y=some .free:=e3
      rcases e3 with e3 | e3 | e3
      ·obtain ⟨k',q1,q2⟩:=kindOfY y _ e3
       rw [k2] at q1
       cases q1
       rcases q2 with q2 | ⟨_,q2⟩ <;> cases q2
      ·exact .inl e3
      ·exact .inr e3
 ·obtain ⟨v,o,ho,hd⟩:=I.cell x d (c.cells.get e)
  exact ⟨v,o,hk _ _ ho,hd⟩
 ·show (dD own js σ).length=(dA X own js).length
  unfold dD dA
  simp
structure PIf (X:Cx) (ifs:List Expr) (t:TT):Prop where
 go:∀ (pins:List (Addr×Obj)) (s:Shared) (σ:St) (H:Hp) (Q:Bool→Hp→Prop),Inv X pins σ H s→t σ H Q →
  wpAny (model X.prog X.w) X.A (forIn ifs true fun c r=>if r=true then do let ok ← isTrue c X.env (eval c X.env); pure (ForInStep.yield ok) else pure (ForInStep.yield r)) (TP X pins σ Q) X.xe s
def tYes:TT:=fun _ H Q=>Q true H
theorem tj:PIf X [] tYes:=⟨fun pins s σ H Q I h=>wpAny_tests_nil ⟨H,I,h⟩⟩
theorem sR {c:Expr} {t:TT} (h:PT X c t):PIf X [c] t:=⟨fun pins s σ H Q I q=>wpAny_tests_one (h.go pins s σ H Q I q)⟩
theorem fj {prog:Program} {w:World} {A:Around} {R:Result→Shared→Prop} {s:Shared} {elt target iter:Expr} {ifs:List Expr} {scope:Scope} {pos:Pos} {it acc:Value} {env:Env} (I:Nat→Shared→Prop)
 (turn:∀ n s,I n s→wpAny (model prog w) A (pyNext it) (fun r s₁=>match r with
  | none=>R (.ok .next) s₁
  | some v=>wpAny (model prog w) A (letOwnedTupleGo target it v) (fun _ s₁=>wpAny (model prog w) A (assign target env v) (fun _ s₂ =>
   wpAny (model prog w) A (forIn ifs true fun c r=>if r=true then do let ok ← isTrue c env (eval c env); pure (ForInStep.yield ok) else pure (ForInStep.yield r)) (fun ok s₃ =>
    if ok=true then wpAny (model prog w) A (eval elt env) (fun x s₄ =>
     wpAny (model prog w) A (call (.builtin "list.append") [acc,x]) (fun _ s₅=>∃ m,m<n∧I m s₅) (fun _ _=>False) s₄) (fun _ _=>False) s₃
    else ∃ m,m<n∧I m s₃) (fun _ _=>False) s₂) (fun _ _=>False) s₁) (fun _ _=>False) s₁) (fun _ _=>False) s)
 (n:Nat) (h:I n s) :
 codeAny (model prog w) A (.compLoop (.ListComp elt [⟨target,iter,ifs,0⟩] scope pos) 0 it acc env) R s:=by
 refine codeAny_loop rfl I (fun n s hI=>?_) n h
 show wpAny _ A ((compTurn (.ListComp elt [⟨target,iter,ifs,0⟩] scope pos) 0 it acc env).onRaise (fun x=>do noteFrame x env; theTreesLotGoes x)) _ _ s
 refine wpAny_noted ?_
 rw [compTurn_list]
 refine wpAny_bind (wpAny_standAt (wpAny_bind (wpAny_mono (turn n s hI) (fun r s₁ h₁=>?_) fun _ _ h'=>h'.elim)))
 cases r with
 | none=>exact wpAny_pure h₁
 | some v =>
  refine wpAny_bind (wpAny_mono h₁ (fun _ s₁ h₁=>?_) fun _ _ h'=>h'.elim)
  refine wpAny_bind (wpAny_mono h₁ (fun _ s₂ h₂=>wpAny_bind (wpAny_mono h₂ (fun ok s₃ h₃=>?_) fun _ _ h'=>h'.elim)) fun _ _ h'=>h'.elim)
  cases ok with
  | false=>exact wpAny_pure ⟨rfl,h₃⟩
  | true =>
   exact wpAny_bind (wpAny_bind (wpAny_mono h₃ (fun x s₄ h₄=>wpAny_bind (wpAny_mono h₄ (fun _ s₅ h₅=>wpAny_pure (wpAny_pure ⟨rfl,h₅⟩)) fun _ _ h'=>h'.elim)) fun _ _ h'=>h'.elim))
def kept:St→St→Prop
 | [],[]=>True
 | none :: r,_ :: r'=>kept r r'
 | some v :: r,y :: r'=>y=some v∧kept r r'
 | [],_ :: _=>False
 | _ :: _,[]=>False
theorem fO:∀ {a b:St},kept a b→a.length=b.length
 | [],[],_=>rfl
 | none :: r,_ :: r',h=>congrArg (· + 1) (fO (a:=r) (b:=r') h)
 | some v :: r,y :: r',h=>congrArg (· + 1) (fO (a:=r) (b:=r') h.2)
 | [],_ :: _,h=>False.elim h
 | none :: _,[],h=>False.elim h
 | some _ :: _,[],h=>False.elim h
theorem fH:∀ {a b:St},kept a b→∀ (i:Nat) (v:V),a[i]? = some (some v)→b[i]? = some (some v)
 | [],[],_,i,v,e=>by simp at e
 | none :: r,_ :: r',h,0,v,e=>by simp at e
 | none :: r,_ :: r',h,i + 1,v,e=>by simpa using fH (a:=r) (b:=r') h i v (by simpa using e)
 | some w :: r,y :: r',h,0,v,e=>by simp at e; subst e; simp [h.1]
 | some w :: r,y :: r',h,i + 1,v,e=>by simpa using fH (a:=r) (b:=r') h.2 i v (by simpa using e)
 | [],_ :: _,h,_,_,_=>False.elim h
 | none :: _,[],h,_,_,_=>False.elim h
 | some _ :: _,[],h,_,_,_=>False.elim h
def qq (J:It) (g:TG) (tt:TT) (te:TE) (σ0:St) (H:Hp) (Z:List V→Hp→Prop):Prop :=
 ∃ W:Nat→Nat→List V→Hp→Prop,(∃ m,W 0 m [] H)∧∀ i m acc H,W i m acc H →
  (J.stop i H∧acc.length≤sizeLine∧Z acc H)∨(J.go i H∧acc.length<sizeLine∧∃ N:List V→Hp→Prop,(∀ acc' H',N acc' H'→∃ m',m'<m∧W (i + 1) m' acc' H') ∧
   ∀ x H',J.yld i H x H'→g x σ0 H' fun σ2 H2=>kept σ0 σ2∧tt σ2 H2 fun b H3=>if b=true then te σ2 H3 fun v H4=>N (acc++[v]) H4 else N acc H3)
theorem HOk.adopt {P:Program} {w:World} {H:Hp} {h:Heap} {a:Addr} {o:HO} (x:HOk P w H h) (hn:H a=none) (new:b9 P w (upd H a o) h a o):HOk P w (upd H a o) h:=fun b u e=>by
 by_cases hb:b=a
 ·subst hb; rw [aM] at e; cases e; exact new
 ·rw [ax hb] at e
  exact (x b u e).stay (fun c v _ q=>q) (fun c q=>by rw [ax (aH q hn)]; exact q) (fun c xs q=>by rw [ax (aH q hn)]; exact q) fun c ob u q=>by rw [ax (aH q hn)]; exact q
theorem iP {elt tg iter:Expr} {ifs:List Expr} {pos:Pos} {J:It} {fp:List Addr} {it:Addr} {tn:Nat→Heap→Prop} {g:TG} {tt:TT} {te:TE} {Z:List V→Hp→Prop} {E:Value→Shared→Prop}
 {RR:Value→Addr→Result→Shared→Prop} (c:CompOk X scope cl own js) (hc:X.calm=true) (I:Inv X pins σ H s) (T:Turn X.prog X.w X.K tg J fp it tn) (t0:tn 0 s.heap) (hf:∀ b∈fp,jA X pins H b)
 (inner:∀ (C:Addr) (s₀:Shared) (H₀:Hp) (ex:List Addr),PG (bT X scope cl (dA X own js) C s₀ H₀ ex) tg g∧PIf (bT X scope cl (dA X own js) C s₀ H₀ ex) ifs tt∧PE (bT X scope cl (dA X own js) C s₀ H₀ ex) elt te)
 (hW:qq J g tt te (dD own js σ) H Z)
 (hRR:∀ (D C:Addr) (s':Shared) (acc:List V) (H':Hp),(∃ m,s'.heap.Ns C m)→H' D=none→Z acc H'→s.heap.objs.size≤C→C≠X.env.locals→(upd H' D (.lst acc)) C=none→(∀ h',Heap.SameBut C s'.heap h'→Inv X pins σ (upd H' D (.lst acc)) { s' with heap:=h' })→RR (.ref D) C (.ok .next) s') :
 wpAny (model X.prog X.w) X.A (newList []) (fun acc s₃=>wpAny (model X.prog X.w) X.A (newFunctionEnv scope X.env.globals cl [] X.env.qual none .none (some X.env)) (fun cenv s₄ =>
  codeAny (model X.prog X.w) X.A (.compStart (.ListComp elt [⟨tg,iter,ifs,0⟩] scope pos) 0 (.ref it) acc { cenv with scope:=relabel scope X.env }) (RR acc cenv.locals) s₄) E s₃) E s:=by
 refine wpAny_newObj_type (wpAny_newFunctionEnv c.nc (by intro y hy; simp at hy) (fun h₁ hns₁ hsb₁=>?_) c.kind)
 dsimp only at hns₁ hsb₁ ⊢
 generalize hH2:s.heap.push { cls:=.type "list",dict:=none,data:=.seq ([]:List Value).toArray } = H2 at hns₁ hsb₁ ⊢
 have hCs:H2.objs.size=s.heap.objs.size + 1:=by rw [← hH2,Heap.size_push]
 have hns₁:h₁.Ns H2.objs.size (fun _=>none):=hns₁
 have hCle:s.heap.objs.size≤H2.objs.size:=by rw [hCs]; exact Nat.le_succ _
 have hDC:s.heap.objs.size≠H2.objs.size:=by rw [hCs]; exact Nat.ne_of_lt (Nat.lt_succ_self _)
 have below:∀ b,b<s.heap.objs.size→b≠H2.objs.size∧b≠s.heap.objs.size:=fun b hb=>⟨by rw [hCs]; exact Nat.ne_of_lt (Nat.lt_succ_of_lt hb),Nat.ne_of_lt hb⟩
 have old:∀ b o,s.heap.get? b=some o→h₁.get? b=some o:=fun b o e=>hsb₁.extBut b o (below b (Heap.lt_size e)).1 (Heap.get?_push_of_some _ (hH2 ▸ Heap.get?_push_of_some _ e))
 have hD1:h₁.get? s.heap.objs.size=some { cls:=.type "list",data:=.seq ([]:List Value).toArray }:=hsb₁.extBut _ _ hDC (Heap.get?_push_of_some _ (hH2 ▸ Heap.get?_push_size _ rfl))
 have hlt:∀ b∈fp,b<s.heap.objs.size:=fun b hb=>by
  obtain ⟨o,e,_⟩:=T.obj 0 _ t0 b hb
  exact Heap.lt_size e
 have hCL:H2.objs.size≠X.env.locals:=fun z=>absurd (Nat.lt_of_lt_of_le I.lt (by rw [← z]; exact hCle)) (Nat.lt_irrefl _)
 have hDfs:s.heap.objs.size ∉ frs X.stack:=fun z=>by
  rcases List.mem_cons.mp (I.stkSub _ z) with q | q
  ·exact absurd I.lt (by rw [← q]; exact Nat.lt_irrefl _)
  ·exact I.nofs (Nat.le_refl _) q
 have hfs:∀ b∈fp,b ∉ frs X.stack:=fun b hb z=>by
  rcases List.mem_cons.mp (I.stkSub b z) with q | q
  ·exact (hf b hb).2.1 q
  ·exact (hf b hb).2.2.1 q
 have hDcell:∀ x d,cl.lookup x=some d→d≠s.heap.objs.size:=fun x d e=>by
  obtain ⟨v,q⟩:=I.cell x d (c.cells.get e)
  exact Nat.ne_of_lt q.lt
 have fresh:H s.heap.objs.size=none:=I.hok.fresh (Nat.le_refl _)
 obtain ⟨W,⟨m0,w0⟩,turn⟩:=hW
 have loop:∀ s₃:Shared,s₃ = { s with heap:=h₁,toks:=s.toks + ([]:List (Str×Value)).length } →
  codeAny (model X.prog X.w) X.A (.compLoop (.ListComp elt [⟨tg,iter,ifs,0⟩] scope pos) 0 (.ref it) (.ref s.heap.objs.size) (compEnvC scope cl H2.objs.size X.env)) (RR (.ref s.heap.objs.size) H2.objs.size) s₃:=by
  rintro s₃ rfl
  have I0:=lM (t':=s.toks + ([]:List (Str×Value)).length) c I hf hlt hCle old hns₁
  obtain ⟨hg,hi,he⟩:=inner H2.objs.size s H fp
  generalize hY:bT X scope cl (dA X own js) H2.objs.size s H fp=Y at I0 hg hi he
  have Yp:Y.prog=X.prog:=by rw [← hY]; rfl
  have Yw:Y.w=X.w:=by rw [← hY]; rfl
  have YK:Y.K=X.K:=by rw [← hY]; rfl
  have YA:Y.A=X.A:=by rw [← hY]; rfl
  have Ye:Y.env=compEnvC scope cl H2.objs.size X.env:=by rw [← hY]; rfl
  have Yl:Y.env.locals=H2.objs.size:=by rw [← hY]; rfl
  have Yc:Y.env.cells=cl:=by rw [← hY]; rfl
  have Yf:Y.fs=frs X.stack:=by rw [← hY]; rfl
  have Yx:Y.ex=fp:=by rw [← hY]; rfl
  have Ys:Y.s₀=s:=by rw [← hY]; rfl
  have YH:Y.H₀=H:=by rw [← hY]; rfl
  have Yn:Y.pn=[]:=by rw [← hY]; rfl
  have Yo:Y.calm=true:=by rw [← hY]; exact hc
  have YE:Y.xe=fun _ _=>False:=by rw [← hY]; rfl
  have fpY:∀ {H':Hp} (pn:List (Addr×Obj)),(∀ b∈fp,H' b=none)→(∀ b∈fp,∀ p∈pn,p.1≠b)→∀ b∈fp,jA Y pn H' b:=fun pn hn hp b hb =>
   ⟨hn b hb,by rw [Yl]; exact (below b (hlt b hb)).1,by rw [Yf]; exact hfs b hb,.inl (by rw [Yx]; exact hb),fun x d e=>(hf b hb).2.2.2.2.1 x d (c.cells.get (by rw [← Yc]; exact e)),fun p hp'=>hp b hb p (by rw [Yn] at hp'; exact hp')⟩
  refine fj (fun n s'=>∃ i acc its k H',Inv Y [] (dD own js σ) H' s'∧tn i s'.heap∧(∀ b∈fp,H' b=none)∧W i n acc H'∧H' s.heap.objs.size=none∧s'.heap.get? s.heap.objs.size=some { cls:=.type "list",data:=.seq (its:List Value).toArray k }∧aY acc its) ?_ m0
   ⟨0,[],[],0,H,I0,T.keep 0 _ _ t0 (fun b hb o e=>old b o e),fun b hb=>(hf b hb).1,w0,fresh,hD1,.nil⟩
  rintro n s' ⟨i,acc,its,k,H',I',tn',fr',w',hD',oD',hv'⟩
  have hpinD:∀ b∈fp,∀ p∈[(s.heap.objs.size,({ cls:=.type "list",data:=.seq its.toArray k }:Obj))],p.1≠b:=fun b hb p hp=>by
   rw [List.mem_singleton] at hp
   subst hp
   exact fun z=>(below b (hlt b hb)).2 z.symm
  have ID:Inv Y [(s.heap.objs.size,({ cls:=.type "list",data:=.seq its.toArray k }:Obj))] (dD own js σ) H' s':=I'.pins_of fun p hp=>by
   rw [List.mem_singleton] at hp
   subst hp
   exact ⟨oD',hD',by rw [Yl]; exact hDC,by rw [Yf]; exact hDfs,fun v z=>by cases z⟩
  rcases turn i n acc H' w' with ⟨stop,hlen,hz⟩ | ⟨go,hlen,N,hN,step⟩
  ·have hd:=T.done Y Yp Yw YK Yo i _ s' (dD own js σ) H' (fun _ _=>False) ID (fpY _ fr' hpinD) tn' stop
   rw [YA] at hd
   refine thn hd fun r s1 ⟨hr,I1⟩=>?_
   subst hr
   obtain ⟨oD1,_⟩:=I1.pin _ (List.mem_append_right _ (List.mem_singleton.mpr rfl))
   have hC0:H' H2.objs.size=none:=by have:=I1.free; rw [Yl] at this; exact this
   have B1:Un (frs X.stack) fp H H' s.heap s1.heap:=by have:=I1.base; rw [Yf,Yx,YH,Ys] at this; exact this
   refine hRR s.heap.objs.size H2.objs.size s1 acc H' (by obtain ⟨m,hn,_⟩:=I1.loc; rw [Yl] at hn; exact ⟨m,hn⟩) hD' hz hCle hCL (by rw [ax (Ne.symm hDC)]; exact hC0) fun h' hsb=>?_
   have at':∀ b o,b≠H2.objs.size→s1.heap.get? b=some o→h'.get? b=some o:=fun b o hb e=>by rw [hsb.2 b hb]; exact e
   refine I.call' (s':={ s1 with heap:=h' }) (ch:=fp) (by have:=I1.os; rw [Ys] at this; exact this) ⟨fun b o q nn hb hx=>?_,fun b o q nn hb hx=>?_,fun b o q nn hx=>?_,fun b o q hx=>?_,fun b xs q=>?_,fun b o u q=>?_,fun b ps q0 q=>?_⟩ ?_ I1.bare fun b hb=>⟨(hf b hb).2.2.2.1,(hf b hb).2.1,(hf b hb).2.2.2.2.1,(hf b hb).2.2.2.2.2⟩
   ·exact at' b o (below b (Heap.lt_size q)).1 (B1.keep b o q nn hb hx)
   ·obtain ⟨sl,e⟩:=B1.slot b o q nn hb hx
    exact ⟨sl,at' b _ (below b (Heap.lt_size q)).1 e⟩
   ·rw [ax (below b (Heap.lt_size q)).2]; exact B1.free b o q nn hx
   ·obtain ⟨o',e⟩:=B1.there b o q hx
    exact ⟨o',at' b _ (below b (Heap.lt_size q)).1 e⟩
   ·have q':=B1.tups b xs q
    rw [ax (aH q' hD')]; exact q'
   ·have q':=B1.frzs b o u q
    rw [ax (aH q' hD')]; exact q'
   ·obtain ⟨more,q'⟩:=B1.tbls b ps _ q
    exact ⟨more,by rw [ax (aH q' hD')]; exact q'⟩
   ·have hok1:HOk X.prog X.w H' h':=fun a o e=>by
     have hok:=I1.hok
     rw [Yp,Yw] at hok
     refine (hok a o e).stay (fun b u hb q=>at' b u ?_ q) (fun _ q=>q) (fun _ _ q=>q) fun _ _ _ q=>q
     rcases hb with rfl | hb
     ·exact aH e hC0
     ·exact aH hb hC0
    exact hok1.adopt hD' ⟨hlen,its,k,hv',at' _ _ hDC oD1⟩
  ·have hd:=T.item Y Yp Yw YK Yo i _ s' (dD own js σ) H' (fun _ _=>False) ID (fpY _ fr' hpinD) tn' go
   rw [YA] at hd
   refine thn hd fun r s1 ⟨u,hr,h4⟩=>?_
   subst hr
   have h4:=h4
   refine thn h4 fun _ s2 ⟨x,H5,I5,r5,y5,tn5,fr5⟩=>?_
   have I5':=I5.pinned (fpY _ fr5 hpinD) (T.obj _ _ tn5)
   have hg':=hg.go _ s2 _ H5 x u _ I5' r5 (step x H5 y5)
   rw [Yp,Yw,YA,Ye,YE] at hg'
   refine thn hg' fun _ s3 ⟨σ6,H6,I6,kp6,q6⟩=>?_
   have hi':=hi.go _ s3 σ6 H6 _ I6 q6
   rw [Yp,Yw,YA,Ye,YE] at hi'
   refine thn hi' fun ok s4 ⟨H7,I7,q7⟩=>?_
   cases ok with
   | false =>
    rw [if_neg Bool.false_ne_true] at q7 ⊢
    obtain ⟨m',hm,w7⟩:=hN _ _ q7
    obtain ⟨oD7,hD7,_⟩:=I7.pin _ (List.mem_append_right _ (List.mem_append_left _ (List.mem_singleton.mpr rfl)))
    refine ⟨m',hm,i + 1,acc,its,k,H7,(I7.pins_of (pins':=[]) fun p hp=>(by cases hp)).weak (fO kp6) (fH kp6),T.keep _ _ _ tn5 fun b hb o e=>(I7.pin (b,o) (List.mem_append_right _ (List.mem_append_right _ (cL hb e)))).1,fun b hb=>?_,w7,hD7,oD7,hv'⟩
    obtain ⟨o,e,_⟩:=T.obj _ _ tn5 b hb
    exact (I7.pin (b,o) (List.mem_append_right _ (List.mem_append_right _ (cL hb e)))).2.1
   | true =>
    rw [if_pos rfl] at q7 ⊢
    have he':=he.go _ s4 σ6 H7 _ I7 q7
    rw [Yp,Yw,YA,Ye,YE] at he'
    refine thn he' fun v s5 ⟨xv,H8,I8,r8,n8⟩=>?_
    obtain ⟨m',hm,w8⟩:=hN _ _ n8
    obtain ⟨oD8,hD8,_⟩:=I8.pin _ (List.mem_append_right _ (List.mem_append_left _ (List.mem_singleton.mpr rfl)))
    have hsz:its.toArray.size<sizeLine:=by rw [List.size_toArray,← hv'.length]; exact hlen
    refine call_meets F.slot_list_append ⟨_,oD8,rfl⟩ F.entry_list_append (F.args_list_append_2 _ _) (PySem.list_append s.heap.objs.size its.toArray k v (Nat.le_of_lt hsz)) ⟨oD8,?_⟩
    have q:=PySem.IsL.update oD8 (fun a=>a.push v)
    have J8:Inv Y (ib fp s2.heap) σ6 H8 s5:=I8.pins_of fun p hp=>I8.pin p (List.mem_append_right _ (List.mem_append_right _ hp))
    have ne8:∀ b,b∈fp→b≠s.heap.objs.size:=fun b hb=>(below b (hlt b hb)).2
    have J9:=J8.turned (t':=s5.toks) (h':=s5.heap.update s.heap.objs.size (Obj.mapSeq fun a=>a.push v)) (it:=s.heap.objs.size) (fun b o hb e=>(Heap.get?_update_other s5.heap _ (Ne.symm hb)).trans e) hD8 (by rw [Yl]; exact hDC) (.inr (by rw [Ys]; exact Nat.le_refl _)) (fun x d e=>hDcell x d (by rw [← Yc]; exact e))
     (fun p hp=>by
      rw [Yn,List.nil_append] at hp
      obtain ⟨hb,_⟩:=ja hp
      exact ne8 _ hb)
    have keep9:∀ b o,b∈fp→s2.heap.get? b=some o→(s5.heap.update s.heap.objs.size (Obj.mapSeq fun a=>a.push v)).get? b=some o:=fun b o hb e=>(J9.pin (b,o) (List.mem_append_right _ (cL hb e))).1
    refine ⟨m',hm,i + 1,acc++[xv],its++[v],(if ((its++[v]).toArray.size == its.toArray.size)=true then k else k + 1),H8,(J9.pins_of (pins':=[]) fun p hp=>(by cases hp)).weak (fO kp6) (fH kp6),T.keep _ _ _ tn5 fun b hb o e=>keep9 b o hb e,fun b hb=>?_,w8,hD8,?_,hv'.append (.cons r8 .nil)⟩
    ·obtain ⟨o,e,_⟩:=T.obj _ _ tn5 b hb
     exact (J9.pin (b,o) (List.mem_append_right _ (cL hb e))).2.1
    ·have q':=q
     simp only [List.push_toArray] at q'
     exact q'
 exact codeAny_compStart_list (loop _ rfl) (T.self _ 0 _ _ _ (T.keep 0 _ _ t0 (fun b hb o e=>old b o e)) (loop _ rfl))
def lU (wi:TI) (g:TG) (tt:TT) (te:TE) (own:List Str) (js:List Nat):TE:=fun σ H Q=>wi σ H fun J H1=>qq J g tt te (dD own js σ) H1 fun acc H2=>∀ p,H2 p=none→Q (.ref p) (upd H2 p (.lst acc))
theorem lW {elt tg iter:Expr} {ifs:List Expr} {pos:Pos} {wi:TI} {g:TG} {tt:TT} {te:TE} (own:List Str) (js:List Nat) (c:CompOk X scope cl own js) (hc:X.calm=true) (hi:PI X tg iter wi)
 (inner:∀ (C:Addr) (s₀:Shared) (H₀:Hp) (ex:List Addr),PG (bT X scope cl (dA X own js) C s₀ H₀ ex) tg g∧PIf (bT X scope cl (dA X own js) C s₀ H₀ ex) ifs tt∧PE (bT X scope cl (dA X own js) C s₀ H₀ ex) elt te)
 (hs:∀ x,foldedSetIterable iter X.env x=pure x:=by intro _; rfl):PE X (.ListComp elt [⟨tg,iter,ifs,0⟩] scope pos) (lU wi g tt te own js):=by
 refine ⟨fun pins s σ H Q I h=>?_⟩
 rw [eval_ListComp]
 refine wpAny_comprehension_free (use:=none) rfl hs c.clos c.kind c.names (thn (hi.go pins s σ H _ I h) fun v s1 h1=>thn h1 fun itv s2 h2=>?_)
 obtain ⟨it,fp,tn,J,H2,e,I2,T,st2,f2,hW⟩:=h2
 subst e
 refine iP (RR:=fun acc C=>compPost (model X.prog X.w) X.A X.xe none (EP X pins σ Q) acc C) c hc I2 T st2 f2 inner hW ?_
 intro D C s' acc H' hn hD hz hDC hCL hUC hI
 exact ⟨hn.choose,hn.choose_spec,fun h' hsb=>⟨.ref D,_,hI h' hsb,rfl,hz D hD⟩⟩
theorem lj {elt tg iter:Expr} {ifs:List Expr} {pos spos py:Pos} {wi:TI} {g:TG} {tt:TT} {te:TE} {i:Nat} {y:Str} (own:List Str) (js:List Nat) (c:CompOk X scope cl own js) (hc:X.calm=true) (hN:X.N.Nodup) (hy:X.N[i]? = some y) (hx:Loc X.env.scope y) (hi:PI X tg iter wi)
 (inner:∀ (C:Addr) (s₀:Shared) (H₀:Hp) (ex:List Addr),PG (bT X scope cl (dA X own js) C s₀ H₀ ex) tg g∧PIf (bT X scope cl (dA X own js) C s₀ H₀ ex) ifs tt∧PE (bT X scope cl (dA X own js) C s₀ H₀ ex) elt te)
 (hsw:swapsWith (.ListComp elt [⟨tg,iter,ifs,0⟩] scope pos) (some (.Name y py)) spos.line X.env=pure true:=by rfl)
 (hs:∀ x,foldedSetIterable iter X.env x=pure x:=by intro _; rfl) (hf:X.fn y=true∨X.env.scope.names.lookup y=some .local:=by first | exact .inl rfl | exact .inr rfl | assumption) :
 PS X (.Assign [.Name y py] (.ListComp elt [⟨tg,iter,ifs,0⟩] scope pos) spos) (qF (lU wi g tt te own js) (iL i)):=by
 refine ⟨fun pins s σ H D I h=>?_⟩
 rw [exec_Assign_Name_used _ _ _ _ hsw]
 refine wpAny_bind (wpAny_standAt (wpAny_bind ?_))
 show wpAny _ X.A (do let _ ← comprehension (.ListComp elt [⟨tg,iter,ifs,0⟩] scope pos) scope X.env _ (newList []) false (eval iter X.env) (some (assign (.Name y py) X.env))) _ _ s
 refine wpAny_bind (wpAny_mono (wpAny_comprehension_free (use:=some (assign (.Name y py) X.env)) (Q:=fun _ s'=>SP X pins D .next s') rfl hs c.clos c.kind c.names
  (thn (hi.go pins s σ H _ I h) fun v s1 h1=>thn h1 fun itv s2 h2=>?_)) (fun _ s' hq=>wpAny_pure (wpAny_pure hq)) fun _ _ e=>e)
 obtain ⟨it,fp,tn,J,H2,e,I2,T,st2,f2,hW⟩:=h2
 subst e
 refine iP (RR:=fun acc C=>compPost (model X.prog X.w) X.A X.xe (some (assign (.Name y py) X.env)) (fun _ s'=>SP X pins D .next s') acc C) c hc I2 T st2 f2 inner hW ?_
 intro D' C s' acc H' hn hD hz hDC hCL hUC hI
 show wpAny _ X.A (assign (.Name y py) X.env (.ref D')) _ _ _
 have I9:=hI s'.heap (Heap.SameBut.refl _ _)
 obtain ⟨m,hm⟩:=hn
 refine wpAny_assign_Name (iJ (v:=.ref D') I9 hN hy hx rfl (fun s'' I'' ⟨a,sb,ha⟩=>?_) hf)
 have aC:C≠a:=by
  rcases ha with ha | ha
  ·rw [ha]; exact hCL
  ·intro z
   subst z
   obtain ⟨v,q⟩:=I2.cell y C ha
   exact absurd (Nat.lt_of_lt_of_le q.lt hDC) (Nat.lt_irrefl _)
 refine ⟨m,hm.sameBut sb aC,fun h' hsb=>?_⟩
 refine ⟨σ.set i (some (.ref D')),upd H' D' (.lst acc),I''.turned (t':=s''.toks) (it:=C) (fun b o hb e=>by rw [hsb.2 b hb]; exact e) ?_ hCL (.inr (Nat.le_trans I2.sz hDC)) (fun x d e z=>?_) (fun p hp z=>?_),hz D' hD⟩
 ·exact hUC
 ·obtain ⟨v,q⟩:=I2.cell x d e
  rw [z] at q
  exact absurd (Nat.lt_of_lt_of_le q.lt hDC) (Nat.lt_irrefl _)
 ·have q:=Heap.lt_size (I2.pin p hp).1
  rw [z] at q
  exact absurd (Nat.lt_of_lt_of_le q hDC) (Nat.lt_irrefl _)
end
def Ite (a:Addr):It :=
 ⟨fun i H=>∃ xs x,H a=some (.lst xs)∧xs[i]? = some x,fun i H v H'=>∃ p x,H p=none∧v = .ref p∧H'=upd H p (.tup [.int i,x])∧∀ xs,H a=some (.lst xs)→xs[i]? = some x,fun i H=>∃ xs,H a=some (.lst xs)∧xs.length≤i⟩
theorem mO {P:Program} {w:World} {K:PySem.W.Frag} {es:List Expr} {k:Nat} {pos:Pos} (a e it:Addr) (hne:e≠it) :
 Turn P w K (.Tuple es k pos) (Ite a) [e,it] e (fun i h=>(∃ old,IsEnum h e it i old)∧h.IsListIter it a i) where
 mem:=by simp
 obj:=fun i h st b hb=>by
  rw [List.mem_cons,List.mem_singleton] at hb
  rcases hb with rfl | rfl
  ·obtain ⟨⟨old,q⟩,_⟩:=st
   exact ⟨_,q,fun v z=>by cases z⟩
  ·obtain ⟨_,o,q,c,d⟩:=st
   exact ⟨o,q,fun v z=>by rw [d] at z; cases z⟩
 keep:=fun i h h' st kp=>⟨by obtain ⟨old,q⟩:=st.1; exact ⟨old,kp e (by simp) _ q⟩,st.2.at fun o q=>kp it (by simp) o q⟩
 item:=by
  intro X hP hw hK hc i pins s σ H E I hf st hg
  subst hP hw hK
  obtain ⟨xs,x,hq,hx⟩:=hg
  obtain ⟨⟨old,he⟩,hit⟩:=st
  obtain ⟨its,rv,p,hz⟩:=I.list (SqL.of hq)
  obtain ⟨u,hu,ru⟩:=rv.get hx
  obtain ⟨f0,f1,f2,f3,f4,f5⟩:=hf e (by simp)
  obtain ⟨g0,g1,g2,g3,g4,g5⟩:=hf it (by simp)
  refine wpAny_pyNext_enum_item he hit p.isList (x:=u) (by simpa using hu) hne fun h' eo it' ht hsz hk=>?_
  refine ⟨.ref s.heap.objs.size,rfl,?_⟩
  refine wpAny_letOwnedTupleGo_enum eo fun h2 he2 hs2=>?_
  have fr:H s.heap.objs.size=none:=I.hok.fresh (Nat.le_refl _)
  have ne2:∀ b,b<s.heap.objs.size→b≠s.heap.objs.size:=fun b hb=>Nat.ne_of_lt hb
  have ee:e<s.heap.objs.size:=Heap.lt_size he
  have k2:∀ b o,b≠e→b≠it→s.heap.get? b=some o→h2.get? b=some o:=fun b o h1 h2' q=>(hs2.2 b h1).trans (hk b o h1 h2' q)
  have ht2:h2.get? s.heap.objs.size=some { cls:=.type "tuple",data:=.seq #[.int i s.toks,u] }:=(hs2.2 _ (Nat.ne_of_gt ee)).trans ht
  have trk:∀ b v,H b=some v→b≠e∧b≠it:=fun b v q=>⟨aH q f0,aH q g0⟩
  have hok0:HOk X.prog X.w H h2:=fun b o q=>(I.hok b o q).stay (fun c v hc q'=>by
   rcases hc with rfl | hc
   ·exact k2 c v (trk c _ q).1 (trk c _ q).2 q'
   ·exact k2 c v (trk c _ hc).1 (trk c _ hc).2 q') (fun _ z=>z) (fun _ _ z=>z) fun _ _ _ z=>z
  have I1:Inv X pins σ (upd H s.heap.objs.size (.tup [.int i,x])) { s with heap:=h2,toks:=s.toks + 1 }:=by
   refine I.step (g':=s.gens) (d':=s.drawn) (ch:=[e,it]) (fun b hb=>?_) (fun b o _ _ hc q _=>k2 b o (fun z=>hc (by simp [z])) (fun z=>hc (by simp [z])) q) (fun b o _ _ hc q _=>⟨o.slots,k2 b o (fun z=>hc (by simp [z])) (fun z=>hc (by simp [z])) q⟩)
    (fun b o _ q n=>by rw [ax (ne2 b (Heap.lt_size q))]; exact n) (fun b o hc q=>⟨o,k2 b o (fun z=>hc (by simp [z])) (fun z=>hc (by simp [z])) q⟩) (fun b ys q=>by rw [ax (aH q fr)]; exact q) (fun b o v q=>by rw [ax (aH q fr)]; exact q)
    (fun b ps _ q=>⟨#[],by rw [ax (aH q fr),q]; simp⟩) (fun m hm=>?_) ?_ I.bare
   ·rw [List.mem_cons,List.mem_singleton] at hb
    rcases hb with rfl | rfl
    ·exact ⟨f3,f1,f4,f5⟩
    ·exact ⟨g3,g1,g4,g5⟩
   ·obtain ⟨o,es',ep,ho,r⟩:=hm
    exact ⟨o,es',ep,k2 _ o (Ne.symm f1) (Ne.symm g1) ho,r⟩
   ·exact hok0.adopt fr ⟨by show 2≤sizeLine; decide,[.int i s.toks,u],.cons ⟨_,rfl⟩ (.cons ru .nil),⟨_,ht2,rfl,_,rfl⟩⟩
  refine ⟨.ref s.heap.objs.size,_,I1,rfl,⟨_,x,fr,rfl,rfl,fun ys hy=>by rw [hq] at hy; cases hy; exact hx⟩,⟨⟨_,by simpa using he2⟩,it'.extBut hs2.extBut (Ne.symm hne)⟩,fun b hb=>?_⟩
  have:H b=none:=(hf b hb).1
  have hb':b<s.heap.objs.size:=by
   rw [List.mem_cons,List.mem_singleton] at hb
   rcases hb with rfl | rfl
   ·exact ee
   ·obtain ⟨o,q,_⟩:=hit; exact Heap.lt_size q
  rw [ax (ne2 b hb')]
  exact this
 done:=by
  intro X hP hw hK hc i pins s σ H E I hf st hg
  subst hP hw hK
  obtain ⟨xs,hq,hx⟩:=hg
  obtain ⟨⟨old,he⟩,hit⟩:=st
  obtain ⟨its,rv,p,hz⟩:=I.list (SqL.of hq)
  obtain ⟨g0,g1,g2,g3,g4,g5⟩:=hf it (by simp)
  have hl:=rv.length
  exact wpAny_pyNext_enum_end (I.ok.hd hc) he hit p.isList (by simp; omega) fun h' eb=>⟨rfl,I.turned (t':=s.toks) (fun b o hb e=>eb b o hb e) g0 g1 g3 g4 g5⟩
 self:=fun _ _ _ _ _ st h=>by
  obtain ⟨⟨old,he⟩,_⟩:=st
  exact wpAny_pyIter_enum he h
section
variable {X:Cx} {es:List Expr} {k:Nat} {tpos:Pos}
def iEnum (ta:TA):TI:=fun σ H R=>ta σ H fun vs H1=>∃ a,vs=[.ref a]∧(∃ xs,H1 a=some (.lst xs))∧R (Ite a) H1
theorem rH {l:Expr} {ta:TA} {p pos:Pos} (hg:Gl X "enumerate") (hm:X.mg "enumerate" = none) (ha:PA X [l] ta) (hs:starEach [l] X.env=[(false,eval l X.env)]:=by rfl):PI X (.Tuple es k tpos) (.Call (.Name "enumerate" p) [l] [] pos) (iEnum ta):=by
 refine ⟨fun pins s σ H R I h=>?_⟩
 refine wpAny_Call_Name_kw (eB I hg hm jh ?_)
 refine PyProof.Rows.callWith_type1 (thn (ha pos pins s σ H _ I h) fun us s1 ⟨vs,H1,I1,r1,a,e,⟨xs,hx⟩,q⟩=>?_) hs rfl
 subst e
 obtain ⟨u,rfl,ru⟩:=gA r1
 cases ru
 obtain ⟨_,its,n,rv,ho⟩:=(show b9 X.prog X.w H1 s1.heap a (.lst xs) from I1.hok a _ hx)
 refine call_enumerate_1 ho fun h' he hit hsz hk=>?_
 have I2:Inv X pins σ H1 { s1 with heap:=h' }:=I1.kept (t':=s1.toks) hk
 refine wpAny_pyIter_enum he ⟨s1.heap.objs.size + 1,[s1.heap.objs.size + 1,s1.heap.objs.size],_,Ite a,H1,rfl,I2,mO a (s1.heap.objs.size + 1) s1.heap.objs.size (Nat.succ_ne_self _),⟨⟨_,he⟩,hit⟩,fun b hb=>?_,q⟩
 have hb':s1.heap.objs.size≤b:=by
  rw [List.mem_cons,List.mem_singleton] at hb
  rcases hb with rfl | rfl <;> omega
 have z:=I1.fpOk (H':=H1) hb' (I1.hok.fresh hb')
 exact z
end
mutual
def toP:D→PyData
 | .non=>.none
 | .bl b=>.bool b
 | .int i=>.int i
 | .str x=>.str x
 | .tup ds=>.tuple (toPs ds)
 | .lst ds=>.list (toPs ds)
 | .dct=>.dict []
 | .dic _ _=>.dict []
 | .scr _ _=>.dict []
 | .ext _=>.dict []
def toPs:List D→List PyData
 | []=>[]
 | d :: ds=>toP d :: toPs ds
end
mutual
theorem dO {X:Cx} {pins:List (Addr×Obj)} {σ:St} {H:Hp} {s:Shared} (I:Inv X pins σ H s):∀ (d:D) (v:V) (u:Value),Rep H d v→a9 v u→(toP d).canLay0=true→∃ as,Reads s.heap u (toP d) as
 | .non,v,u,h,r,_=>by rw [Rep] at h; subst h; cases r; rw [toP]; exact ⟨_,.none⟩
 | .bl b,v,u,h,r,_=>by rw [Rep] at h; subst h; cases r; rw [toP]; exact ⟨_,.bool b⟩
 | .int i,v,u,h,r,_=>by rw [Rep] at h; subst h; obtain ⟨t,rfl⟩:=r; rw [toP]; exact ⟨_,.int i t⟩
 | .str x,v,u,h,r,_=>by rw [Rep] at h; subst h; obtain ⟨t,rfl⟩:=r; rw [toP]; exact ⟨_,.str x t⟩
 | .tup ds,v,u,h,r,c=>by
  rw [Rep] at h
  obtain ⟨a,xs,rfl,ha,hx⟩:=h
  cases r
  rw [toP] at c ⊢
  obtain ⟨_,its,rv,o,e1,e2,n,e3⟩:=(show b9 X.prog X.w H s.heap a (.tup xs) from I.hok a _ ha)
  obtain ⟨as,q⟩:=reps_reads I ds xs its hx rv (by rw [PyData.canLay0] at c; exact c)
  exact ⟨_,reads_tuple_at e1 e2 e3 (by simpa using q)⟩
 | .lst ds,v,u,h,r,c=>by
  rw [Rep] at h
  obtain ⟨a,xs,rfl,ha,hx⟩:=h
  cases r
  rw [toP] at c ⊢
  obtain ⟨_,its,n,rv,e1⟩:=(show b9 X.prog X.w H s.heap a (.lst xs) from I.hok a _ ha)
  obtain ⟨as,q⟩:=reps_reads I ds xs its hx rv (by rw [PyData.canLay0] at c; exact c)
  exact ⟨_,reads_list_at e1 rfl rfl (by simpa using q)⟩
 | .dct,v,u,h,r,c=>by rw [toP,PyData.canLay0] at c; cases c
 | .dic _ _,v,u,h,r,c=>by rw [toP,PyData.canLay0] at c; cases c
 | .scr _ _,v,u,h,r,c=>by rw [toP,PyData.canLay0] at c; cases c
 | .ext _,v,u,h,r,c=>by rw [toP,PyData.canLay0] at c; cases c
theorem reps_reads {X:Cx} {pins:List (Addr×Obj)} {σ:St} {H:Hp} {s:Shared} (I:Inv X pins σ H s):∀ (ds:List D) (vs:List V) (us:List Value),Reps H ds vs→aY vs us→PyData.canLayAll0 (toPs ds)=true→∃ as,ReadsAll s.heap us (toPs ds) as
 | [],vs,us,h,r,_=>by rw [Reps] at h; subst h; cases r; rw [toPs]; exact ⟨_,.nil⟩
 | d :: ds,vs,us,h,r,c=>by
  rw [Reps] at h
  obtain ⟨v,vs',rfl,h1,h2⟩:=h
  rw [toPs] at c ⊢
  rw [PyData.canLayAll0,Bool.and_eq_true] at c
  cases r with
  | cons r1 r2 =>
   obtain ⟨as,q1⟩:=dO I d v _ h1 r1 c.1
   obtain ⟨bs,q2⟩:=reps_reads I ds vs' _ h2 r2 c.2
   exact ⟨_,.cons q1 q2⟩
end
section
variable {X:Cx}
def rEqD:R2:=fun x y H Q=>∃ d e,Rep H d x∧Rep H e y∧SeqAt.shaped (toP d)=true∧SeqAt.shaped (toP e)=true∧Q (.bl (PyData.eqv (toP d) (toP e))) H
def rNeD:R2:=fun x y H Q=>∃ d e,Rep H d x∧Rep H e y∧SeqAt.shaped (toP d)=true∧SeqAt.shaped (toP e)=true∧Q (.bl (!PyData.eqv (toP d) (toP e))) H
theorem gt (hu:X.A.units + 64<cLine):OpR X (compareOp .Eq) rEqD:=by
 intro pins s σ H x y v u Q I rx ry h
 obtain ⟨d,e,h1,h2,c1,c2,q⟩:=h
 obtain ⟨as,r1⟩:=dO I d x v h1 rx (SeqAt.canLay_of_shaped c1)
 obtain ⟨bs,r2⟩:=dO I e y u h2 ry (SeqAt.canLay_of_shaped c2)
 exact eq_dataH r1 r2 c1 c2 hu ⟨.bl _,H,I,rfl,q⟩
theorem du (hu:X.A.units + 64<cLine):OpR X (compareOp .NotEq) rNeD:=by
 intro pins s σ H x y v u Q I rx ry h
 obtain ⟨d,e,h1,h2,c1,c2,q⟩:=h
 obtain ⟨as,r1⟩:=dO I d x v h1 rx (SeqAt.canLay_of_shaped c1)
 obtain ⟨bs,r2⟩:=dO I e y u h2 ry (SeqAt.canLay_of_shaped c2)
 exact ne_dataH r1 r2 c1 c2 hu ⟨.bl _,H,I,rfl,q⟩
end
def au (ns:List Int):D:=.lst (ns.map .int)
theorem gw (ns:List Int):toPs (ns.map .int)=ns.map .int:=by
 induction ns with
 | nil=>rw [List.map_nil,toPs]; rfl
 | cons n r ih=>rw [List.map_cons,toPs,ih,toP]; rfl
theorem pI (ns:List Int):PyData.canLayAll0 (ns.map .int)=true∧PyData.depthAll (ns.map .int)≤1:=by
 induction ns with
 | nil=>simp [PyData.canLayAll0,PyData.depthAll]
 | cons n r ih=>simp only [List.map_cons,PyData.canLayAll0,PyData.canLay0,PyData.depthAll,PyData.depth,ih.1,Bool.and_self,true_and]; have:=ih.2; omega
theorem rn (ns ms:List Int):PyData.eqvAll (ns.map .int) (ms.map .int)=decide (ns=ms):=by
 induction ns generalizing ms with
 | nil=>cases ms <;> simp [PyData.eqvAll]
 | cons n r ih =>
  cases ms with
  | nil=>simp [PyData.eqvAll]
  | cons m q =>
   rw [List.map_cons,List.map_cons,PyData.eqvAll,PyData.eqv,ih]
   by_cases h:n=m
   ·subst h; simp
   ·simp [h]
theorem jW (ns:List Int):SeqAt.shaped (toP (au ns))=true:=by
 have h:=pI ns
 unfold SeqAt.shaped au
 rw [toP,gw,PyData.canLay0,PyData.depth,h.1,Bool.true_and]
 exact decide_eq_true (by have:=h.2; omega)
theorem pV (ns ms:List Int):PyData.eqv (toP (au ns)) (toP (au ms))=decide (ns=ms):=by
 unfold au
 rw [toP,toP,gw,gw,PyData.eqv,rn]
theorem ga {H:Hp}:∀ ns:List Int,Reps H (ns.map .int) (ns.map V.int)
 | []=>ck
 | n :: r=>b_ (bD n) (ga r)
def aK (ns ms:List Int):D:=.tup [au ns,au ms]
section
variable {X:Cx}
end
abbrev DSt:=List (Option D)
abbrev Own:=Addr→Option (Nat×List Nat)
mutual
def Sep (G H:Hp) (O:Own) (i:Nat):D→List Nat→V→Prop
 | .non,_,v=>v = .non
 | .bl b,_,v=>v = .bl b
 | .int n,_,v=>v = .int n
 | .str x,_,v=>v = .str x
 | .tup ds,π,v=>∃ a xs,v = .ref a∧G a=some (.tup xs)∧Seps G H O i ds 0 π xs
 | .lst ds,π,v=>∃ a xs,v = .ref a∧O a=some (i,π)∧H a=some (.lst xs)∧Seps G H O i ds 0 π xs
 | .dct,_,_=>False
 | .dic ks ds,π,v=>∃ a xs,v = .ref a∧O a=some (i,π)∧H a=some (.dK (ks.zip xs))∧ks.length=ds.length∧Seps G H O i ds 0 π xs
 | .scr _ _,_,_=>False
 | .ext _,_,_=>False
def Seps (G H:Hp) (O:Own) (i:Nat):List D→Nat→List Nat→List V→Prop
 | [],_,_,xs=>xs=[]
 | d :: ds,k,π,xs=>∃ v vs,xs=v :: vs∧Sep G H O i d (k :: π) v∧Seps G H O i ds (k + 1) π vs
end
def cU (G G':Hp):Prop:=∀ a xs,G a=some (.tup xs)→G' a=some (.tup xs)
theorem aU.ts {G G':Hp} (h:aU G G'):cU G G':=fun a xs e=>h a _ e
mutual
theorem Sep.map {G H G' H':Hp} {O O':Own} {i i':Nat} {f:List Nat→List Nat} (hG:cU G G') (hf:∀ k π,f (k :: π)=k :: f π) :
 ∀ (d:D) (π:List Nat) (v:V),(∀ a τ,O a=some (i,τ++π)→O' a=some (i',f (τ++π))∧H' a=H a)→Sep G H O i d π v→Sep G' H' O' i' d (f π) v
 | .non,_,_,_,h=>by rw [Sep] at *; exact h
 | .bl b,_,_,_,h=>by rw [Sep] at *; exact h
 | .int n,_,_,_,h=>by rw [Sep] at *; exact h
 | .str x,_,_,_,h=>by rw [Sep] at *; exact h
 | .tup ds,π,v,hO,h=>by
  rw [Sep] at *
  obtain ⟨a,xs,h1,h2,h3⟩:=h
  exact ⟨a,xs,h1,hG _ _ h2,Seps.map hG hf ds 0 π xs (fun a τ _=>hO a τ) h3⟩
 | .lst ds,π,v,hO,h=>by
  rw [Sep] at *
  obtain ⟨a,xs,h1,h2,h3,h4⟩:=h
  have q:=hO a [] h2
  exact ⟨a,xs,h1,q.1,q.2.trans h3,Seps.map hG hf ds 0 π xs (fun a τ _=>hO a τ) h4⟩
 | .dic ks ds,π,v,hO,h=>by
  rw [Sep] at *
  obtain ⟨a,xs,h1,h2,h3,h5,h4⟩:=h
  have q:=hO a [] h2
  exact ⟨a,xs,h1,q.1,q.2.trans h3,h5,Seps.map hG hf ds 0 π xs (fun a τ _=>hO a τ) h4⟩
 | .dct,_,_,_,h=>by rw [Sep] at h; exact h.elim
 | .scr _ _,_,_,_,h=>by rw [Sep] at h; exact h.elim
 | .ext _,_,_,_,h=>by rw [Sep] at h; exact h.elim
theorem Seps.map {G H G' H':Hp} {O O':Own} {i i':Nat} {f:List Nat→List Nat} (hG:cU G G') (hf:∀ k π,f (k :: π)=k :: f π) :
 ∀ (ds:List D) (k:Nat) (π:List Nat) (xs:List V),(∀ a τ,τ≠[]→O a=some (i,τ++π)→O' a=some (i',f (τ++π))∧H' a=H a)→Seps G H O i ds k π xs→Seps G' H' O' i' ds k (f π) xs
 | [],_,_,_,_,h=>by rw [Seps] at *; exact h
 | d :: ds,k,π,xs,hO,h=>by
  rw [Seps] at *
  obtain ⟨v,vs,h1,h2,h3⟩:=h
  refine ⟨v,vs,h1,?_,Seps.map hG hf ds (k + 1) π vs hO h3⟩
  rw [← hf]
  refine Sep.map hG hf d (k :: π) v (fun a τ e=>?_) h2
  have e' : τ++k :: π=(τ++[k])++π:=by simp
  rw [e'] at e ⊢
  exact hO a (τ++[k]) (by simp) e
end
theorem Sep.keep {G H G' H':Hp} {O O':Own} {i i':Nat} {d:D} {π:List Nat} {v:V} (hG:cU G G') (hO:∀ a τ,O a=some (i,τ++π)→O' a=some (i',τ++π)∧H' a=H a) (h:Sep G H O i d π v):Sep G' H' O' i' d π v :=
 Sep.map (f:=id) hG (fun _ _=>rfl) d π v hO h
theorem Seps.keep {G H G' H':Hp} {O O':Own} {i i':Nat} {ds:List D} {k:Nat} {π:List Nat} {xs:List V} (hG:cU G G') (hO:∀ a τ,τ≠[]→O a=some (i,τ++π)→O' a=some (i',τ++π)∧H' a=H a) (h:Seps G H O i ds k π xs):Seps G' H' O' i' ds k π xs :=
 Seps.map (f:=id) hG (fun _ _=>rfl) ds k π xs hO h
mutual
theorem Sep.rep {G H G':Hp} {O:Own} {i:Nat} (hG:cU G G'):∀ (d:D) (π:List Nat) (v:V),(∀ a τ (o:HO),O a=some (i,τ++π)→H a=some o→G' a=some o)→Sep G H O i d π v→Rep G' d v
 | .non,_,_,_,h=>by rw [Sep] at h; rw [Rep]; exact h
 | .bl b,_,_,_,h=>by rw [Sep] at h; rw [Rep]; exact h
 | .int n,_,_,_,h=>by rw [Sep] at h; rw [Rep]; exact h
 | .str x,_,_,_,h=>by rw [Sep] at h; rw [Rep]; exact h
 | .tup ds,π,v,hO,h=>by
  rw [Sep] at h; rw [Rep]
  obtain ⟨a,xs,h1,h2,h3⟩:=h
  exact ⟨a,xs,h1,hG _ _ h2,Seps.rep hG ds 0 π xs (fun a τ ys _=>hO a τ ys) h3⟩
 | .lst ds,π,v,hO,h=>by
  rw [Sep] at h; rw [Rep]
  obtain ⟨a,xs,h1,h2,h3,h4⟩:=h
  exact ⟨a,xs,h1,hO a [] _ h2 h3,Seps.rep hG ds 0 π xs (fun a τ ys _=>hO a τ ys) h4⟩
 | .dic ks ds,π,v,hO,h=>by
  rw [Sep] at h; rw [Rep]
  obtain ⟨a,xs,h1,h2,h3,h5,h4⟩:=h
  exact ⟨a,xs,h1,hO a [] _ h2 h3,h5,Seps.rep hG ds 0 π xs (fun a τ ys _=>hO a τ ys) h4⟩
 | .dct,_,_,_,h=>by rw [Sep] at h; exact h.elim
 | .scr _ _,_,_,_,h=>by rw [Sep] at h; exact h.elim
 | .ext _,_,_,_,h=>by rw [Sep] at h; exact h.elim
theorem Seps.rep {G H G':Hp} {O:Own} {i:Nat} (hG:cU G G'):∀ (ds:List D) (k:Nat) (π:List Nat) (xs:List V),(∀ a τ (o:HO),τ≠[]→O a=some (i,τ++π)→H a=some o→G' a=some o)→Seps G H O i ds k π xs→Reps G' ds xs
 | [],_,_,_,_,h=>by rw [Seps] at h; rw [Reps]; exact h
 | d :: ds,k,π,xs,hO,h=>by
  rw [Seps] at h; rw [Reps]
  obtain ⟨v,vs,h1,h2,h3⟩:=h
  refine ⟨v,vs,h1,Sep.rep hG d (k :: π) v (fun a τ ys e q=>?_) h2,Seps.rep hG ds (k + 1) π vs hO h3⟩
  have e' : τ++k :: π=(τ++[k])++π:=by simp
  rw [e'] at e
  exact hO a (τ++[k]) ys (by simp) e q
end
mutual
def imm:D→Bool
 | .tup ds=>imms ds
 | .lst _=>false
 | .dct=>false
 | .dic _ _=>false
 | .scr _ _=>false
 | .ext _=>false
 | _=>true
def imms:List D→Bool
 | []=>true
 | d :: ds=>imm d&&imms ds
end
mutual
theorem Rep.sep {G H:Hp} {O:Own} {i:Nat}:∀ (d:D) (π:List Nat) (v:V),imm d=true→Rep G d v→Sep G H O i d π v
 | .non,_,_,_,h=>by rw [Rep] at h; rw [Sep]; exact h
 | .bl b,_,_,_,h=>by rw [Rep] at h; rw [Sep]; exact h
 | .int n,_,_,_,h=>by rw [Rep] at h; rw [Sep]; exact h
 | .str x,_,_,_,h=>by rw [Rep] at h; rw [Sep]; exact h
 | .tup ds,π,v,hi,h=>by
  rw [Rep] at h; rw [Sep]
  obtain ⟨a,xs,h1,h2,h3⟩:=h
  exact ⟨a,xs,h1,h2,Reps.sep ds 0 π xs (by rw [imm] at hi; exact hi) h3⟩
 | .lst ds,_,_,hi,_=>by rw [imm] at hi; cases hi
 | .dct,_,_,hi,_=>by rw [imm] at hi; cases hi
 | .dic _ _,_,_,hi,_=>by rw [imm] at hi; cases hi
 | .scr _ _,_,_,hi,_=>by rw [imm] at hi; cases hi
 | .ext _,_,_,hi,_=>by rw [imm] at hi; cases hi
theorem Reps.sep {G H:Hp} {O:Own} {i:Nat}:∀ (ds:List D) (k:Nat) (π:List Nat) (xs:List V),imms ds=true→Reps G ds xs→Seps G H O i ds k π xs
 | [],_,_,_,_,h=>by rw [Reps] at h; rw [Seps]; exact h
 | d :: ds,k,π,xs,hi,h=>by
  rw [Reps] at h; rw [Seps]
  rw [imms,Bool.and_eq_true] at hi
  obtain ⟨v,vs,h1,h2,h3⟩:=h
  exact ⟨v,vs,h1,Rep.sep d (k :: π) v hi.1 h2,Reps.sep ds (k + 1) π vs hi.2 h3⟩
end
mutual
theorem Rep.imms {G G':Hp} (hG:cU G G'):∀ (d:D) (v:V),L2.imm d=true→Rep G d v→Rep G' d v
 | .non,_,_,h=>by rw [Rep] at *; exact h
 | .bl b,_,_,h=>by rw [Rep] at *; exact h
 | .int n,_,_,h=>by rw [Rep] at *; exact h
 | .str x,_,_,h=>by rw [Rep] at *; exact h
 | .tup ds,v,hi,h=>by
  rw [Rep] at *
  obtain ⟨a,xs,h1,h2,h3⟩:=h
  exact ⟨a,xs,h1,hG _ _ h2,Reps.imms hG ds xs (by rw [L2.imm] at hi; exact hi) h3⟩
 | .lst ds,_,hi,_=>by rw [L2.imm] at hi; cases hi
 | .dct,_,hi,_=>by rw [L2.imm] at hi; cases hi
 | .dic _ _,_,hi,_=>by rw [L2.imm] at hi; cases hi
 | .scr _ _,_,hi,_=>by rw [L2.imm] at hi; cases hi
 | .ext _,_,hi,_=>by rw [L2.imm] at hi; cases hi
theorem Reps.imms {G G':Hp} (hG:cU G G'):∀ (ds:List D) (xs:List V),L2.imms ds=true→Reps G ds xs→Reps G' ds xs
 | [],_,_,h=>by rw [Reps] at *; exact h
 | d :: ds,xs,hi,h=>by
  rw [Reps] at *
  rw [L2.imms,Bool.and_eq_true] at hi
  obtain ⟨v,vs,h1,h2,h3⟩:=h
  exact ⟨v,vs,h1,Rep.imms hG d v hi.1 h2,Reps.imms hG ds vs hi.2 h3⟩
end
theorem Seps.length {G H:Hp} {O:Own} {i:Nat}:∀ {ds:List D} {k:Nat} {π:List Nat} {xs:List V},Seps G H O i ds k π xs→xs.length=ds.length
 | [],_,_,_,h=>by rw [Seps] at h; subst h; rfl
 | d :: ds,k,π,xs,h=>by
  rw [Seps] at h
  obtain ⟨v,vs,rfl,_,h3⟩:=h
  simp [Seps.length h3]
abbrev WrO:=List V ⊕ List (Key×V)
def WrO.ho:WrO→HO
 | .inl xs=>.lst xs
 | .inr kvs=>.dK kvs
theorem WrO.ne {m:WrO} {xs:List V} (h:m.ho = .tup xs):False:=by cases m <;> cases h
structure Ctx where
 G:Hp
 H:Hp
 O:Own
 mu:List (Option V)
 np:Nat
def cu (G H:Hp) (O:Own):List (D×V)→Prop
 | []=>True
 | (d,v) :: r=>Sep G H O (2 * r.length + 1) d [] v∧cu G H O r
def Nw (C:Ctx) (a:Addr) (l:Nat):Prop:=C.H a=none∨∃ π,C.O a=some (l,π)
def NT (o:HO):Prop:=∀ ps q,o≠.tbl ps q
theorem WrO.nt (x:WrO):NT x.ho:=by cases x <;> (intro _ _ z; cases z)
structure RO (C:Ctx) (ow:List Bool) (G:Hp) (ρ:DSt) (σ:St) (H:Hp) (pd:List (D×V)) (O:Own):Prop where
 len : ρ.length=σ.length
 gh:aU G H
 g0:aU C.G G
 gn:∀ a o,G a=some o→C.G a=some o∨C.H a=none
 og:∀ a l,O a=some l→G a=none∧(∃ xs:WrO,H a=some xs.ho)∧Nw C a l.1
 cok:∀ a l π,C.O a=some (l,π)→(∃ (i:Nat) (v:V),l=2 * i∧C.mu[i]? = some (some v))∨∃ j,l=2 * j + 1∧j<C.np
 fr:∀ a o,C.H a=some o→C.O a=none→NT o→H a=some o
 ft:∀ a ps q,H a=some (.tbl ps q)→G a=none
 al:∀ a,H a=none→C.H a=none
 mp:∀ (i:Nat) v,C.mu[i]? = some (some v)→σ[i]? = some (some v)
 sl:∀ (i:Nat) d,ρ[i]? = some (some d)→∃ v,σ[i]? = some (some v)∧if ow[i]? = some true then Sep G H O (2 * i) d [] v else Rep G d v
 pn:cu G H O pd
 np:C.np≤pd.length
def R (C:Ctx) (ow:List Bool) (G:Hp) (ρ:DSt) (σ:St) (H:Hp) (pd:List (D×V)):Prop:=∃ O,RO C ow G ρ σ H pd O
theorem cu.keep {G H G' H':Hp} {O O':Own} (hG:cU G G'):∀ {pd:List (D×V)},(∀ a j π,j<pd.length→O a=some (2 * j + 1,π)→O' a=some (2 * j + 1,π)∧H' a=H a)→cu G H O pd→cu G' H' O' pd
 | [],_,_=>trivial
 | (d,v) :: r,hO,⟨h1,h2⟩=>⟨h1.keep hG fun a τ e=>hO a r.length _ (by simp) e,cu.keep hG (fun a j π hj=>hO a j π (by simp; omega)) h2⟩
section
variable {C:Ctx} {ow:List Bool} {G:Hp} {ρ:DSt} {σ:St} {H:Hp} {pd:List (D×V)} {O:Own}
theorem RO.new (h:RO C ow G ρ σ H pd O) {p:Addr} (hp:H p=none) (o:HO) (nt:NT o:=by intro _ _ z; cases z):RO C ow (upd G p o) ρ σ (upd H p o) pd O∧aU G (upd G p o):=by
 have gp:G p=none:=by
  cases e:G p with
  | none=>rfl
  | some z=>rw [h.gh _ _ e] at hp; cases hp
 have sG:=ra gp o
 have ne:∀ a l,O a=some l→a≠p:=fun a l e z=>by
  obtain ⟨_,⟨xs,q⟩,_⟩:=h.og a l e
  rw [z,hp] at q; cases q
 refine ⟨⟨h.len,?_,fun a u e=>sG _ _ (h.g0 a u e),?_,?_,h.cok,?_,?_,?_,h.mp,?_,?_,h.np⟩,sG⟩
 ·intro a u e
  by_cases z:a=p
  ·subst z; rw [aM] at e ⊢; exact e
  ·rw [ax z] at e ⊢; exact h.gh _ _ e
 ·intro a u e
  by_cases z:a=p
  ·subst z; exact .inr (h.al _ hp)
  ·rw [ax z] at e; exact h.gn a u e
 ·intro a l e
  have z:=ne a l e
  rw [ax z,ax z]
  exact h.og a l e
 ·intro a u e n t
  rw [ax (aH (h.fr a u e n t) hp)]
  exact h.fr a u e n t
 ·intro a ps q e
  by_cases z:a=p
  ·subst z; rw [aM] at e; cases e; exact absurd rfl (nt ps q)
  ·rw [ax z] at e ⊢; exact h.ft a ps q e
 ·intro a e
  by_cases z:a=p
  ·subst z; rw [aM] at e; cases e
  ·rw [ax z] at e; exact h.al a e
 ·intro i d e
  obtain ⟨v,h1,h2⟩:=h.sl i d e
  refine ⟨v,h1,?_⟩
  split at h2
  ·rename_i c; rw [if_pos c]; exact h2.keep sG.ts fun a τ q=>⟨q,ax (ne a _ q)⟩
  ·rename_i c; rw [if_neg c]; exact h2.mono sG
 ·exact cu.keep sG.ts (fun a j π _ q=>⟨q,ax (ne a _ q)⟩) h.pn
theorem RO.newL (h:RO C ow G ρ σ H pd O) {p:Addr} (hp:H p=none) {xs:List V} {ds:List D} (hi:imms ds=true) (hr:Reps G ds xs) :
 R C ow G ρ σ (upd H p (.lst xs)) ((.lst ds,.ref p) :: pd):=by
 have gp:G p=none:=by
  cases e:G p with
  | none=>rfl
  | some z=>rw [h.gh _ _ e] at hp; cases hp
 have ne:∀ a l,O a=some l→a≠p:=fun a l e z=>by
  obtain ⟨_,⟨xs,q⟩,_⟩:=h.og a l e
  rw [z,hp] at q; cases q
 let O':Own:=fun a=>if a=p then some (2 * pd.length + 1,[]) else O a
 have old:∀ a l,O a=some l→O' a=some l:=fun a l e=>by
  show (if a=p then _ else _)=_
  rw [if_neg (ne a _ e),e]
 refine ⟨O',h.len,?_,h.g0,h.gn,?_,h.cok,?_,?_,?_,h.mp,?_,⟨?_,?_⟩,Nat.le_succ_of_le h.np⟩
 ·intro a u e
  rw [ax (fun z=>by rw [z,gp] at e; cases e)]
  exact h.gh _ _ e
 ·intro a l e
  by_cases z:a=p
  ·subst z; exact ⟨gp,⟨.inl xs,aM⟩,.inl (h.al _ hp)⟩
  ·rw [ax z]
   change (if a=p then _ else _)=_ at e
   rw [if_neg z] at e
   exact h.og a _ e
 ·intro a u e n t
  rw [ax (aH (h.fr a u e n t) hp)]
  exact h.fr a u e n t
 ·intro a ps q e
  by_cases z:a=p
  ·subst z; rw [aM] at e; cases e
  ·rw [ax z] at e; exact h.ft a ps q e
 ·intro a e
  by_cases z:a=p
  ·subst z; rw [aM] at e; cases e
  ·rw [ax z] at e; exact h.al a e
 ·intro i d e
  obtain ⟨v,h1,h2⟩:=h.sl i d e
  refine ⟨v,h1,?_⟩
  split at h2
  ·rename_i c; rw [if_pos c]; exact h2.keep (fun _ _ z=>z) fun a τ q=>⟨old a _ q,ax (ne a _ q)⟩
  ·rename_i c; rw [if_neg c]; exact h2
 ·rw [Sep]
  exact ⟨p,xs,rfl,by show (if p=p then _ else _)=_; rw [if_pos rfl],aM,hr.sep ds 0 [] xs hi⟩
 ·exact cu.keep (fun _ _ z=>z) (fun a j π hj q=>⟨old a _ q,ax (ne a _ q)⟩) h.pn
end
theorem Seps.snoc {G H:Hp} {O:Own} {i:Nat} {d:D} {v:V}:∀ {ds:List D} {k:Nat} {π:List Nat} {xs:List V},Seps G H O i ds k π xs→Sep G H O i d ((k + ds.length) :: π) v→Seps G H O i (ds++[d]) k π (xs++[v])
 | [],k,π,xs,h,hd=>by rw [Seps] at h; subst h; show Seps _ _ _ _ [d] _ _ [v]; rw [Seps]; exact ⟨v,[],rfl,by simpa using hd,by rw [Seps]⟩
 | e :: ds,k,π,xs,h,hd=>by
  rw [Seps] at h
  obtain ⟨u,us,rfl,h2,h3⟩:=h
  show Seps _ _ _ _ (e :: (ds++[d])) _ _ (u :: (us++[v]))
  rw [Seps]
  refine ⟨u,us++[v],rfl,h2,Seps.snoc h3 ?_⟩
  have:k + 1 + ds.length=k + (e :: ds).length:=by simp; omega
  rw [this]; exact hd
theorem Seps.set {G H:Hp} {O:Own} {i:Nat} {d:D} {v:V}:∀ {ds:List D} {k:Nat} {π:List Nat} {xs:List V} {j:Nat},Seps G H O i ds k π xs→Sep G H O i d ((k + j) :: π) v→Seps G H O i (ds.set j d) k π (xs.set j v)
 | [],k,π,xs,j,h,hd=>by rw [Seps] at h; subst h; simp; rw [Seps]
 | e :: ds,k,π,xs,0,h,hd=>by
  rw [Seps] at h
  obtain ⟨u,us,rfl,h2,h3⟩:=h
  simp only [List.set_cons_zero]; rw [Seps]
  exact ⟨v,us,rfl,by simpa using hd,h3⟩
 | e :: ds,k,π,xs,j + 1,h,hd=>by
  rw [Seps] at h
  obtain ⟨u,us,rfl,h2,h3⟩:=h
  simp only [List.set_cons_succ]; rw [Seps]
  refine ⟨u,_,rfl,h2,Seps.set h3 ?_⟩
  have:k + 1 + j=k + (j + 1):=by omega
  rw [this]; exact hd
theorem Seps.at {G H:Hp} {O:Own} {i:Nat} {d:D}:∀ {ds:List D} {k:Nat} {π:List Nat} {xs:List V} {j:Nat},Seps G H O i ds k π xs→ds[j]? = some d→∃ v,xs[j]? = some v∧Sep G H O i d ((k + j) :: π) v
 | [],k,π,xs,j,h,e=>by simp at e
 | e :: ds,k,π,xs,0,h,q=>by
  rw [Seps] at h
  obtain ⟨u,us,rfl,h2,h3⟩:=h
  simp at q; subst q
  exact ⟨u,rfl,by simpa using h2⟩
 | e :: ds,k,π,xs,j + 1,h,q=>by
  rw [Seps] at h
  obtain ⟨u,us,rfl,h2,h3⟩:=h
  obtain ⟨v,h4,h5⟩:=Seps.at (j:=j) h3 (by simpa using q)
  refine ⟨v,by simpa using h4,?_⟩
  have:k + 1 + j=k + (j + 1):=by omega
  rw [← this]; exact h5
section
variable {C:Ctx} {ow:List Bool} {G:Hp} {ρ:DSt} {σ:St} {H:Hp} {pd:List (D×V)} {O:Own}
theorem gk {α:Type} {l:List (Option α)} {i j:Nat} {x:Option α} {d : α} (h:(l.set i x)[j]? = some (some d)):(j=i∧x=some d)∨(j≠i∧l[j]? = some (some d)):=by
 rw [List.getElem?_set] at h
 by_cases e:i=j
 ·rw [if_pos e] at h
  split at h
  ·exact .inl ⟨e.symm,Option.some.inj h⟩
  ·cases h
 ·rw [if_neg e] at h; exact .inr ⟨fun z=>e z.symm,h⟩
theorem eA {α:Type} {l:List (Option α)} {i:Nat} {x:Option α} (h:l[i]? = some x):i<l.length:=(List.getElem?_eq_some_iff.mp h).1
theorem RO.setS (h:RO C ow G ρ σ H pd O) {i:Nat} {d:D} {v:V} (hi:ow[i]?≠some true) (hm:∀ v,C.mu[i]?≠some (some v)) (r:Rep G d v):RO C ow G (ρ.set i (some d)) (σ.set i (some v)) H pd O:=by
 refine ⟨by simp [h.len],h.gh,h.g0,h.gn,h.og,h.cok,h.fr,h.ft,h.al,?_,?_,h.pn,h.np⟩
 ·intro j u e
  have:i≠j:=fun z=>hm u (z ▸ e)
  rw [List.getElem?_set_ne this]
  exact h.mp j u e
 ·intro j e q
  rcases gk q with ⟨rfl,z⟩ | ⟨z,q'⟩
  ·cases z
   have hl:j<σ.length:=by have:=eA q; rw [List.length_set,h.len] at this; exact this
   exact ⟨v,by rw [List.getElem?_set_self hl],by rw [if_neg hi]; exact r⟩
  ·obtain ⟨u,h1,h2⟩:=h.sl j e q'
   exact ⟨u,by rw [List.getElem?_set_ne (Ne.symm z)]; exact h1,h2⟩
def lab (f:Nat→List Nat→Nat×List Nat) (O:Own):Own:=fun a=>(O a).map fun l=>f l.1 l.2
theorem bM {f:Nat→List Nat→Nat×List Nat} {a:Addr} {l:Nat} {π:List Nat} (h:O a=some (l,π)):lab f O a=some (f l π):=by unfold lab; rw [h]; rfl
theorem gr {f:Nat→List Nat→Nat×List Nat} {a:Addr} {m:Nat×List Nat} (h:lab f O a=some m):∃ l π,O a=some (l,π)∧m=f l π:=by
 unfold lab at h
 cases e:O a with
 | none=>rw [e] at h; cases h
 | some l=>rw [e] at h; exact ⟨l.1,l.2,rfl,(Option.some.inj h).symm⟩
theorem cD {i j:Nat} : 2 * i≠2 * j + 1:=by omega
theorem RO.setO {d:D} {v:V} (h:RO C ow G ρ σ H ((d,v) :: pd) O) {i:Nat} (hi:ow[i]? = some true) (hm:∀ v,C.mu[i]?≠some (some v)) (hn:C.np≤pd.length) :
 R C ow G (ρ.set i (some d)) (σ.set i (some v)) H pd:=by
 refine ⟨lab (fun l π=>if l=2 * pd.length + 1 then (2 * i,π) else (l,π)) O,by simp [h.len],h.gh,h.g0,h.gn,?_,h.cok,h.fr,h.ft,h.al,?_,?_,?_,hn⟩
 ·intro a m e
  obtain ⟨l,π,e1,rfl⟩:=gr e
  obtain ⟨q1,q2,q3⟩:=h.og a _ e1
  refine ⟨q1,q2,?_⟩
  try dsimp only
  split
  ·rename_i z
   rcases q3 with q3 | ⟨_,q3⟩
   ·exact .inl q3
   ·rcases h.cok _ _ _ q3 with ⟨k,_,q4,_⟩ | ⟨k,q4,q5⟩
    ·exact absurd (q4.symm.trans z) cD
    ·omega
  ·exact q3
 ·intro j u e
  have:i≠j:=fun z=>hm u (z ▸ e)
  rw [List.getElem?_set_ne this]
  exact h.mp j u e
 ·intro j e q
  rcases gk q with ⟨rfl,z⟩ | ⟨z,q'⟩
  ·cases z
   have hl:j<σ.length:=by have:=eA q; rw [List.length_set,h.len] at this; exact this
   refine ⟨v,by rw [List.getElem?_set_self hl],?_⟩
   rw [if_pos hi]
   exact h.pn.1.keep (fun _ _ z=>z) fun a τ q=>⟨by rw [bM q,if_pos rfl],rfl⟩
  ·obtain ⟨u,h1,h2⟩:=h.sl j e q'
   refine ⟨u,by rw [List.getElem?_set_ne (Ne.symm z)]; exact h1,?_⟩
   split at h2
   ·rename_i c; rw [if_pos c]; exact h2.keep (fun _ _ z=>z) fun a τ q=>⟨by rw [bM q,if_neg cD],rfl⟩
   ·rename_i c; rw [if_neg c]; exact h2
 ·exact cu.keep (fun _ _ z=>z) (fun a j π hj q=>⟨by rw [bM q,if_neg (by omega)],rfl⟩) h.pn.2
theorem RO.move (h:RO C ow G ρ σ H pd O) {i:Nat} {d:D} (e : ρ[i]? = some (some d)) (hi:ow[i]? = some true) (hm:∀ v,C.mu[i]?≠some (some v)) :
 ∃ v,σ[i]? = some (some v)∧R C ow G (ρ.set i none) σ H ((d,v) :: pd):=by
 obtain ⟨v,hv,s⟩:=h.sl i d e
 rw [if_pos hi] at s
 refine ⟨v,hv,lab (fun l π=>if l=2 * i then (2 * pd.length + 1,π) else (l,π)) O,by simp [h.len],h.gh,h.g0,h.gn,?_,h.cok,h.fr,h.ft,h.al,h.mp,?_,⟨?_,?_⟩,Nat.le_succ_of_le h.np⟩
 ·intro a m e
  obtain ⟨l,π,e1,rfl⟩:=gr e
  obtain ⟨q1,q2,q3⟩:=h.og a _ e1
  refine ⟨q1,q2,?_⟩
  try dsimp only
  split
  ·rename_i z
   rcases q3 with q3 | ⟨_,q3⟩
   ·exact .inl q3
   ·rcases h.cok _ _ _ q3 with ⟨k,u,q4,q5⟩ | ⟨k,q4,_⟩
    ·have:k=i:=by have:=q4.symm.trans z; omega
     exact absurd (this ▸ q5) (hm u)
    ·omega
  ·exact q3
 ·intro j e q
  rcases gk q with ⟨rfl,z⟩ | ⟨z,q'⟩
  ·cases z
  ·obtain ⟨u,h1,h2⟩:=h.sl j e q'
   refine ⟨u,h1,?_⟩
   split at h2
   ·rename_i c; rw [if_pos c]; exact h2.keep (fun _ _ z=>z) fun a τ q=>⟨by rw [bM q,if_neg (by omega)],rfl⟩
   ·rename_i c; rw [if_neg c]; exact h2
 ·exact s.keep (fun _ _ z=>z) fun a τ q=>⟨by rw [bM q,if_pos rfl],rfl⟩
 ·exact cu.keep (fun _ _ z=>z) (fun a j π hj q=>⟨by rw [bM q,if_neg (fun z=>cD z.symm)],rfl⟩) h.pn
def hasL (O:Own) (l:Nat) (a:Addr):Bool:=match O a with
 | some m=>m.1 == l
 | none=>false
theorem eP {l:Nat} {a:Addr}:hasL O l a=true↔∃ π,O a=some (l,π):=by
 unfold hasL
 cases e:O a with
 | none=>simp
 | some m=>obtain ⟨m1,m2⟩:=m; simp
theorem RO.share {d:D} {v:V} (h:RO C ow G ρ σ H ((d,v) :: pd) O) (hn:C.np≤pd.length):∃ G',aU G G'∧R C ow G' ρ σ H pd∧Rep G' d v:=by
 let l₀:=2 * pd.length + 1
 let G':Hp:=fun a=>if hasL O l₀ a=true then H a else G a
 have sG:aU G G':=fun a o e=>by
  show (if _ then _ else _)=_
  split
  ·exact h.gh _ _ e
  ·exact e
 have inH:∀ a τ (o:HO),O a=some (l₀,τ)→H a=some o→G' a=some o:=fun a τ xs q e=>by
  show (if _ then _ else _)=_
  rw [if_pos (eP.mpr ⟨_,q⟩)]; exact e
 refine ⟨G',sG,⟨fun a=>if hasL O l₀ a=true then none else O a,h.len,?_,fun a o e=>sG _ _ (h.g0 _ _ e),?_,?_,h.cok,h.fr,(fun a ps q e=>by
  show (if _ then _ else _)=_
  split
  ·rename_i c
   obtain ⟨τ,c⟩:=eP.mp c
   obtain ⟨_,⟨xs,z⟩,_⟩:=h.og a _ c
   rw [z] at e; exact absurd (Option.some.inj e) (WrO.nt xs _ _)
  ·exact h.ft a ps q e),h.al,h.mp,?_,?_,hn⟩,h.pn.1.rep sG.ts d [] v (fun a τ xs q e=>inH a _ xs q e)⟩
 ·intro a o e
  change (if _ then _ else _)=_ at e
  split at e
  ·exact e
  ·exact h.gh _ _ e
 ·intro a o e
  change (if _ then _ else _)=_ at e
  split at e
  ·rename_i c
   obtain ⟨π,q⟩:=eP.mp c
   obtain ⟨_,_,q3⟩:=h.og a _ q
   rcases q3 with q3 | ⟨_,q3⟩
   ·exact .inr q3
   ·rcases h.cok _ _ _ q3 with ⟨k,_,q4,_⟩ | ⟨k,q4,q5⟩
    ·exact absurd q4.symm cD
    ·have q4' : 2 * pd.length + 1=2 * k + 1:=q4
     omega
  ·exact h.gn a o e
 ·intro a l e
  try dsimp only at e
  split at e
  ·cases e
  ·rename_i c
   obtain ⟨q1,q2,q3⟩:=h.og a l e
   exact ⟨by show (if _ then _ else _)=_; rw [if_neg c]; exact q1,q2,q3⟩
 ·intro j e q
  obtain ⟨u,h1,h2⟩:=h.sl j e q
  refine ⟨u,h1,?_⟩
  split at h2
  ·rename_i c; rw [if_pos c]
   refine h2.keep sG.ts fun a τ q=>⟨?_,rfl⟩
   rw [if_neg,q]
   intro z
   obtain ⟨π,z⟩:=eP.mp z
   rw [q] at z
   have:=(Prod.mk.inj (Option.some.inj z)).1
   omega
  ·rename_i c; rw [if_neg c]; exact h2.mono sG
 ·refine cu.keep sG.ts (fun a j π hj q=>⟨?_,rfl⟩) h.pn.2
  rw [if_neg,q]
  intro z
  obtain ⟨π,z⟩:=eP.mp z
  rw [q] at z
  have:=(Prod.mk.inj (Option.some.inj z)).1
  omega
theorem RO.write (h:RO C ow G ρ σ H pd O) {i:Nat} {ds:List D} (e : ρ[i]? = some (some (.lst ds))) (hi:ow[i]? = some true) :
 ∃ a xs,σ[i]? = some (some (.ref a))∧H a=some (.lst xs)∧Seps G H O (2 * i) ds 0 [] xs ∧
  ∀ ds' xs',Seps G H O (2 * i) ds' 0 [] xs'→RO C ow G (ρ.set i (some (.lst ds'))) σ (upd H a (.lst xs')) pd O:=by
 obtain ⟨v,hv,s⟩:=h.sl i _ e
 rw [if_pos hi,Sep] at s
 obtain ⟨a,xs,rfl,hO,hH,hs⟩:=s
 refine ⟨a,xs,hv,hH,hs,fun ds' xs' hs'=>?_⟩
 obtain ⟨g0,_,nw⟩:=h.og a _ hO
 have ne:∀ b l π,O b=some (l,π)→(l≠2 * i∨π≠[])→b≠a:=fun b l π q n z=>by
  subst z
  rw [hO] at q
  obtain ⟨q1,q2⟩:=Prod.mk.inj (Option.some.inj q)
  rcases n with n | n
  ·exact n q1.symm
  ·exact n q2.symm
 refine ⟨by simp [h.len],?_,h.g0,h.gn,?_,h.cok,?_,?_,?_,h.mp,?_,?_,h.np⟩
 ·intro b o q
  rw [ax (fun z=>by rw [z,g0] at q; cases q)]; exact h.gh _ _ q
 ·intro b l q
  obtain ⟨q1,⟨ys,q2⟩,q3⟩:=h.og b l q
  refine ⟨q1,?_,q3⟩
  by_cases z:b=a
  ·subst z; exact ⟨.inl _,aM⟩
  ·rw [ax z]; exact ⟨ys,q2⟩
 ·intro b o q n t
  by_cases z:b=a
  ·subst z
   rcases nw with nw | ⟨_,nw⟩
   ·rw [nw] at q; cases q
   ·rw [nw] at n; cases n
  ·rw [ax z]; exact h.fr b o q n t
 ·intro b ps q e
  by_cases z:b=a
  ·subst z; rw [aM] at e; cases e
  ·rw [ax z] at e; exact h.ft b ps q e
 ·intro b q
  by_cases z:b=a
  ·subst z; rw [aM] at q; cases q
  ·rw [ax z] at q; exact h.al b q
 ·intro j u q
  rcases gk q with ⟨rfl,z⟩ | ⟨z,q'⟩
  ·cases z
   refine ⟨_,hv,?_⟩
   rw [if_pos hi,Sep]
   exact ⟨a,xs',rfl,hO,aM,hs'.keep (fun _ _ z=>z) fun b τ hτ q=>⟨q,ax (ne b _ _ q (.inr (by simpa using hτ)))⟩⟩
  ·obtain ⟨w,h1,h2⟩:=h.sl j u q'
   refine ⟨w,h1,?_⟩
   split at h2
   ·rename_i c; rw [if_pos c]; exact h2.keep (fun _ _ z=>z) fun b τ q=>⟨q,ax (ne b _ _ q (.inl (by omega)))⟩
   ·rename_i c; rw [if_neg c]; exact h2
 ·exact cu.keep (fun _ _ z=>z) (fun b j π hj q=>⟨q,ax (ne b _ _ q (.inl (fun z=>cD z.symm)))⟩) h.pn
theorem RO.join {d:D} {v:V} (h:RO C ow G ρ σ H ((d,v) :: pd) O) (i n:Nat) (hn:C.np≤pd.length) :
 ∃ O',RO C ow G ρ σ H pd O'∧Sep G H O' (2 * i) d [n] v∧∀ (l:Nat) ds k π xs,l≠2 * pd.length + 1→Seps G H O l ds k π xs→Seps G H O' l ds k π xs:=by
 refine ⟨lab (fun l π=>if l=2 * pd.length + 1 then (2 * i,π++[n]) else (l,π)) O,⟨h.len,h.gh,h.g0,h.gn,?_,h.cok,h.fr,h.ft,h.al,h.mp,?_,?_,hn⟩,?_,?_⟩
 ·intro a m e
  obtain ⟨l,π,e1,rfl⟩:=gr e
  obtain ⟨q1,q2,q3⟩:=h.og a _ e1
  refine ⟨q1,q2,?_⟩
  try dsimp only
  split
  ·rename_i z
   rcases q3 with q3 | ⟨_,q3⟩
   ·exact .inl q3
   ·rcases h.cok _ _ _ q3 with ⟨k,_,q4,_⟩ | ⟨k,q4,q5⟩
    ·exact absurd (q4.symm.trans z) cD
    ·omega
  ·exact q3
 ·intro j e q
  obtain ⟨u,h1,h2⟩:=h.sl j e q
  refine ⟨u,h1,?_⟩
  split at h2
  ·rename_i c; rw [if_pos c]; exact h2.keep (fun _ _ z=>z) fun a τ q=>⟨by rw [bM q,if_neg cD],rfl⟩
  ·rename_i c; rw [if_neg c]; exact h2
 ·exact cu.keep (fun _ _ z=>z) (fun a j π hj q=>⟨by rw [bM q,if_neg (by omega)],rfl⟩) h.pn.2
 ·exact Sep.map (f:=fun π=>π++[n]) (fun _ _ z=>z) (fun _ _=>rfl) d [] v (fun a τ q=>⟨by rw [bM q,if_pos rfl],rfl⟩) h.pn.1
 ·intro l ds k π xs hl hs
  exact hs.keep (fun _ _ z=>z) fun a τ _ q=>⟨by rw [bM q,if_neg hl],rfl⟩
end
def bor (js:List Nat) (ow:List Bool):List Bool:=ow.mapIdx fun j b=>b && !js.contains j
theorem cA {js:List Nat} {ow:List Bool} {j:Nat}:(bor js ow)[j]? = some true↔ow[j]? = some true∧js.contains j=false:=by
 unfold bor
 rw [List.getElem?_mapIdx]
 cases e:ow[j]? with
 | none=>simp
 | some b=>cases b <;> simp
def kS (ρ:DSt) (js:List Nat) (n l:Nat):Bool:=if l % 2=0 then (match ρ[l / 2]? with | some (some _)=>!js.contains (l / 2) | _=>false) else decide (l / 2<n)
def iF (js:List Nat) (l:Nat):Bool:=decide (l % 2=0)&&js.contains (l / 2)
def di (f:Nat→Bool) (O:Own):Own:=fun a=>match O a with
 | some m=>if f m.1=true then some m else none
 | none=>none
theorem fK {f:Nat→Bool} {O:Own} {a:Addr} {m:Nat×List Nat} (h:O a=some m) (hf:f m.1=true):di f O a=some m:=by unfold di; rw [h]; show (if _ then _ else _)=_; rw [if_pos hf]
theorem df {f:Nat→Bool} {O:Own} {a:Addr} {m:Nat×List Nat} (h:di f O a=some m):O a=some m∧f m.1=true:=by
 unfold di at h
 cases e:O a with
 | none=>rw [e] at h; cases h
 | some n =>
  rw [e] at h
  change (if _ then _ else _)=_ at h
  split at h
  ·rename_i c; cases h; exact ⟨rfl,c⟩
  ·cases h
def isSm {α:Type}:Option α→Bool
 | some _=>true
 | none=>false
section
variable {C:Ctx} {ow:List Bool} {G:Hp} {ρ:DSt} {σ:St} {H:Hp} {pd:List (D×V)} {O:Own}
def gBor (js:List Nat) (G H:Hp) (O:Own):Hp:=fun a=>if isSm (di (iF js) O a)=true then H a else G a
def cBor (js:List Nat) (G H:Hp) (O:Own) (ρ:DSt) (σ:St) (n:Nat):Ctx:=⟨gBor js G H O,H,di (kS ρ js n) O,σ,n⟩
theorem iR (h:RO C ow G ρ σ H pd O) (js:List Nat):aU G (gBor js G H O):=fun a o e=>by
 show (if _ then _ else _)=_
 split
 ·exact h.gh _ _ e
 ·exact e
theorem gL {α:Type} {o:Option α} (h:isSm o=true):∃ x,o=some x:=by cases o with | none=>cases h | some x=>exact ⟨x,rfl⟩
theorem RO.enter (h:RO C ow G ρ σ H pd O) (js:List Nat):RO (cBor js G H O ρ σ pd.length) (bor js ow) (gBor js G H O) ρ σ H pd (di (kS ρ js pd.length) O):=by
 have sG:=iR h js
 refine ⟨h.len,?_,fun _ _ e=>e,fun _ _ e=>.inl e,?_,?_,fun _ _ e _ _=>e,(fun a ps q e=>by
  show (if _ then _ else _)=_
  split
  ·rename_i c
   obtain ⟨m,c⟩:=gL c
   obtain ⟨_,⟨xs,z⟩,_⟩:=h.og a m (df c).1
   rw [z] at e; exact absurd (Option.some.inj e) (WrO.nt xs _ _)
  ·exact h.ft a ps q e),fun _ e=>e,fun _ _ e=>e,?_,?_,Nat.le_refl _⟩
 ·intro a o e
  change (if _ then _ else _)=_ at e
  split at e
  ·exact e
  ·exact h.gh _ _ e
 ·intro a l e
  obtain ⟨e1,e2⟩:=df e
  obtain ⟨q1,q2,q3⟩:=h.og a l e1
  refine ⟨?_,q2,.inr ⟨l.2,e⟩⟩
  ·show (if _ then _ else _)=_
   rw [if_neg]; exact q1
   intro z
   obtain ⟨m,z⟩:=gL z
   obtain ⟨z1,z2⟩:=df z
   rw [e1] at z1; cases z1
   unfold iF at z2; unfold kS at e2
   simp only [Bool.and_eq_true,decide_eq_true_eq] at z2
   rw [if_pos z2.1] at e2
   split at e2
   ·rw [z2.2] at e2; cases e2
   ·cases e2
 ·intro a l π e
  obtain ⟨e1,e2⟩:=df e
  unfold kS at e2
  split at e2
  ·rename_i c
   split at e2
   ·rename_i d hd
    obtain ⟨v,hv,_⟩:=h.sl _ _ hd
    exact .inl ⟨l / 2,v,by omega,hv⟩
   ·cases e2
  ·exact .inr ⟨l / 2,by omega,of_decide_eq_true e2⟩
 ·intro j d e
  obtain ⟨v,h1,h2⟩:=h.sl j d e
  refine ⟨v,h1,?_⟩
  by_cases c:ow[j]? = some true
  ·rw [if_pos c] at h2
   by_cases c2:js.contains j=true
   ·rw [if_neg (fun z=>by rw [cA] at z; rw [c2] at z; exact absurd z.2 (by decide))]
    refine h2.rep sG.ts d [] v fun a τ xs q e=>?_
    show (if _ then _ else _)=_
    rw [if_pos]; exact e
    rw [fK q]; rfl
    unfold iF
    simp only [Bool.and_eq_true,decide_eq_true_eq]
    exact ⟨by omega,by rw [show 2 * j / 2=j by omega]; exact c2⟩
   ·rw [if_pos (cA.mpr ⟨c,by simpa using c2⟩)]
    refine h2.keep sG.ts fun a τ q=>⟨fK q ?_,rfl⟩
    unfold kS
    show (if 2 * j % 2=0 then _ else _)=_
    rw [if_pos (by omega),show 2 * j / 2=j by omega,e]
    simp at c2 ⊢; exact c2
  ·rw [if_neg c] at h2
   rw [if_neg (fun z=>c (cA.mp z).1)]
   exact h2.mono sG
 ·refine cu.keep sG.ts (fun a j π hj q=>⟨fK q ?_,rfl⟩) h.pn
  unfold kS
  show (if (2 * j + 1) % 2=0 then _ else _)=_
  rw [if_neg (by omega),show (2 * j + 1) / 2=j by omega]
  simpa using hj
def Kp (ow:List Bool) (ρ ρ':DSt):Prop:=∀ (j:Nat),ow[j]?≠some true→ρ'[j]? = ρ[j]?
def kQ (js:List Nat) (O:Own) (G2:Hp):Hp:=fun a=>if isSm (di (iF js) O a)=true then none else G2 a
def uh (js:List Nat) (O O2:Own):Own:=fun a=>match O2 a with
 | some l=>some l
 | none=>di (iF js) O a
theorem RO.leave (h:RO C ow G ρ σ H pd O) {js:List Nat} {G2:Hp} {ρ2:DSt} {H2:Hp} {pd2:List (D×V)} {O2:Own}
 (h2:RO (cBor js G H O ρ σ pd.length) (bor js ow) G2 ρ2 σ H2 pd2 O2) (kp:Kp (bor js ow) ρ ρ2) :
 RO C ow (kQ js O G2) ρ2 σ H2 pd2 (uh js O O2)∧aU G (kQ js O G2)∧cU G2 (kQ js O G2):=by
 have sG:=iR h js
 have dm:∀ a m,di (iF js) O a=some m→O a=some m∧G a=none∧∃ xs:WrO,H a=some xs.ho∧G2 a=some xs.ho:=fun a m e=>by
  obtain ⟨e1,e2⟩:=df e
  obtain ⟨q1,⟨xs,q2⟩,q3⟩:=h.og a m e1
  refine ⟨e1,q1,xs,q2,h2.g0 a _ ?_⟩
  show (if _ then _ else _)=_
  rw [if_pos (by rw [e]; rfl)]; exact q2
 have nd:∀ a,G a≠none→¬ isSm (di (iF js) O a)=true:=fun a g z=>by
  obtain ⟨m,z⟩:=gL z
  exact g (dm a m z).2.1
 have sG3:aU G (kQ js O G2):=fun a o e=>by
  show (if _ then _ else _)=_
  rw [if_neg (nd a (by rw [e]; simp))]
  exact h2.g0 a o (sG a o e)
 have ts:cU G2 (kQ js O G2):=fun a xs e=>by
  show (if _ then _ else _)=_
  rw [if_neg]; exact e
  intro z
  obtain ⟨m,z⟩:=gL z
  obtain ⟨_,_,ys,_,q⟩:=dm a m z
  rw [e] at q; exact (WrO.ne (Option.some.inj q).symm).elim
 have o2:∀ a l,O2 a=some l→uh js O O2 a=some l:=fun a l e=>by show (match O2 a with | some l=>some l | none=>_)=_; rw [e]
 refine ⟨⟨h2.len,?_,fun a o e=>sG3 _ _ (h.g0 _ _ e),?_,?_,h.cok,?_,(fun a ps q e=>by show (if _ then _ else _)=_; split <;> first | rfl | exact h2.ft a ps q e),fun a e=>h.al a (h2.al a e),h.mp,?_,?_,Nat.le_trans h.np h2.np⟩,sG3,ts⟩
 ·intro a o e
  change (if _ then _ else _)=_ at e
  split at e
  ·cases e
  ·exact h2.gh _ _ e
 ·intro a o e
  change (if _ then _ else _)=_ at e
  split at e
  ·cases e
  ·rename_i c
   rcases h2.gn a o e with q | q
   ·change (if _ then _ else _)=_ at q
    rw [if_neg c] at q
    exact h.gn a o q
   ·exact .inr (h.al a q)
 ·intro a l e
  change (match O2 a with | some l=>some l | none=>_)=_ at e
  cases q:O2 a with
  | some l' =>
   rw [q] at e; cases e
   obtain ⟨q1,q2,q3⟩:=h2.og a l q
   refine ⟨by show (if _ then _ else _)=_; split <;> first | rfl | exact q1,q2,?_⟩
   rcases q3 with q3 | ⟨q3,q4⟩
   ·exact .inl (h.al a q3)
   ·exact (h.og a _ (df q4).1).2.2
  | none =>
   rw [q] at e
   change di (iF js) O a=some l at e
   obtain ⟨e1,q1,xs,q2,q3⟩:=dm a l e
   refine ⟨by show (if _ then _ else _)=_; rw [if_pos (by rw [e]; rfl)],⟨xs,h2.gh _ _ q3⟩,(h.og a l e1).2.2⟩
 ·intro a o e n t
  have q:=h.fr a o e n t
  refine h2.fr a o q ?_ t
  show di _ O a=none
  cases z:di (kS ρ js pd.length) O a with
  | none=>rfl
  | some m =>
   obtain ⟨z1,_⟩:=df z
   obtain ⟨_,_,z3⟩:=h.og a m z1
   rcases z3 with z3 | ⟨_,z3⟩
   ·rw [z3] at e; cases e
   ·rw [z3] at n; cases n
 ·intro j d e
  by_cases c:(bor js ow)[j]? = some true
  ·obtain ⟨v,q1,q2⟩:=h2.sl j d e
   rw [if_pos c] at q2
   refine ⟨v,q1,?_⟩
   rw [if_pos (cA.mp c).1]
   exact q2.keep ts fun a τ q=>⟨o2 _ _ q,rfl⟩
  ·rw [kp j c] at e
   obtain ⟨v,q1,q2⟩:=h.sl j d e
   refine ⟨v,q1,?_⟩
   by_cases c2:ow[j]? = some true
   ·rw [if_pos c2] at q2 ⊢
    have hj:js.contains j=true:=by
     cases z:js.contains j with
     | true=>rfl
     | false=>exact absurd (cA.mpr ⟨c2,z⟩) c
    refine q2.keep sG3.ts fun a τ q=>?_
    have dd:di (iF js) O a=some (2 * j,τ++[]):=fK q (by
     unfold iF
     simp only [Bool.and_eq_true,decide_eq_true_eq]
     exact ⟨by omega,by rw [show 2 * j / 2=j by omega]; exact hj⟩)
    obtain ⟨_,_,xs,q4,q5⟩:=dm a _ dd
    refine ⟨?_,by rw [q4]; exact h2.gh _ _ q5⟩
    show (match O2 a with | some l=>some l | none=>_)=_
    cases z:O2 a with
    | some l=>have:=(h2.og a l z).1; rw [q5] at this; cases this
    | none=>exact dd
   ·rw [if_neg c2] at q2 ⊢
    exact q2.mono sG3
 ·exact cu.keep ts (fun a j π hj q=>⟨o2 _ _ q,rfl⟩) h2.pn
end
abbrev ME:=DSt→(D→DSt→Prop)→Prop
abbrev MT:=DSt→(Bool→DSt→Prop)→Prop
abbrev MA:=DSt→(List D→DSt→Prop)→Prop
def SE (ow:List Bool) (t:TE) (m:ME):Prop:=∀ (C:Ctx) (G:Hp) (ρ:DSt) (σ:St) (H:Hp) (pd:List (D×V)) (q:D→DSt→Prop) (Q:VK),R C ow G ρ σ H pd→m ρ q →
 (∀ d ρ' v G' H',q d ρ'→aU G G'→Kp ow ρ ρ'→R C ow G' ρ' σ H' pd→Rep G' d v→Q v H')→t σ H Q
def SF (ow:List Bool) (t:TE) (m:ME):Prop:=∀ (C:Ctx) (G:Hp) (ρ:DSt) (σ:St) (H:Hp) (pd:List (D×V)) (q:D→DSt→Prop) (Q:VK),R C ow G ρ σ H pd→m ρ q →
 (∀ d ρ' v G' H',q d ρ'→aU G G'→Kp ow ρ ρ'→R C ow G' ρ' σ H' ((d,v) :: pd)→Q v H')→t σ H Q
def STe (ow:List Bool) (t:TT) (m:MT):Prop:=∀ (C:Ctx) (G:Hp) (ρ:DSt) (σ:St) (H:Hp) (pd:List (D×V)) (q:Bool→DSt→Prop) (Q:Bool→Hp→Prop),R C ow G ρ σ H pd→m ρ q →
 (∀ b ρ' G' H',q b ρ'→aU G G'→Kp ow ρ ρ'→R C ow G' ρ' σ H' pd→Q b H')→t σ H Q
def SA (ow:List Bool) (n:Nat) (t:TA) (m:MA):Prop:=∀ (C:Ctx) (G:Hp) (ρ:DSt) (σ:St) (H:Hp) (pd:List (D×V)) (q:List D→DSt→Prop) (Q:List V→Hp→Prop),R C ow G ρ σ H pd→m ρ q →
 (∀ ds ρ' vs G' H',q ds ρ'→aU G G'→Kp ow ρ ρ'→R C ow G' ρ' σ H' pd→Reps G' ds vs→vs.length=n→Q vs H')→t σ H Q
structure QE (X:Cx) (ow:List Bool) (e:Expr) (m:ME):Prop where
 ex:∃ t,PE X e t∧SE ow t m
structure QF (X:Cx) (ow:List Bool) (e:Expr) (m:ME):Prop where
 ex:∃ t,PE X e t∧SF ow t m
structure QT (X:Cx) (ow:List Bool) (e:Expr) (m:MT):Prop where
 ex:∃ t,PT X e t∧STe ow t m
structure QW (X:Cx) (ow:List Bool) (e:Expr) (m:MT):Prop where
 ex:∃ t,PW X e t∧STe ow t m
structure QA (X:Cx) (ow:List Bool) (es:List Expr) (m:MA):Prop where
 ex:∃ t,PA X es t∧SA ow es.length t m
theorem Kp.refl {ow:List Bool} {ρ:DSt}:Kp ow ρ ρ:=fun _ _=>rfl
theorem Kp.trans {ow:List Bool} {ρ ρ1 ρ2:DSt} (a:Kp ow ρ ρ1) (b:Kp ow ρ1 ρ2):Kp ow ρ ρ2:=fun j h=>(b j h).trans (a j h)
theorem R.gh {C:Ctx} {ow:List Bool} {G:Hp} {ρ:DSt} {σ:St} {H:Hp} {pd:List (D×V)} (h:R C ow G ρ σ H pd):aU G H:=let ⟨_,h⟩:=h; h.gh
theorem R.np {C:Ctx} {ow:List Bool} {G:Hp} {ρ:DSt} {σ:St} {H:Hp} {pd:List (D×V)} (h:R C ow G ρ σ H pd):C.np≤pd.length:=let ⟨_,h⟩:=h; h.np
section
variable {X:Cx} {ow:List Bool} {a b c e:Expr} {ma mb mc:ME} {pos:Pos}
def mVar (i:Nat):ME:=fun ρ q=>match ρ[i]? with
 | some (some d)=>q d ρ
 | _=>False
theorem aa (i:Nat) {x:Str} (hs:ow[i]?≠some true:=by decide) (hN:X.N[i]? = some x:=by rfl) (hv:Vis X.env.scope x:=by first | exact Or.inl rfl | exact Or.inr (Or.inl rfl) | exact Or.inr (Or.inr rfl)) (hd:(x == ("__debug__":Str))=false:=by decide)
 (hcd:(x == ("__classdict__":Str))=false:=by decide):QE X ow (.Name x pos) (mVar i):=⟨_,eT hN hv hd hcd,fun C G ρ σ H pd q Q r h k=>by
 unfold mVar at h
 split at h
 ·rename_i d e
  obtain ⟨O,ro⟩:=r
  obtain ⟨v,h1,h2⟩:=ro.sl i d e
  rw [if_neg hs] at h2
  exact ⟨v,h1,k d ρ v G H h (aU.refl _) Kp.refl ⟨O,ro⟩ h2⟩
 ·exact h.elim⟩
def mC (d:D):ME:=fun ρ q=>q d ρ
theorem qe_c {v:V} {d:D} (h:PE X e (tC v)) (hr:∀ G,Rep G d v):QE X ow e (mC d):=⟨_,h,fun C G ρ σ H pd q Q r h k=>k d ρ v G H h (aU.refl _) Kp.refl r (hr G)⟩
theorem ac {i j}:QE X ow (.Constant (.int i) j pos) (mC (.int i)):=qe_c vy fun _=>bD _
theorem dW {i j}:QE X ow (.Constant (.bool i) j pos) (mC (.bl i)):=qe_c pe_bl fun _=>cR _
theorem fG {j}:QE X ow (.Constant .none j pos) (mC .non):=qe_c uY fun _=>mG
theorem dU {x:Str} {i:Int} (hg:Gl X x) (hm:∃ t,X.mg x=some (.int i t)) (hd:(x == ("__debug__":Str))=false:=by decide):QE X ow (.Name x pos) (mC (.int i)):=by
 obtain ⟨t,hm⟩:=hm
 exact qe_c (rF (v:=.int i) hg hm ⟨t,rfl⟩ hd) fun _=>bD _
theorem jU {ta tb:TE} (ha:SE ow ta ma) (hb:SE ow tb mb) {C:Ctx} {G:Hp} {ρ:DSt} {σ:St} {H:Hp} {pd:List (D×V)} {f:D→D→DSt→Prop} {Q:V→V→Hp→Prop}
 (r:R C ow G ρ σ H pd) (h:ma ρ fun x ρ1=>mb ρ1 fun y ρ2=>f x y ρ2)
 (k:∀ dx dy ρ' x y G' H',f dx dy ρ'→aU G G'→Kp ow ρ ρ'→R C ow G' ρ' σ H' pd→Rep G' dx x→Rep G' dy y→Q x y H'):ta σ H fun x H1=>tb σ H1 fun y H2=>Q x y H2:=by
 refine ha C G ρ σ H pd _ _ r h fun dx ρ1 x G1 H1 h1 s1 k1 r1 p1=>?_
 refine hb C G1 ρ1 σ H1 pd _ _ r1 h1 fun dy ρ2 y G2 H2 h2 s2 k2 r2 p2=>?_
 exact k dx dy ρ2 x y G2 H2 h2 (s1.trans s2) (k1.trans k2) r2 (Rep.mono s2 _ _ p1) p2
def DOp (r:R2) (f:D→D→(D→Prop)→Prop):Prop:=∀ (G H:Hp) (x y:V) (dx dy:D) (q:D→Prop) (Q:VK),aU G H→Rep G dx x→Rep G dy y→f dx dy q→(∀ d v,q d→Rep G d v→Q v H)→r x y H Q
def mOp (f:D→D→(D→Prop)→Prop) (ma mb:ME):ME:=fun ρ q=>ma ρ fun x ρ1=>mb ρ1 fun y ρ2=>f x y fun d=>q d ρ2
theorem l5 {r:R2} {f:D→D→(D→Prop)→Prop} {ta tb:TE} (hd:DOp r f) (ha:SE ow ta ma) (hb:SE ow tb mb):SE ow (tOp r ta tb) (mOp f ma mb):=fun C G ρ σ H pd q Q hr h k=>by
 refine jU ha hb hr h fun dx dy ρ' x y G' H' hf s kp r' p1 p2=>?_
 exact hd G' H' x y dx dy _ _ r'.gh p1 p2 hf fun d v hq p=>k d ρ' v G' H' hq s kp r' p
theorem aw {op:Operator} {r:R2} {f:D→D→(D→Prop)→Prop} (ho:OpR X (binaryOp op) r) (hd:DOp r f) (ha:QE X ow a ma) (hb:QE X ow b mb):QE X ow (.BinOp a op b pos) (mOp f ma mb):=by
 obtain ⟨ta,pa,sa⟩:=ha; obtain ⟨tb,pb,sb⟩:=hb
 exact ⟨_,pT ho pa pb,l5 hd sa sb⟩
theorem dt {op:CmpOp} {r:R2} {f:D→D→(D→Prop)→Prop} (ho:OpR X (compareOp op) r) (hd:DOp r f) (ha:QE X ow a ma) (hb:QE X ow b mb) (hm:behindInMarks op b=false):QE X ow (.Compare a [op] [b] pos) (mOp f ma mb):=by
 obtain ⟨ta,pa,sa⟩:=ha; obtain ⟨tb,pb,sb⟩:=hb
 exact ⟨_,sF ho pa pb hm,l5 hd sa sb⟩
theorem ap {r:R2} {f:D→D→(D→Prop)→Prop} (ho:IxR X r) (hd:DOp r f) (ha:QE X ow a ma) (hb:QE X ow b mb) (hs:mD b):QE X ow (.Subscript a b pos) (mOp f ma mb):=by
 obtain ⟨ta,pa,sa⟩:=ha; obtain ⟨tb,pb,sb⟩:=hb
 exact ⟨_,pe_ix ho pa pb hs,l5 hd sa sb⟩
def mB (m:ME):MT:=fun ρ q=>m ρ fun d ρ'=>match d with
 | .bl b=>q b ρ'
 | _=>False
theorem cK {G:Hp} {b:Bool} {v:V} (h:Rep G (.bl b) v):v = .bl b:=by rw [Rep] at h; exact h
theorem aD {G:Hp} {b:Int} {v:V} (h:Rep G (.int b) v):v = .int b:=by rw [Rep] at h; exact h
theorem t3 {t:TE} {m:ME} (h:SE ow t m):STe ow (tZ t) (mB m):=fun C G ρ σ H pd q Q r hm k=>by
 refine h C G ρ σ H pd _ _ r hm fun d ρ' v G' H' hq s kp r' p=>?_
 cases d with
 | bl b=>exact ⟨b,cK p,k b ρ' G' H' hq s kp r'⟩
 | _=>exact hq.elim
theorem aX {op:CmpOp} {r:R2} {f:D→D→(D→Prop)→Prop} (ho:OpR X (compareOp op) r) (hd:DOp r f) (ha:QE X ow a ma) (hb:QE X ow b mb) (hm:behindInMarks op b=false):QT X ow (.Compare a [op] [b] pos) (mB (mOp f ma mb)):=by
 obtain ⟨ta,pa,sa⟩:=ha; obtain ⟨tb,pb,sb⟩:=hb
 exact ⟨_,su ho pa pb hm,t3 (l5 hd sa sb)⟩
theorem bf (h:QE X ow e ma) (he:∀ whole,isTrue e X.env whole=(do let v ← whole; standAt e.pos; holding [v] (truthy v)):=by intro _; rfl):QT X ow e (mB ma):=by
 obtain ⟨ta,pa,sa⟩:=h
 exact ⟨_,xc pa he,t3 sa⟩
def mTru (m:ME):MT:=fun ρ q=>m ρ fun d ρ'=>match d with
 | .bl b=>q b ρ'
 | .lst ds=>q (!ds.isEmpty) ρ'
 | .tup ds=>q (!ds.isEmpty) ρ'
 | .int i=>q (i != 0) ρ'
 | .non=>q false ρ'
 | _=>False
theorem n4 {α β:Type} {xs:List α} {ds:List β} (h:xs.length=ds.length):(!xs.isEmpty) = !ds.isEmpty:=by
 cases xs <;> cases ds <;> simp_all
theorem qA (h:QE X ow e ma) (he:∀ whole,isTrue e X.env whole=(do let v ← whole; standAt e.pos; holding [v] (truthy v)):=by intro _; rfl):QT X ow e (mTru ma):=by
 obtain ⟨ta,pa,sa⟩:=h
 refine ⟨_,qI pa he,fun C G ρ σ H pd q Q r hm k=>?_⟩
 refine sa C G ρ σ H pd _ _ r hm fun d ρ' v G' H' hq s kp r' p=>?_
 cases d with
 | bl b=>exact ⟨b,by rw [cK p]; rfl,k b ρ' G' H' hq s kp r'⟩
 | int i=>exact ⟨_,by rw [aD p]; rfl,k _ ρ' G' H' hq s kp r'⟩
 | non=>exact ⟨_,by rw [Rep] at p; rw [p]; rfl,k _ ρ' G' H' hq s kp r'⟩
 | lst ds=>rw [Rep] at p; obtain ⟨a,xs,rfl,h1,h2⟩:=p; exact ⟨_,.inl ⟨xs,SqL.of (r'.gh _ _ h1),(n4 h2.length).symm⟩,k _ ρ' G' H' hq s kp r'⟩
 | tup ds=>rw [Rep] at p; obtain ⟨a,xs,rfl,h1,h2⟩:=p; exact ⟨_,.inr (.inl ⟨xs,SqT.of (r'.gh _ _ h1),(n4 h2.length).symm⟩),k _ ρ' G' H' hq s kp r'⟩
 | _=>exact hq.elim
def mIf {α:Type} (m:MT) (x y:DSt→(α→DSt→Prop)→Prop):DSt→(α→DSt→Prop)→Prop:=fun ρ q=>m ρ fun b ρ1=>if b=true then x ρ1 q else y ρ1 q
def pv (b:Bool):MT:=fun ρ q=>q b ρ
theorem t7 {t t1 t2:TT} {m m1 m2:MT} (h:STe ow t m) (h1:STe ow t1 m1) (h2:STe ow t2 m2):STe ow (fun σ H Q=>t σ H fun c H1=>if c=true then t1 σ H1 Q else t2 σ H1 Q) (mIf m m1 m2):=fun C G ρ σ H pd q Q r hm k=>by
 refine h C G ρ σ H pd _ _ r hm fun b ρ' G' H' hq s kp r'=>?_
 cases b with
 | true=>rw [if_pos rfl] at hq ⊢; exact h1 C G' ρ' σ H' pd _ _ r' hq fun b ρ2 G2 H2 hq2 s2 kp2 r2=>k b ρ2 G2 H2 hq2 (s.trans s2) (kp.trans kp2) r2
 | false=>rw [if_neg (by decide)] at hq ⊢; exact h2 C G' ρ' σ H' pd _ _ r' hq fun b ρ2 G2 H2 hq2 s2 kp2 r2=>k b ρ2 G2 H2 hq2 (s.trans s2) (kp.trans kp2) r2
theorem k8 (b:Bool):STe ow (fun _ H Q=>Q b H) (pv b):=fun C G ρ σ H pd q Q r hm k=>k b ρ G H hm (aU.refl _) Kp.refl r
variable {mt mu mv:MT} {rest:List Expr}
theorem sm (h:QT X ow a mt):QW X ow (.BoolOp .And [a] pos) mt:=by obtain ⟨t,p,s⟩:=h; exact ⟨_,sh p,s⟩
theorem d6 (h:QT X ow a mt):QW X ow (.BoolOp .Or [a] pos) mt:=by obtain ⟨t,p,s⟩:=h; exact ⟨_,vA p,s⟩
theorem uD (h:QT X ow a mt) (h2:QW X ow (.BoolOp .And (b :: rest) pos) mu):QW X ow (.BoolOp .And (a :: b :: rest) pos) (mIf mt mu (pv false)):=by
 obtain ⟨t,p,s⟩:=h; obtain ⟨t2,p2,s2⟩:=h2; exact ⟨_,vK p p2,t7 s s2 (k8 false)⟩
theorem fW (h:QT X ow a mt) (h2:QW X ow (.BoolOp .Or (b :: rest) pos) mu):QW X ow (.BoolOp .Or (a :: b :: rest) pos) (mIf mt (pv true) mu):=by
 obtain ⟨t,p,s⟩:=h; obtain ⟨t2,p2,s2⟩:=h2; exact ⟨_,pw_or p p2,t7 s (k8 true) s2⟩
theorem QW.qt (h:QW X ow e mt):QT X ow e mt:=by obtain ⟨t,p,s⟩:=h; exact ⟨_,p.pt,s⟩
def mNot (m:MT):MT:=fun ρ q=>m ρ fun b ρ'=>q (!b) ρ'
theorem bv (h:QT X ow a mt):QT X ow (.UnaryOp .Not a pos) (mNot mt):=by
 obtain ⟨t,p,s⟩:=h
 exact ⟨_,we p,fun C G ρ σ H pd q Q r hm k=>s C G ρ σ H pd _ _ r hm fun b ρ' G' H' hq s kp r'=>k _ ρ' G' H' hq s kp r'⟩
def mV (m:MT):ME:=fun ρ q=>m ρ fun b ρ'=>q (.bl b) ρ'
theorem eJ {op} (h:QE X ow a ma):QE X ow (.BoolOp op [a] pos) ma:=by obtain ⟨t,p,s⟩:=h; exact ⟨_,u5 p,s⟩
theorem wG (h:QE X ow a ma):QE X ow (.UnaryOp .Not a pos) (mV (mNot (mB ma))):=by
 obtain ⟨t,p,s⟩:=h
 refine ⟨_,vT p,fun C G ρ σ H pd q Q r hm k=>?_⟩
 refine s C G ρ σ H pd _ _ r hm fun d ρ' v G' H' hq s kp r' p=>?_
 cases d with
 | bl b=>exact ⟨b,cK p,k _ ρ' _ G' H' hq s kp r' (cR _)⟩
 | _=>exact hq.elim
theorem de (h:QE X ow a ma) (h2:QE X ow (.BoolOp .And (b :: rest) pos) mb):QE X ow (.BoolOp .And (a :: b :: rest) pos) (mIf (mB ma) mb (mC (.bl false))):=by
 obtain ⟨t,p,s⟩:=h; obtain ⟨t2,p2,s2⟩:=h2
 refine ⟨_,uK p p2,fun C G ρ σ H pd q Q r hm k=>?_⟩
 refine s C G ρ σ H pd _ _ r hm fun d ρ' v G' H' hq s kp r' p=>?_
 cases d with
 | bl b =>
  refine ⟨b,cK p,?_⟩
  change (if b=true then _ else _) at hq
  cases b with
  | true=>rw [if_pos rfl] at hq ⊢; exact s2 C G' ρ' σ H' pd _ _ r' hq fun d ρ2 v G2 H2 hq2 z2 kp2 r2 p2=>k d ρ2 v G2 H2 hq2 (s.trans z2) (kp.trans kp2) r2 p2
  | false=>rw [if_neg (by decide)] at hq ⊢; exact k _ ρ' _ G' H' hq s kp r' (cR _)
 | _=>exact hq.elim
theorem ij (h:QT X ow c mt) (ha:QE X ow a ma) (hb:QE X ow b mb):QE X ow (.IfExp c a b pos) (mIf mt ma mb):=by
 obtain ⟨t,p,s⟩:=h; obtain ⟨t1,p1,s1⟩:=ha; obtain ⟨t2,p2,s2⟩:=hb
 refine ⟨_,oY p p1 p2,fun C G ρ σ H pd q Q r hm k=>?_⟩
 refine s C G ρ σ H pd _ _ r hm fun d ρ' G' H' hq s kp r'=>?_
 cases d with
 | true=>rw [if_pos rfl] at hq ⊢; exact s1 C G' ρ' σ H' pd _ _ r' hq fun d ρ2 v G2 H2 hq2 z2 kp2 r2 p2=>k d ρ2 v G2 H2 hq2 (s.trans z2) (kp.trans kp2) r2 p2
 | false=>rw [if_neg (by decide)] at hq ⊢; exact s2 C G' ρ' σ H' pd _ _ r' hq fun d ρ2 v G2 H2 hq2 z2 kp2 r2 p2=>k d ρ2 v G2 H2 hq2 (s.trans z2) (kp.trans kp2) r2 p2
theorem QF.qe (h:QF X ow e ma):QE X ow e ma:=by
 obtain ⟨t,p,s⟩:=h
 refine ⟨_,p,fun C G ρ σ H pd q Q r hm k=>s C G ρ σ H pd _ _ r hm fun d ρ' v G' H' hq s kp r'=>?_⟩
 obtain ⟨O,r'⟩:=r'
 obtain ⟨G2,s2,r2,p2⟩:=r'.share r.np
 exact k d ρ' v G2 H' hq (s.trans s2) kp r2 p2
def mImm (m:ME):ME:=fun ρ q=>m ρ fun d ρ'=>imm d=true∧q d ρ'
theorem QE.qf (h:QE X ow e ma):QF X ow e (mImm ma):=by
 obtain ⟨t,p,s⟩:=h
 refine ⟨_,p,fun C G ρ σ H pd q Q r hm k=>s C G ρ σ H pd _ _ r hm fun d ρ' v G' H' hq s kp r' p=>?_⟩
 obtain ⟨O,r'⟩:=r'
 exact k d ρ' v G' H' hq.2 s kp ⟨O,r'.len,r'.gh,r'.g0,r'.gn,r'.og,r'.cok,r'.fr,r'.ft,r'.al,r'.mp,r'.sl,⟨p.sep d [] v hq.1,r'.pn⟩,Nat.le_succ_of_le r'.np⟩
theorem lO {js:List Nat} {ρ ρ':DSt} (h:Kp (bor js ow) ρ ρ'):Kp ow ρ ρ':=fun j n=>h j fun z=>n (cA.mp z).1
theorem QE.bor (js:List Nat) (h:QE X (bor js ow) e ma):QE X ow e (mImm ma):=by
 obtain ⟨t,p,s⟩:=h
 refine ⟨_,p,fun C G ρ σ H pd q Q r hm k=>?_⟩
 obtain ⟨O,r⟩:=r
 refine s _ _ ρ σ H pd _ _ ⟨_,r.enter js⟩ hm fun d ρ' v G' H' hq s kp r' p=>?_
 obtain ⟨O',r'⟩:=r'
 obtain ⟨r2,s2,ts⟩:=r.leave r' kp
 exact k d ρ' v _ H' hq.2 s2 (lO kp) ⟨_,r2⟩ (p.imms ts d v hq.1)
theorem QF.bor (js:List Nat) (h:QF X (bor js ow) e ma):QF X ow e ma:=by
 obtain ⟨t,p,s⟩:=h
 refine ⟨_,p,fun C G ρ σ H pd q Q r hm k=>?_⟩
 obtain ⟨O,r⟩:=r
 refine s _ _ ρ σ H pd _ _ ⟨_,r.enter js⟩ hm fun d ρ' v G' H' hq s kp r'=>?_
 obtain ⟨O',r'⟩:=r'
 obtain ⟨r2,s2,ts⟩:=r.leave r' kp
 exact k d ρ' v _ H' hq s2 (lO kp) ⟨_,r2⟩
theorem QT.bor (js:List Nat) (h:QT X (bor js ow) e mt):QT X ow e mt:=by
 obtain ⟨t,p,s⟩:=h
 refine ⟨_,p,fun C G ρ σ H pd q Q r hm k=>?_⟩
 obtain ⟨O,r⟩:=r
 refine s _ _ ρ σ H pd _ _ ⟨_,r.enter js⟩ hm fun d ρ' G' H' hq s kp r'=>?_
 obtain ⟨O',r'⟩:=r'
 obtain ⟨r2,s2,ts⟩:=r.leave r' kp
 exact k d ρ' _ H' hq s2 (lO kp) ⟨_,r2⟩
def nb:MA:=fun ρ q=>q [] ρ
def fM (m:ME) (r:MA):MA:=fun ρ q=>m ρ fun d ρ1=>r ρ1 fun ds ρ2=>q (d :: ds) ρ2
variable {mr:MA} {es:List Expr}
theorem ao:QA X ow [] nb:=⟨_,eK,fun C G ρ σ H pd q Q r h k=>k [] ρ [] G H h (aU.refl _) Kp.refl r ck rfl⟩
theorem ae (ha:QE X ow e ma) (hr:QA X ow es mr) (hs:starEach (e :: es) X.env=(false,eval e X.env) :: starEach es X.env:=by rfl):QA X ow (e :: es) (fM ma mr):=by
 obtain ⟨t,p,s⟩:=ha; obtain ⟨t2,p2,s2⟩:=hr
 refine ⟨_,cq p p2 hs,fun C G ρ σ H pd q Q r hm k=>?_⟩
 refine s C G ρ σ H pd _ _ r hm fun d ρ' v G' H' hq z kp r' p=>?_
 refine s2 C G' ρ' σ H' pd _ _ r' hq fun ds ρ2 vs G2 H2 hq2 z2 kp2 r2 p2 hl=>?_
 exact k (d :: ds) ρ2 (v :: vs) G2 H2 hq2 (z.trans z2) (kp.trans kp2) r2 (b_ (Rep.mono z2 _ _ p) p2) (by simp [hl])
def mTup (m:MA):ME:=fun ρ q=>m ρ fun ds ρ'=>q (.tup ds) ρ'
def mLst (m:MA):ME:=fun ρ q=>m ρ fun ds ρ'=>q (.lst ds) ρ'
def mLstI (m:MA):ME:=fun ρ q=>m ρ fun ds ρ'=>imms ds=true∧q (.lst ds) ρ'
theorem dG {n:Nat} (h:n≤1000):n≤sizeLine:=Nat.le_of_lt (d4 h)
theorem cz {x1} (h:QA X ow es mr) (hl:es.length≤1000:=by decide):QE X ow (.Tuple es x1 pos) (mTup mr):=by
 obtain ⟨t,p,s⟩:=h
 refine ⟨_,oM p,fun C G ρ σ H pd q Q r hm k=>s C G ρ σ H pd _ _ r hm fun ds ρ' vs G' H' hq z kp r' p hn=>⟨dG (by omega),fun a ha=>?_⟩⟩
 obtain ⟨O,r'⟩:=r'
 obtain ⟨r2,s2⟩:=r'.new ha (.tup vs)
 exact k _ ρ' _ _ _ hq (z.trans s2) kp ⟨O,r2⟩ (mx aM (Reps.mono s2 _ _ p))
theorem bX (h:QA X ow es mr) (hl:es.length≤1000:=by decide):QE X ow (.List es pos) (mLst mr):=by
 obtain ⟨t,p,s⟩:=h
 refine ⟨_,lw p,fun C G ρ σ H pd q Q r hm k=>s C G ρ σ H pd _ _ r hm fun ds ρ' vs G' H' hq z kp r' p hn=>⟨dG (by omega),fun a ha=>?_⟩⟩
 obtain ⟨O,r'⟩:=r'
 obtain ⟨r2,s2⟩:=r'.new ha (.lst vs)
 exact k _ ρ' _ _ _ hq (z.trans s2) kp ⟨O,r2⟩ (fL aM (Reps.mono s2 _ _ p))
theorem eh (h:QA X ow es mr) (hl:es.length≤1000:=by decide):QF X ow (.List es pos) (mLstI mr):=by
 obtain ⟨t,p,s⟩:=h
 refine ⟨_,lw p,fun C G ρ σ H pd q Q r hm k=>s C G ρ σ H pd _ _ r hm fun ds ρ' vs G' H' hq z kp r' p hn=>⟨dG (by omega),fun a ha=>?_⟩⟩
 obtain ⟨O,r'⟩:=r'
 exact k _ ρ' _ _ _ hq.2 z kp (r'.newL ha hq.1 p)
def gE (r:List V→Hp→VK→Prop) (f:List D→(D→Prop)→Prop):Prop:=∀ (G H:Hp) (xs:List V) (ds:List D) (q:D→Prop) (Q:VK),aU G H→Reps G ds xs→f ds q→(∀ d v,q d→Rep G d v→Q v H)→r xs H Q
def mCB (f:List D→(D→Prop)→Prop) (m:MA):ME:=fun ρ q=>m ρ fun ds ρ'=>f ds fun d=>q d ρ'
theorem t9 {r:List V→Hp→VK→Prop} {f:List D→(D→Prop)→Prop} {t:TA} {n:Nat} (hd:gE r f) (s:SA ow n t mr):SE ow (tCB r t) (mCB f mr):=fun C G ρ σ H pd q Q hr hm k =>
 s C G ρ σ H pd _ _ hr hm fun ds ρ' vs G' H' hq z kp r' p hn=>hd G' H' vs ds _ _ r'.gh p hq fun d v hq p=>k d ρ' v G' H' hq z kp r' p
variable {x:Str} {p':Pos}
theorem aE {id:String} {r:List V→Hp→VK→Prop} {f:List D→(D→Prop)→Prop} (hc:dl X (.builtin id) r) (hd:gE r f) (hg:Gl X x) (hm:X.mg x=none) (hv:bootBuiltins x=some (.builtin id)) (ha:QA X ow (e :: es) mr) (hn:x ≠ "__name__":=by decide) (hdb:(x == ("__debug__":Str))=false:=by decide)
 (he:starEach (e :: es) X.env=(false,eval e X.env) :: starEach es X.env:=by rfl) (hpl:(backTo pos (starEach es X.env)).any (·.1)=false:=by rfl):QE X ow (.Call (.Name x p') (e :: es) [] pos) (mCB f mr):=by
 obtain ⟨t,p,s⟩:=ha
 exact ⟨_,ie hc hg hm hv p hn hdb he hpl,t9 hd s⟩
theorem nF {id:String} {r:List V→Hp→VK→Prop} {f:List D→(D→Prop)→Prop} (hc:dl X (.type id) r) (hd:gE r f) (hg:Gl X x) (hm:X.mg x=none) (hv:bootBuiltins x=some (.type id)) (ha:QA X ow (e :: es) mr) (hn:x ≠ "__name__":=by decide) (hdb:(x == ("__debug__":Str))=false:=by decide)
 (he:starEach (e :: es) X.env=(false,eval e X.env) :: starEach es X.env:=by rfl) (hpl:(backTo pos (starEach es X.env)).any (·.1)=false:=by rfl):QE X ow (.Call (.Name x p') (e :: es) [] pos) (mCB f mr):=by
 obtain ⟨t,p,s⟩:=ha
 exact ⟨_,gm hc hg hm hv p hn hdb he hpl,t9 hd s⟩
end
def fI (g:Int→Int→Int):D→D→(D→Prop)→Prop:=fun a b q=>match a,b with
 | .int i,.int j=>q (.int (g i j))
 | _,_=>False
def fIC (C:Int→Int→Prop) (g:Int→Int→Int):D→D→(D→Prop)→Prop:=fun a b q=>match a,b with
 | .int i,.int j=>C i j∧q (.int (g i j))
 | _,_=>False
def fB (g:Int→Int→Bool):D→D→(D→Prop)→Prop:=fun a b q=>match a,b with
 | .int i,.int j=>q (.bl (g i j))
 | _,_=>False
theorem dI {g:Int→Int→Int}:DOp (rI0 fun i j=>.int (g i j)) (fI g):=fun G H x y dx dy q Q s p1 p2 hf k=>by
 unfold fI at hf
 split at hf
 ·exact ⟨_,_,aD p1,aD p2,k _ _ hf (bD _)⟩
 ·exact hf.elim
theorem dIC {C:Int→Int→Prop} {g:Int→Int→Int}:DOp (rI C fun i j=>.int (g i j)) (fIC C g):=fun G H x y dx dy q Q s p1 p2 hf k=>by
 unfold fIC at hf
 split at hf
 ·exact ⟨_,_,aD p1,aD p2,hf.1,k _ _ hf.2 (bD _)⟩
 ·exact hf.elim
theorem dB {g:Int→Int→Bool}:DOp (rI0 fun i j=>.bl (g i j)) (fB g):=fun G H x y dx dy q Q s p1 p2 hf k=>by
 unfold fB at hf
 split at hf
 ·exact ⟨_,_,aD p1,aD p2,k _ _ hf (cR _)⟩
 ·exact hf.elim
def eqD (a b:D):Bool:=PyData.eqv (toP a) (toP b)
def okD (a:D):Bool:=SeqAt.shaped (toP a)
def fEq:D→D→(D→Prop)→Prop:=fun a b q=>match a,b with
 | .int i,.int j=>q (.bl (decide (i=j)))
 | a,b=>okD a=true∧okD b=true∧q (.bl (eqD a b))
def fNe:D→D→(D→Prop)→Prop:=fun a b q=>match a,b with
 | .int i,.int j=>q (.bl (!decide (i=j)))
 | a,b=>okD a=true∧okD b=true∧q (.bl (!eqD a b))
theorem mw (i j:Int):eqD (.int i) (.int j)=decide (i=j):=by
 unfold eqD; rw [toP,toP,PyData.eqv]; first | rfl | (rw [Bool.beq_eq_decide_eq])
theorem gJ (i:Int):okD (.int i)=true:=by unfold okD; rw [toP]; rfl
theorem dEq:DOp rEqD fEq:=fun G H x y dx dy q Q s p1 p2 hf k=>by
 have main:okD dx=true∧okD dy=true∧q (.bl (eqD dx dy)):=by
  unfold fEq at hf
  split at hf
  ·exact ⟨gJ _,gJ _,by rw [mw]; exact hf⟩
  ·exact hf
 exact ⟨dx,dy,Rep.mono s _ _ p1,Rep.mono s _ _ p2,main.1,main.2.1,k _ _ main.2.2 (cR _)⟩
theorem dNe:DOp rNeD fNe:=fun G H x y dx dy q Q s p1 p2 hf k=>by
 have main:okD dx=true∧okD dy=true∧q (.bl (!eqD dx dy)):=by
  unfold fNe at hf
  split at hf
  ·exact ⟨gJ _,gJ _,by rw [mw]; exact hf⟩
  ·exact hf
 exact ⟨dx,dy,Rep.mono s _ _ p1,Rep.mono s _ _ p2,main.1,main.2.1,k _ _ main.2.2 (cR _)⟩
def pZ:D→Bool
 | .non=>true
 | _=>false
theorem gC {G:Hp} {d:D} {v:V} (h:Rep G d v):decide (v = .non)=pZ d:=by
 cases d <;> rw [Rep] at h
 case non=>subst h; rfl
 case tup=>obtain ⟨a,xs,rfl,_⟩:=h; rfl
 case lst=>obtain ⟨a,xs,rfl,_⟩:=h; rfl
 case dct=>obtain ⟨a,xs,rfl,_⟩:=h; rfl
 case dic=>obtain ⟨a,xs,rfl,_⟩:=h; rfl
 case scr=>obtain ⟨a,rfl,_⟩:=h; rfl
 case ext=>obtain ⟨a,H0,rfl,_⟩:=h; rfl
 all_goals subst h; rfl
def fIsN:D→D→(D→Prop)→Prop:=fun a b q=>match b with
 | .non=>q (.bl (pZ a))
 | _=>False
def uf:D→D→(D→Prop)→Prop:=fun a b q=>match b with
 | .non=>q (.bl (!pZ a))
 | _=>False
theorem dIsN:DOp (fun x y H Q=>y = .non∧Q (.bl (decide (x = .non))) H) fIsN:=fun G H x y dx dy q Q s p1 p2 hf k=>by
 unfold fIsN at hf
 split at hf
 ·rw [Rep] at p2; exact ⟨p2,by rw [gC p1]; exact k _ _ hf (cR _)⟩
 ·exact hf.elim
theorem tJ:DOp (fun x y H Q=>y = .non∧Q (.bl (!decide (x = .non))) H) uf:=fun G H x y dx dy q Q s p1 p2 hf k=>by
 unfold uf at hf
 split at hf
 ·rw [Rep] at p2; exact ⟨p2,by rw [gC p1]; exact k _ _ hf (cR _)⟩
 ·exact hf.elim
def fIsB:D→D→(D→Prop)→Prop:=fun a b q=>match a,b with
 | .bl x,.bl y=>q (.bl (x == y))
 | _,_=>False
def d3:D→Bool
 | .non=>true
 | .bl _=>true
 | .int _=>true
 | .str _=>true
 | _=>false
def eqF:D→D→Bool
 | .non,.non=>true
 | .bl a,.bl b=>a == b
 | .bl a,.int b=>(if a then 1 else 0) == b
 | .int a,.bl b=>a == (if b then 1 else 0)
 | .int a,.int b=>a == b
 | .str a,.str b=>a == b
 | _,_=>false
def toV:D→V
 | .non=>.non
 | .bl b=>.bl b
 | .int i=>.int i
 | .str x=>.str x
 | _=>.non
theorem eW {G:Hp} {d:D} {v:V} (h:Rep G d v) (f:d3 d=true):v=toV d:=by
 cases d <;> first | (rw [Rep] at h; exact h) | cases f
theorem sO:∀ {a b:D},d3 a=true→d3 b=true→eqV (toV a) (toV b)=eqF a b:=by
 intro a b f g
 cases a <;> cases b <;> first | rfl | exact absurd f Bool.false_ne_true | exact absurd g Bool.false_ne_true
theorem gj {d:D} (f:d3 d=true):fo (toV d)=true:=by
 cases d <;> first | rfl | cases f
theorem dS {G:Hp}:∀ {ds:List D} {xs:List V},Reps G ds xs→ds.all d3=true→xs=ds.map toV
 | [],xs,h,_=>by rw [Reps] at h; subst h; rfl
 | d :: ds,xs,h,f=>by
  rw [Reps] at h
  obtain ⟨v,vs,rfl,h1,h2⟩:=h
  rw [List.all_cons,Bool.and_eq_true] at f
  rw [eW h1 f.1,dS h2 f.2]; rfl
def inD (a:D) (ds:List D):Bool:=ds.any fun y=>eqF y a
theorem jf {a:D} (f:d3 a=true):∀ {ds:List D},ds.all d3=true→inV (toV a) (ds.map toV)=inD a ds
 | [],_=>rfl
 | d :: ds,g=>by
  rw [List.all_cons,Bool.and_eq_true] at g
  have:=jf f g.2
  unfold inV inD at *
  rw [List.map_cons,List.any_cons,List.any_cons,sO g.1 f,this]
theorem iu:∀ {ds:List D},ds.all d3=true→(ds.map toV).all fo=true
 | [],_=>rfl
 | d :: ds,g=>by
  rw [List.all_cons,Bool.and_eq_true] at g
  rw [List.map_cons,List.all_cons,gj g.1,iu g.2]; rfl
def fIn (neg:Bool):D→D→(D→Prop)→Prop:=fun a b q=>match b with
 | .lst ds=>d3 a=true∧ds.all d3=true∧q (.bl (if neg then !inD a ds else inD a ds))
 | .tup ds=>d3 a=true∧ds.all d3=true∧q (.bl (if neg then !inD a ds else inD a ds))
 | _=>False
theorem dIn {K:PySem.W.Frag} {neg:Bool}:DOp (rIn K neg) (fIn neg):=fun G H x y dx dy q Q s p1 p2 hf k=>by
 unfold fIn at hf
 split at hf
 ·rw [Rep] at p2
  obtain ⟨a,xs,rfl,h1,h2⟩:=p2
  obtain ⟨f1,f2,hq⟩:=hf
  refine ⟨a,xs,rfl,.inl (SqL.of (s _ _ h1)),?_,?_,?_⟩
  ·rw [eW p1 f1]; exact gj f1
  ·rw [dS h2 f2]; exact iu f2
  ·rw [eW p1 f1,dS h2 f2,jf f1 f2]; exact k _ _ hq (cR _)
 ·rw [Rep] at p2
  obtain ⟨a,xs,rfl,h1,h2⟩:=p2
  obtain ⟨f1,f2,hq⟩:=hf
  refine ⟨a,xs,rfl,.inr (SqT.of (s _ _ h1)),?_,?_,?_⟩
  ·rw [eW p1 f1]; exact gj f1
  ·rw [dS h2 f2]; exact iu f2
  ·rw [eW p1 f1,dS h2 f2,jf f1 f2]; exact k _ _ hq (cR _)
 ·exact hf.elim
def atD (ds:List D) (i:Int) (q:D→Prop):Prop:=match atI ds i with
 | some d=>q d
 | none=>False
def fIx (K:PySem.W.Frag):D→D→(D→Prop)→Prop:=fun a b q=>match a,b with
 | .lst ds,.int i=>atD ds i q
 | .tup ds,.int i=>atD ds i q
 | .scr φ ns,.int i=>(∀ a H,φ a→SqL K H a (ns.map V.int))∧match atI ns i with
  | some n=>q (.int n)
  | none=>False
 | _,_=>False
theorem eQ {G:Hp}:∀ {ds:List D} {xs:List V} {j:Nat} {d:D},Reps G ds xs→ds[j]? = some d→∃ v,xs[j]? = some v∧Rep G d v
 | [],_,_,_,_,e=>by simp at e
 | d :: ds,xs,0,e,h,q=>by rw [Reps] at h; obtain ⟨v,vs,rfl,h1,_⟩:=h; simp at q; subst q; exact ⟨v,rfl,h1⟩
 | d :: ds,xs,j + 1,e,h,q=>by
  rw [Reps] at h
  obtain ⟨v,vs,rfl,_,h2⟩:=h
  obtain ⟨u,e1,e2⟩:=eQ (j:=j) h2 (by simpa using q)
  exact ⟨u,by simpa using e1,e2⟩
theorem kj {G:Hp} {ds:List D} {xs:List V} {i:Int} {d:D} (h:Reps G ds xs) (e:atI ds i=some d):∃ v,atI xs i=some v∧Rep G d v:=by
 unfold atI at *
 rw [h.length]
 cases q:ixN ds.length i with
 | none=>rw [q] at e; cases e
 | some j=>rw [q] at e; exact eQ h e
theorem gK {α β:Type} {f : α→β} {xs:List α} {i:Int} {x : α} (h:atI xs i=some x):atI (xs.map f) i=some (f x):=by
 unfold atI at *
 rw [List.length_map]
 cases q:ixN xs.length i with
 | none=>rw [q] at h; cases h
 | some j=>rw [q] at h; rw [show (Option.some j).bind _=(xs.map f)[j]? from rfl,List.getElem?_map,show xs[j]? = some x from h]; rfl
theorem dIx {K:PySem.W.Frag}:DOp (rIx K) (fIx K):=fun G H x y dx dy q Q s p1 p2 hf k=>by
 unfold fIx at hf
 split at hf
 ·rw [Rep] at p1
  obtain ⟨a,xs,rfl,h1,h2⟩:=p1
  unfold atD at hf
  split at hf
  ·rename_i e
   obtain ⟨v,e1,e2⟩:=kj h2 e
   exact .inl ⟨a,xs,_,v,rfl,aD p2,SqL.of (s _ _ h1),e1,k _ _ hf e2⟩
  ·exact hf.elim
 ·rw [Rep] at p1
  obtain ⟨a,xs,rfl,h1,h2⟩:=p1
  unfold atD at hf
  split at hf
  ·rename_i e
   obtain ⟨v,e1,e2⟩:=kj h2 e
   exact .inr (.inl ⟨a,xs,_,v,rfl,aD p2,SqT.of (s _ _ h1),e1,k _ _ hf e2⟩)
  ·exact hf.elim
 ·rw [Rep] at p1
  obtain ⟨a,rfl,h1⟩:=p1
  obtain ⟨hk,hf⟩:=hf
  split at hf
  ·rename_i e
   refine .inl ⟨a,_,_,_,rfl,aD p2,?_,gK e,k _ _ hf (bD _)⟩
   rcases h1 with ⟨o,h1⟩ | h1
   ·exact .inl (.inr ⟨o,s _ _ h1⟩)
   ·exact hk a H h1
  ·exact hf.elim
 ·exact hf.elim
def fLen (K:PySem.W.Frag):List D→(D→Prop)→Prop:=fun ds q=>match ds with
 | [.lst ds]=>q (.int ds.length)
 | [.tup ds]=>q (.int ds.length)
 | [.scr φ ns]=>(∀ a H,φ a→SqL K H a (ns.map V.int))∧q (.int ns.length)
 | _=>False
theorem bq {G:Hp} {ds:List D} {v:V} (h:Rep G (.lst ds) v):∃ a xs,v = .ref a∧G a=some (.lst xs)∧Reps G ds xs:=by rw [Rep] at h; exact h
theorem fC {G:Hp} {ds:List D} {v:V} (h:Rep G (.tup ds) v):∃ a xs,v = .ref a∧G a=some (.tup xs)∧Reps G ds xs:=by rw [Rep] at h; exact h
theorem k_ {G:Hp} {φ:Addr→Prop} {ns:List Int} {v:V} (h:Rep G (.scr φ ns) v):∃ a,v = .ref a∧((∃ o,G a=some (.frz o (.lst (ns.map V.int))))∨φ a):=by rw [Rep] at h; exact h
theorem bK {G:Hp} {d:D} {xs:List V} (h:Reps G [d] xs):∃ v,xs=[v]∧Rep G d v:=by
 rw [Reps] at h; obtain ⟨v,vs,rfl,h1,h2⟩:=h; rw [Reps] at h2; subst h2; exact ⟨v,rfl,h1⟩
theorem eI {G:Hp} {d e:D} {xs:List V} (h:Reps G [d,e] xs):∃ v u,xs=[v,u]∧Rep G d v∧Rep G e u:=by
 rw [Reps] at h; obtain ⟨v,vs,rfl,h1,h2⟩:=h; obtain ⟨u,rfl,h3⟩:=bK h2; exact ⟨v,u,rfl,h1,h3⟩
theorem dz {K:PySem.W.Frag}:gE (fun xs H Q=>∃ p ys,xs=[.ref p]∧(SqL K H p ys∨SqT K H p ys)∧Q (.int ys.length) H) (fLen K):=fun G H xs ds q Q s p hf k=>by
 unfold fLen at hf
 split at hf
 ·obtain ⟨v,rfl,p1⟩:=bK p
  obtain ⟨a,xs,rfl,h1,h2⟩:=bq p1
  exact ⟨a,xs,rfl,.inl (SqL.of (s _ _ h1)),by rw [h2.length]; exact k _ _ hf (bD _)⟩
 ·obtain ⟨v,rfl,p1⟩:=bK p
  obtain ⟨a,xs,rfl,h1,h2⟩:=fC p1
  exact ⟨a,xs,rfl,.inr (SqT.of (s _ _ h1)),by rw [h2.length]; exact k _ _ hf (bD _)⟩
 ·obtain ⟨v,rfl,p1⟩:=bK p
  obtain ⟨a,rfl,h1⟩:=k_ p1
  rename_i φ ns
  have hS:SqL K H a (ns.map V.int):=by
   rcases h1 with ⟨o,h1⟩ | h1
   ·exact .inl (.inr ⟨o,s _ _ h1⟩)
   ·exact hf.1 a H h1
  exact ⟨a,_,rfl,.inl hS,by rw [List.length_map]; exact k _ _ hf.2 (bD _)⟩
 ·exact hf.elim
def fMax:List D→(D→Prop)→Prop:=fun ds q=>match ds with
 | [.int i,.int j]=>q (.int (if j > i then j else i))
 | _=>False
def fMin:List D→(D→Prop)→Prop:=fun ds q=>match ds with
 | [.int i,.int j]=>q (.int (if j<i then j else i))
 | _=>False
theorem kT:gE (fun xs H Q=>∃ i j,xs=[.int i,.int j]∧Q (.int (if j > i then j else i)) H) fMax:=fun G H xs ds q Q s p hf k=>by
 unfold fMax at hf
 split at hf
 ·obtain ⟨v,u,rfl,p1,p2⟩:=eI p
  rw [aD p1,aD p2]
  exact ⟨_,_,rfl,k _ _ hf (bD _)⟩
 ·exact hf.elim
theorem dMin:gE (fun xs H Q=>∃ i j,xs=[.int i,.int j]∧Q (.int (if j<i then j else i)) H) fMin:=fun G H xs ds q Q s p hf k=>by
 unfold fMin at hf
 split at hf
 ·obtain ⟨v,u,rfl,p1,p2⟩:=eI p
  rw [aD p1,aD p2]
  exact ⟨_,_,rfl,k _ _ hf (bD _)⟩
 ·exact hf.elim
def uc:List D→(D→Prop)→Prop:=fun ds q=>match ds with
 | [.int i]=>q (.int i)
 | [.bl k]=>q (.int (if k then 1 else 0))
 | _=>False
theorem dInt1:gE (fun xs H Q=>(∃ i,xs=[.int i]∧Q (.int i) H)∨∃ k,xs=[.bl k]∧Q (.int (if k then 1 else 0)) H) uc:=fun G H xs ds q Q s p hf k=>by
 unfold uc at hf
 split at hf
 ·obtain ⟨v,rfl,p1⟩:=bK p
  rw [aD p1]
  exact .inl ⟨_,rfl,k _ _ hf (bD _)⟩
 ·obtain ⟨v,rfl,p1⟩:=bK p
  rw [cK p1]
  exact .inr ⟨_,rfl,k _ _ hf (bD _)⟩
 ·exact hf.elim
section
variable {X:Cx} {ow:List Bool} {a b c e:Expr} {ma mb mc:ME} {pos:Pos} {mr:MA} {es:List Expr}
def mNeg (m:ME):ME:=fun ρ q=>m ρ fun d ρ'=>match d with
 | .int i=>q (.int (-i)) ρ'
 | _=>False
theorem oB (h:QE X ow a ma):QE X ow (.UnaryOp .USub a pos) (mNeg ma):=by
 obtain ⟨t,p,s⟩:=h
 refine ⟨_,pe_un u_ p,fun C G ρ σ H pd q Q r hm k=>s C G ρ σ H pd _ _ r hm fun d ρ' v G' H' hq s kp r' p=>?_⟩
 cases d with
 | int i=>exact ⟨i,aD p,k _ ρ' _ G' H' hq s kp r' (bD _)⟩
 | _=>exact hq.elim
def mIsT (T:String) (m:ME):ME:=fun ρ q=>m ρ fun d ρ'=>match nq d T with
 | some b=>q (.bl b) ρ'
 | none=>False
theorem dJ {T:String} {x y:Str} {p1 p2:Pos} (hg:Gl X x) (hm:X.mg x=none) (hv:bootBuiltins x=some (.builtin "isinstance")) (ha:QE X ow a ma) (ht:PE X (.Name y p2) (tC (.ty T)))
 (hn:x ≠ "__name__":=by decide) (hdb:(x == ("__debug__":Str))=false:=by decide)
 (hs:starEach [.Name y p2] X.env=[(false,eval (.Name y p2) X.env)]:=by rfl)
 (he:starEach [a,.Name y p2] X.env=(false,eval a X.env) :: starEach [.Name y p2] X.env:=by rfl) (hpl:(backTo pos (starEach [.Name y p2] X.env)).any (·.1)=false:=by rfl) :
 QE X ow (.Call (.Name x p1) [a,.Name y p2] [] pos) (mIsT T ma):=by
 obtain ⟨t,p,s⟩:=ha
 refine ⟨_,ie j9 hg hm hv (cq p (cq ht eK hs) he) hn hdb he hpl,fun C G ρ σ H pd q Q r hm k=>s C G ρ σ H pd _ _ r hm fun d ρ' v G' H' hq s kp r' p=>?_⟩
 cases e:nq d T with
 | none=>rw [e] at hq; exact hq.elim
 | some b=>rw [e] at hq; exact ⟨v,T,d,b,rfl,Rep.mono r'.gh _ _ p,e,k _ ρ' _ G' H' hq s kp r' (cR _)⟩
def qS (f g:D→D→(D→Prop)→Prop) (ma mb mc:ME):ME:=fun ρ q=>ma ρ fun x ρ1=>mb ρ1 fun y ρ2=>f x y fun z=>match z with
 | .bl k=>if k=true then mc ρ2 fun w ρ3=>g y w fun d=>q d ρ3 else q (.bl false) ρ2
 | _=>False
theorem ot {r r':R2} {f g:D→D→(D→Prop)→Prop} {ta tb tc:TE} (hf:DOp r f) (hg:DOp r' g) (ha:SE ow ta ma) (hb:SE ow tb mb) (hc:SE ow tc mc):SE ow (q_ r r' ta tb tc) (qS f g ma mb mc):=fun C G ρ σ H pd q Q hr h k=>by
 refine jU (Q:=fun x y H2=>r x y H2 _) ha hb hr h fun dx dy ρ' x y G' H' h1 s kp r1 p1 p2=>?_
 refine hf G' H' x y dx dy _ _ r1.gh p1 p2 h1 fun d v hq p=>?_
 cases d with
 | bl b =>
  refine ⟨b,cK p,?_⟩
  change (if b=true then _ else _) at hq
  cases b with
  | true =>
   rw [if_pos rfl] at hq ⊢
   refine hc C G' ρ' σ H' pd _ _ r1 hq fun dw ρ3 w G3 H3 h3 s3 kp3 r3 p3=>?_
   exact hg G3 H3 y w dy dw _ _ r3.gh (Rep.mono s3 _ _ p2) p3 h3 fun d v hq p=>k d ρ3 v G3 H3 hq (s.trans s3) (kp.trans kp3) r3 p
  | false=>rw [if_neg (by decide)] at hq ⊢; exact k _ ρ' _ G' H' hq s kp r1 (cR _)
 | _=>exact hq.elim
theorem km {op op':CmpOp} {r r':R2} {f g:D→D→(D→Prop)→Prop} (ho:OpR X (compareOp op) r) (ho':OpR X (compareOp op') r') (hf:DOp r f) (hg:DOp r' g) (ha:QE X ow a ma) (hb:QE X ow b mb) (hc:QE X ow c mc)
 (hm:lastMarks [op,op'] [b,c]=false:=by with_unfolding_all rfl):QE X ow (.Compare a [op,op'] [b,c] pos) (qS f g ma mb mc):=by
 obtain ⟨ta,pa,sa⟩:=ha; obtain ⟨tb,pb,sb⟩:=hb; obtain ⟨tc,pc,sc⟩:=hc
 exact ⟨_,oh ho ho' pa pb pc hm,ot hf hg sa sb sc⟩
def fS (r:List V→Hp→VK→Prop) (f:List D→(List D→Prop)→Prop):Prop:=∀ (G H:Hp) (xs:List V) (ds:List D) (q:List D→Prop) (Q:VK),aU G H→Reps G ds xs→f ds q →
 (∀ es ys p,q es→Reps G es ys→H p=none→Q (.ref p) (upd H p (.lst ys)))→r xs H Q
def mNew (f:List D→(List D→Prop)→Prop) (m:MA):ME:=fun ρ q=>m ρ fun ds ρ'=>f ds fun es=>imms es=true∧q (.lst es) ρ'
def rc (f:List D→(List D→Prop)→Prop) (m:MA):ME:=fun ρ q=>m ρ fun ds ρ'=>f ds fun es=>q (.lst es) ρ'
theorem kY {r:List V→Hp→VK→Prop} {f:List D→(List D→Prop)→Prop} {t:TA} {n:Nat} (hd:fS r f) (s:SA ow n t mr):SF ow (fun σ H Q=>t σ H fun xs H1=>r xs H1 Q) (mNew f mr):=fun C G ρ σ H pd q Q hr hm k =>
 s C G ρ σ H pd _ _ hr hm fun ds ρ' vs G' H' hq z kp r' p hn=>hd G' H' vs ds _ _ r'.gh p hq fun es ys a hq p ha=>by
  obtain ⟨O,r'⟩:=r'
  exact k _ ρ' _ _ _ hq.2 z kp (r'.newL ha hq.1 p)
theorem qR {r:List V→Hp→VK→Prop} {f:List D→(List D→Prop)→Prop} {t:TA} {n:Nat} (hd:fS r f) (s:SA ow n t mr):SE ow (fun σ H Q=>t σ H fun xs H1=>r xs H1 Q) (rc f mr):=fun C G ρ σ H pd q Q hr hm k =>
 s C G ρ σ H pd _ _ hr hm fun ds ρ' vs G' H' hq z kp r' p hn=>hd G' H' vs ds _ _ r'.gh p hq fun es ys a hq p ha=>by
  obtain ⟨O,r'⟩:=r'
  obtain ⟨r2,s2⟩:=r'.new ha (.lst ys)
  exact k _ ρ' _ _ _ hq (z.trans s2) kp ⟨O,r2⟩ (fL aM (Reps.mono s2 _ _ p))
theorem oF {ta tb:TE} (ha:SE ow ta ma) (hb:SE ow tb mb):SA ow 2 (fun σ H Q=>ta σ H fun x H1=>tb σ H1 fun y H2=>Q [x,y] H2) (fM ma (fM mb nb)):=fun C G ρ σ H pd q Q hr hm k =>
 jU (Q:=fun x y H2=>Q [x,y] H2) ha hb hr hm fun dx dy ρ' x y G' H' h1 s kp r1 p1 p2=>k [dx,dy] ρ' [x,y] G' H' h1 s kp r1 (b_ p1 (b_ p2 ck)) rfl
theorem fV {G:Hp}:∀ {ds es:List D} {xs ys:List V},Reps G ds xs→Reps G es ys→Reps G (ds++es) (xs++ys)
 | [],es,xs,ys,h,h2=>by rw [Reps] at h; subst h; exact h2
 | d :: ds,es,xs,ys,h,h2=>by rw [Reps] at h; obtain ⟨v,vs,rfl,h1,h3⟩:=h; exact b_ h1 (fV h3 h2)
theorem iT {G:Hp}:∀ {ds:List D} {xs:List V} (n:Nat),Reps G ds xs→Reps G (ds.drop n) (xs.drop n)
 | [],xs,n,h=>by rw [Reps] at h; subst h; simp; exact ck
 | d :: ds,xs,0,h=>h
 | d :: ds,xs,n + 1,h=>by rw [Reps] at h; obtain ⟨v,vs,rfl,h1,h3⟩:=h; exact iT n h3
theorem je {G:Hp}:∀ {ds:List D} {xs:List V} (n:Nat),Reps G ds xs→Reps G (ds.take n) (xs.take n)
 | [],xs,n,h=>by rw [Reps] at h; subst h; simp; exact ck
 | d :: ds,xs,0,h=>by simp; exact ck
 | d :: ds,xs,n + 1,h=>by rw [Reps] at h; obtain ⟨v,vs,rfl,h1,h3⟩:=h; exact b_ h1 (je n h3)
theorem j8 {G:Hp} {ds:List D} {xs:List V} (h:Reps G ds xs):∀ n:Nat,Reps G (List.replicate n ds).flatten (List.replicate n xs).flatten
 | 0=>by simp; exact ck
 | n + 1=>by simp [List.replicate_succ]; exact fV h (j8 h n)
def fCat:List D→(List D→Prop)→Prop:=fun ds q=>match ds with
 | [.lst xs,.lst ys]=>xs.length + ys.length≤1000∧q (xs++ys)
 | _=>False
theorem dCat:fS (fun xs H Q=>∃ x y,xs=[x,y]∧rCat x y H Q) fCat:=fun G H xs ds q Q s p hf k=>by
 unfold fCat at hf
 split at hf
 ·obtain ⟨v,u,rfl,p1,p2⟩:=eI p
  rw [Rep] at p1 p2
  obtain ⟨a1,xs,rfl,h1,h2⟩:=p1
  obtain ⟨a2,ys,rfl,h3,h4⟩:=p2
  exact ⟨_,_,rfl,a1,a2,xs,ys,rfl,rfl,s _ _ h1,s _ _ h3,dG (by rw [h2.length,h4.length]; exact hf.1),fun p hp=>k _ _ p hf.2 (fV h2 h4) hp⟩
 ·exact hf.elim
def fRep:List D→(List D→Prop)→Prop:=fun ds q=>match ds with
 | [.lst xs,.int n]=>(-(2 ^ 63)≤n∧n<2 ^ 63∧xs.length * n.toNat≤1000)∧q (List.replicate n.toNat xs).flatten
 | _=>False
theorem nB:fS (fun xs H Q=>∃ x y,xs=[x,y]∧rRep x y H Q) fRep:=fun G H xs ds q Q s p hf k=>by
 unfold fRep at hf
 split at hf
 ·obtain ⟨v,u,rfl,p1,p2⟩:=eI p
  obtain ⟨a1,xs,rfl,h1,h2⟩:=bq p1
  rw [aD p2]
  exact ⟨_,_,rfl,a1,_,xs,rfl,rfl,s _ _ h1,hf.1.1,hf.1.2.1,dG (by rw [h2.length]; exact hf.1.2.2),fun p hp=>k _ _ p hf.2 (j8 h2 _) hp⟩
 ·exact hf.elim
def mMk (f:List D→(List D→Prop)→Prop) (ma mb:ME):ME:=mNew f (fM ma (fM mb nb))
def mMkS (f:List D→(List D→Prop)→Prop) (ma mb:ME):ME:=rc f (fM ma (fM mb nb))
def R2ok (r:R2):List V→Hp→VK→Prop:=fun xs H Q=>match xs with
 | [x,y]=>r x y H Q
 | _=>False
theorem fS.r2 {r:R2} {f:List D→(List D→Prop)→Prop} (h:fS (fun xs H Q=>∃ x y,xs=[x,y]∧r x y H Q) f):fS (R2ok r) f:=fun G H xs ds q Q s p hf k=>by
 obtain ⟨x,y,rfl,z⟩:=h G H xs ds q Q s p hf k
 exact z
theorem mF {op:Operator} {r:R2} {f:List D→(List D→Prop)→Prop} (ho:OpR X (binaryOp op) r) (hd:fS (fun xs H Q=>∃ x y,xs=[x,y]∧r x y H Q) f) (ha:QE X ow a ma) (hb:QE X ow b mb):QF X ow (.BinOp a op b pos) (mMk f ma mb):=by
 obtain ⟨ta,pa,sa⟩:=ha; obtain ⟨tb,pb,sb⟩:=hb
 exact ⟨tOp r ta tb,pT ho pa pb,kY (r:=R2ok r) hd.r2 (oF sa sb)⟩
theorem jc {op:Operator} {r:R2} {f:List D→(List D→Prop)→Prop} (ho:OpR X (binaryOp op) r) (hd:fS (fun xs H Q=>∃ x y,xs=[x,y]∧r x y H Q) f) (ha:QE X ow a ma) (hb:QE X ow b mb):QE X ow (.BinOp a op b pos) (mMkS f ma mb):=by
 obtain ⟨ta,pa,sa⟩:=ha; obtain ⟨tb,pb,sb⟩:=hb
 exact ⟨tOp r ta tb,pT ho pa pb,qR (r:=R2ok r) hd.r2 (oF sa sb)⟩
def t6:List D→(List D→Prop)→Prop:=fun ds q=>match ds with
 | [.lst xs]=>q xs
 | [.tup xs]=>q xs
 | _=>False
theorem oI {K:PySem.W.Frag}:fS (fun xs H Q=>∃ p ys,xs=[.ref p]∧(SqL K H p ys∨SqT K H p ys)∧∀ l,H l=none→Q (.ref l) (upd H l (.lst ys))) t6:=fun G H xs ds q Q s p hf k=>by
 unfold t6 at hf
 split at hf
 ·obtain ⟨v,rfl,p1⟩:=bK p
  obtain ⟨a,xs,rfl,h1,h2⟩:=bq p1
  exact ⟨a,xs,rfl,.inl (SqL.of (s _ _ h1)),fun l hl=>k _ _ l hf h2 hl⟩
 ·obtain ⟨v,rfl,p1⟩:=bK p
  obtain ⟨a,xs,rfl,h1,h2⟩:=fC p1
  exact ⟨a,xs,rfl,.inr (SqT.of (s _ _ h1)),fun l hl=>k _ _ l hf h2 hl⟩
 ·exact hf.elim
variable {x:Str} {p':Pos}
theorem iY {id:String} {r:List V→Hp→VK→Prop} {f:List D→(List D→Prop)→Prop} (hc:dl X (.type id) r) (hd:fS r f) (hg:Gl X x) (hm:X.mg x=none) (hv:bootBuiltins x=some (.type id)) (ha:QA X ow (e :: es) mr) (hn:x ≠ "__name__":=by decide) (hdb:(x == ("__debug__":Str))=false:=by decide)
 (he:starEach (e :: es) X.env=(false,eval e X.env) :: starEach es X.env:=by rfl) (hpl:(backTo pos (starEach es X.env)).any (·.1)=false:=by rfl):QF X ow (.Call (.Name x p') (e :: es) [] pos) (mNew f mr):=by
 obtain ⟨t,p,s⟩:=ha
 exact ⟨_,gm hc hg hm hv p hn hdb he hpl,kY hd s⟩
theorem lC {id:String} {r:List V→Hp→VK→Prop} {f:List D→(List D→Prop)→Prop} (hc:dl X (.type id) r) (hd:fS r f) (hg:Gl X x) (hm:X.mg x=none) (hv:bootBuiltins x=some (.type id)) (ha:QA X ow (e :: es) mr) (hn:x ≠ "__name__":=by decide) (hdb:(x == ("__debug__":Str))=false:=by decide)
 (he:starEach (e :: es) X.env=(false,eval e X.env) :: starEach es X.env:=by rfl) (hpl:(backTo pos (starEach es X.env)).any (·.1)=false:=by rfl):QE X ow (.Call (.Name x p') (e :: es) [] pos) (rc f mr):=by
 obtain ⟨t,p,s⟩:=ha
 exact ⟨_,gm hc hg hm hv p hn hdb he hpl,qR hd s⟩
theorem h9 {id:String} {r:List V→Hp→VK→Prop} {f:List D→(List D→Prop)→Prop} (hc:dl X (.builtin id) r) (hd:fS r f) (hg:Gl X x) (hm:X.mg x=none) (hv:bootBuiltins x=some (.builtin id)) (ha:QA X ow (e :: es) mr) (hn:x ≠ "__name__":=by decide) (hdb:(x == ("__debug__":Str))=false:=by decide)
 (he:starEach (e :: es) X.env=(false,eval e X.env) :: starEach es X.env:=by rfl) (hpl:(backTo pos (starEach es X.env)).any (·.1)=false:=by rfl):QF X ow (.Call (.Name x p') (e :: es) [] pos) (mNew f mr):=by
 obtain ⟨t,p,s⟩:=ha
 exact ⟨_,ie hc hg hm hv p hn hdb he hpl,kY hd s⟩
def jN (xs:List D) (lo hi:Option Int):List D:=(xs.drop (HT.sIx xs.length 0 lo)).take (HT.sIx xs.length xs.length hi - HT.sIx xs.length 0 lo)
theorem nM {G:Hp} {ds:List D} {xs:List V} (h:Reps G ds xs) (lo hi:Option Int):Reps G (jN ds lo hi) (lN xs lo hi):=by
 unfold jN lN
 rw [h.length]
 exact je _ (iT _ h)
abbrev MO:=DSt→(Option Int→DSt→Prop)→Prop
def SO (ow:List Bool) (t:TO) (m:MO):Prop:=∀ (C:Ctx) (G:Hp) (ρ:DSt) (σ:St) (H:Hp) (pd:List (D×V)) (q:Option Int→DSt→Prop) (Q:Option Int→Hp→Prop),R C ow G ρ σ H pd→m ρ q →
 (∀ b ρ' G' H',q b ρ'→aU G G'→Kp ow ρ ρ'→R C ow G' ρ' σ H' pd→Q b H')→t σ H Q
structure QO (X:Cx) (ow:List Bool) (e:Option Expr) (m:MO):Prop where
 ex:∃ t,PO X e t∧SO ow t m
def sS:MO:=fun ρ q=>q none ρ
def mPart (m:ME):MO:=fun ρ q=>m ρ fun d ρ'=>match d with
 | .int i=>q (some i) ρ'
 | _=>False
theorem so:QO X ow none sS:=⟨_,tF,fun C G ρ σ H pd q Q r h k=>k none ρ G H h (aU.refl _) Kp.refl r⟩
theorem rO (h:QE X ow e ma):QO X ow (some e) (mPart ma):=by
 obtain ⟨t,p,s⟩:=h
 refine ⟨_,tz p,fun C G ρ σ H pd q Q r hm k=>s C G ρ σ H pd _ _ r hm fun d ρ' v G' H' hq s kp r' p=>?_⟩
 cases d with
 | int i=>exact ⟨i,aD p,k _ ρ' G' H' hq s kp r'⟩
 | _=>exact hq.elim
def mSl (m:ME) (ml mh:MO):ME:=fun ρ q=>m ρ fun d ρ1=>ml ρ1 fun lo ρ2=>mh ρ2 fun hi ρ3=>match d with
 | .lst ds=>imms (jN ds lo hi)=true∧q (.lst (jN ds lo hi)) ρ3
 | _=>False
def mSlS (m:ME) (ml mh:MO):ME:=fun ρ q=>m ρ fun d ρ1=>ml ρ1 fun lo ρ2=>mh ρ2 fun hi ρ3=>match d with
 | .lst ds=>q (.lst (jN ds lo hi)) ρ3
 | _=>False
variable {lo hi:Option Expr} {ml mh:MO} {p2:Pos}
theorem nN (h:QE X ow e ma) (hl:QO X ow lo ml) (hh:QO X ow hi mh):QE X ow (.Subscript e (.Slice lo hi none p2) pos) (mSlS ma ml mh):=by
 obtain ⟨t,p,s⟩:=h; obtain ⟨t1,p1,s1⟩:=hl; obtain ⟨t2,p2,s2⟩:=hh
 refine ⟨_,qQ sj p p1 p2,fun C G ρ σ H pd q Q r hm k=>s C G ρ σ H pd _ _ r hm fun d ρ' v G' H' hq z kp r' p=>?_⟩
 refine s1 C G' ρ' σ H' pd _ _ r' hq fun l ρ1 G1 H1 hq1 z1 kp1 r1=>s2 C G1 ρ1 σ H1 pd _ _ r1 hq1 fun u ρ2 G2 H2 hq2 z2 kp2 r2=>?_
 cases d with
 | lst ds =>
  obtain ⟨a,xs,rfl,h1,h2⟩:=bq (Rep.mono (z1.trans z2) _ _ p)
  refine ⟨a,xs,rfl,SqL.of (r2.gh _ _ h1),fun b hb=>?_⟩
  obtain ⟨O,r2⟩:=r2
  obtain ⟨r3,z3⟩:=r2.new hb (.lst (lN xs l u))
  exact k _ ρ2 _ _ _ hq2 (z.trans (z1.trans (z2.trans z3))) (kp.trans (kp1.trans kp2)) ⟨O,r3⟩ (fL aM (Reps.mono z3 _ _ (nM h2 _ _)))
 | _=>exact hq2.elim
end
def cX (f:Nat→Option Nat) (O:Own):Own:=fun a=>match O a with
 | some m=>(f m.1).map fun l=>(l,m.2)
 | none=>none
theorem tH {f:Nat→Option Nat} {O:Own} {a:Addr} {l l':Nat} {π:List Nat} (h:O a=some (l,π)) (hf:f l=some l'):cX f O a=some (l',π):=by unfold cX; rw [h]; show (f l).map _=_; rw [hf]; rfl
theorem gQ {f:Nat→Option Nat} {O:Own} {a:Addr} {l':Nat} {π:List Nat} (h:cX f O a=some (l',π)):∃ l,O a=some (l,π)∧f l=some l':=by
 unfold cX at h
 cases e:O a with
 | none=>rw [e] at h; cases h
 | some m =>
  rw [e] at h
  change (f m.1).map _=_ at h
  cases e2:f m.1 with
  | none=>rw [e2] at h; cases h
  | some l=>rw [e2] at h; cases h; exact ⟨m.1,rfl,e2⟩
theorem nk {f:Nat→Option Nat} {O:Own} {a:Addr} {l:Nat} {π:List Nat} (h:O a=some (l,π)) (hf:f l=none):cX f O a=none:=by unfold cX; rw [h]; show (f l).map _=_; rw [hf]; rfl
def msV:List Bool→List V→List (Option V)
 | b :: bs,v :: vs=>(if b=true then some v else none) :: msV bs vs
 | _,_=>[]
theorem jD:∀ {mu:List Bool} {vs:List V} {k:Nat} {v:V},(msV mu vs)[k]? = some (some v)→mu[k]? = some true∧vs[k]? = some v
 | [],vs,k,v,h=>by simp [msV] at h
 | b :: bs,[],k,v,h=>by simp [msV] at h
 | b :: bs,u :: vs,0,v,h=>by
  simp only [msV,List.getElem?_cons_zero,Option.some.injEq] at h
  split at h
  ·rename_i c; cases h; subst c; exact ⟨rfl,rfl⟩
  ·cases h
 | b :: bs,u :: vs,k + 1,v,h=>by
  simp only [msV,List.getElem?_cons_succ] at h
  simpa using jD h
theorem kU:∀ {mu:List Bool} {vs:List V} {k:Nat} {v:V},mu[k]? = some true→vs[k]? = some v→(msV mu vs)[k]? = some (some v)
 | [],vs,k,v,h,_=>by simp at h
 | b :: bs,[],k,v,_,h=>by simp at h
 | b :: bs,u :: vs,0,v,h,h2=>by simp at h h2; subst h; subst h2; simp [msV]
 | b :: bs,u :: vs,k + 1,v,h,h2=>by simp only [msV,List.getElem?_cons_succ]; exact kU (by simpa using h) (by simpa using h2)
section
variable {C:Ctx} {ow mu:List Bool} {G:Hp} {ρ:DSt} {σ:St} {H:Hp} {pd:List (D×V)} {O:Own} {fin fbk:Nat→Option Nat}
theorem RO.into (ro:RO C ow G ρ σ H pd O) {ds:List D} {vs:List V} (hl:ds.length=vs.length)
 (hs:∀ (k:Nat) d,ds[k]? = some d→∃ v,vs[k]? = some v∧if mu[k]? = some true then ∃ l,Sep G H O l d [] v∧fin l=some (2 * k) else Rep G d v)
 (hc:∀ l l',fin l=some l'→∃ k,l'=2 * k∧mu[k]? = some true∧k<vs.length) :
 RO ⟨G,H,cX fin O,msV mu vs,0⟩ mu G (ds.map some) (vs.map some) H [] (cX fin O):=by
 refine ⟨by simp [hl],ro.gh,fun _ _ e=>e,fun _ _ e=>.inl e,?_,?_,fun _ _ e _ _=>e,ro.ft,fun _ e=>e,?_,?_,trivial,Nat.le_refl _⟩
 ·intro a m e
  obtain ⟨l',π⟩:=m
  obtain ⟨l,e1,e2⟩:=gQ e
  obtain ⟨q1,q2,_⟩:=ro.og a _ e1
  exact ⟨q1,q2,.inr ⟨π,e⟩⟩
 ·intro a l' π e
  obtain ⟨l,e1,e2⟩:=gQ e
  obtain ⟨k,rfl,h2,h3⟩:=hc _ _ e2
  exact .inl ⟨k,vs[k],rfl,kU h2 (List.getElem?_eq_getElem h3)⟩
 ·intro k v e
  rw [List.getElem?_map,(jD e).2]; rfl
 ·intro k d e
  rw [List.getElem?_map] at e
  cases e1:ds[k]? with
  | none=>rw [e1] at e; cases e
  | some d' =>
   rw [e1] at e
   cases e
   obtain ⟨v,h1,h2⟩:=hs k d e1
   refine ⟨v,by rw [List.getElem?_map,h1]; rfl,?_⟩
   split at h2
   ·rename_i c
    rw [if_pos c]
    obtain ⟨l,h3,h4⟩:=h2
    exact h3.keep (fun _ _ z=>z) fun a τ q=>⟨tH q h4,rfl⟩
   ·rename_i c; rw [if_neg c]; exact h2
def pA (fin fbk:Nat→Option Nat) (O O2:Own):Own:=fun a=>match O2 a with
 | some m=>(fbk m.1).map fun l=>(l,m.2)
 | none=>match cX fin O a with
  | some _=>none
  | none=>O a
theorem RO.out (ro:RO C ow G ρ σ H pd O) {vs:List V} {G2:Hp} {ρ2:DSt} {σ2:St} {H2:Hp} {pd2 pd3:List (D×V)} {O2:Own} {ρ3:DSt} {ow2:List Bool} {np:Nat} {mv:List (Option V)}
 (ri:RO ⟨G,H,cX fin O,mv,np⟩ ow2 G2 ρ2 σ2 H2 pd2 O2) (hib:∀ l0 l' l,fin l0=some l'→fbk l'=some l→l=l0)
 (hlen : ρ3.length=σ.length) (hnp:C.np≤pd3.length)
 (hS:∀ (i:Nat) d,ow[i]?≠some true→ρ3[i]? = some (some d)→ρ[i]? = some (some d))
 (hO:∀ (i:Nat) d,ow[i]? = some true→ρ3[i]? = some (some d)→(fin (2 * i)=none∧ρ[i]? = some (some d))∨∃ (k:Nat) (v:V),fbk (2 * k)=some (2 * i)∧ow2[k]? = some true∧ρ2[k]? = some (some d)∧σ[i]? = some (some v)∧σ2[k]? = some (some v))
 (hP:∀ (O3:Own),(∀ a l π,O a=some (l,π)→fin l=none→O3 a=some (l,π)∧H2 a=H a)→(∀ a l l' π,O2 a=some (l',π)→fbk l'=some l→O3 a=some (l,π))→cU G G2→cu G2 H2 O3 pd3) :
 RO C ow G2 ρ3 σ H2 pd3 (pA fin fbk O O2):=by
 have keep:∀ a l π,O a=some (l,π)→fin l=none→pA fin fbk O O2 a=some (l,π)∧H2 a=H a:=fun a l π e hn=>by
  have e1:=nk (f:=fin) e hn
  obtain ⟨g,⟨xs,hx⟩,_⟩:=ro.og a _ e
  have e2:O2 a=none:=by
   cases q:O2 a with
   | none=>rfl
   | some m =>
    obtain ⟨_,_,q3⟩:=ri.og a m q
    rcases q3 with q3 | ⟨π',q3⟩
    ·change H a=none at q3; rw [hx] at q3; cases q3
    ·change cX fin O a=_ at q3; rw [e1] at q3; cases q3
  constructor
  ·show (match O2 a with | some m=>_ | none=>_)=_
   rw [e2]
   show (match cX fin O a with | some _=>none | none=>O a)=_
   rw [e1]; exact e
  ·rw [ri.fr a _ hx e1 (WrO.nt xs),hx]
 have come:∀ a l l' π,O2 a=some (l',π)→fbk l'=some l→pA fin fbk O O2 a=some (l,π):=fun a l l' π e hb=>by
  show (match O2 a with | some m=>_ | none=>_)=_
  rw [e]
  show (fbk l').map _=_
  rw [hb]; rfl
 have ts:cU G G2:=(aU.ts ri.g0)
 refine ⟨hlen,ri.gh,fun a o e=>ri.g0 a o (ro.g0 a o e),?_,?_,ro.cok,?_,ri.ft,fun a e=>ro.al a (ri.al a e),ro.mp,?_,hP _ keep come ts,hnp⟩
 ·intro a o e
  rcases ri.gn a o e with q | q
  ·exact ro.gn a o q
  ·exact .inr (ro.al a q)
 ·intro a m e
  change (match O2 a with | some m=>_ | none=>_)=_ at e
  cases q:O2 a with
  | some m' =>
   rw [q] at e
   change (fbk m'.1).map _=_ at e
   cases q2:fbk m'.1 with
   | none=>rw [q2] at e; cases e
   | some l =>
    rw [q2] at e; cases e
    obtain ⟨g1,g2,g3⟩:=ri.og a m' q
    refine ⟨g1,g2,?_⟩
    rcases g3 with g3 | ⟨π',g3⟩
    ·exact .inl (ro.al a g3)
    ·obtain ⟨l0,g4,g5⟩:=gQ g3
     have:=hib _ _ _ g5 q2
     subst this
     exact (ro.og a _ g4).2.2
  | none =>
   rw [q] at e
   change (match cX fin O a with | some _=>none | none=>O a)=_ at e
   cases q2:cX fin O a with
   | some _=>rw [q2] at e; cases e
   | none =>
    rw [q2] at e
    change O a=some m at e
    obtain ⟨g1,⟨xs,g2⟩,g3⟩:=ro.og a m e
    refine ⟨?_,⟨xs,ri.fr a _ g2 q2 (WrO.nt xs)⟩,g3⟩
    cases z:G2 a with
    | none=>rfl
    | some o =>
     rcases ri.gn a o z with z | z
     ·change G a=_ at z; rw [g1] at z; cases z
     ·change H a=_ at z; rw [g2] at z; cases z
 ·intro a o e n t
  have q:=ro.fr a o e n t
  refine ri.fr a o q ?_ t
  show cX fin O a=none
  cases z:cX fin O a with
  | none=>rfl
  | some m =>
   obtain ⟨l',π⟩:=m
   obtain ⟨l,z1,_⟩:=gQ z
   obtain ⟨_,_,z3⟩:=ro.og a _ z1
   rcases z3 with z3 | ⟨_,z3⟩
   ·rw [z3] at e; cases e
   ·rw [z3] at n; cases n
 ·intro i d e
  by_cases c:ow[i]? = some true
  ·rcases hO i d c e with ⟨h1,h2⟩ | ⟨k,v,h1,h2,h3,h4,h5⟩
   ·obtain ⟨v,q1,q2⟩:=ro.sl i d h2
    rw [if_pos c] at q2
    exact ⟨v,q1,by rw [if_pos c]; exact q2.keep ts fun a τ q=>keep a _ _ q h1⟩
   ·obtain ⟨v',q1,q2⟩:=ri.sl k d h3
    rw [if_pos h2] at q2
    rw [h5] at q1; cases q1
    exact ⟨v,h4,by rw [if_pos c]; exact q2.keep (fun _ _ z=>z) fun a τ q=>⟨come _ _ _ _ q h1,rfl⟩⟩
  ·obtain ⟨v,q1,q2⟩:=ro.sl i d (hS i d c e)
   rw [if_neg c] at q2
   exact ⟨v,q1,by rw [if_neg c]; exact q2.mono ri.g0⟩
end
def Ret (fr:Bool) (C:Ctx) (ow:List Bool) (G:Hp) (ρ:DSt) (σ:St) (H:Hp) (d:D) (v:V):Prop:=if fr=true then R C ow G ρ σ H [(d,v)] else R C ow G ρ σ H []∧Rep G d v
def mus:List Bool→DSt→DSt
 | true :: bs,x :: ρ=>x :: mus bs ρ
 | false :: bs,_ :: ρ=>mus bs ρ
 | true :: bs,[]=>none :: mus bs []
 | false :: bs,[]=>mus bs []
 | [],_=>[]
def cG {α:Type}:Nat→List (Option α)→List (Option α)
 | 0,_=>[]
 | n + 1,x :: ρ=>x :: cG n ρ
 | n + 1,[]=>none :: cG n []
theorem cO {α:Type}:∀ (n:Nat) (ρ:List (Option α)),(cG n ρ).length=n
 | 0,_=>rfl
 | n + 1,x :: ρ=>by simp [cG,cO n ρ]
 | n + 1,[]=>by simp [cG,cO n []]
theorem cQ:∀ (mu:List Bool) (ρ:DSt),mus mu (cG mu.length ρ)=mus mu ρ
 | [],_=>by simp [mus]
 | true :: bs,x :: ρ=>by simp [cG,mus,cQ bs ρ]
 | false :: bs,x :: ρ=>by simp [cG,mus,cQ bs ρ]
 | true :: bs,[]=>by simp [cG,mus,cQ bs []]
 | false :: bs,[]=>by simp [cG,mus,cQ bs []]
theorem jE {α:Type}:∀ {n:Nat} {ρ:List (Option α)} {i:Nat} {d : α},(cG n ρ)[i]? = some (some d)→i<n∧ρ[i]? = some (some d)
 | 0,_,_,_,h=>by simp [cG] at h
 | n + 1,x :: ρ,0,d,h=>by simp [cG] at h; exact ⟨by omega,by simp [h]⟩
 | n + 1,x :: ρ,i + 1,d,h=>by simp only [cG,List.getElem?_cons_succ] at h; obtain ⟨a,b⟩:=jE h; exact ⟨by omega,by simpa using b⟩
 | n + 1,[],0,d,h=>by simp [cG] at h
 | n + 1,[],i + 1,d,h=>by simp only [cG,List.getElem?_cons_succ] at h; obtain ⟨a,b⟩:=jE h; simp at b
theorem jm {α:Type}:∀ {n:Nat} {ρ:List (Option α)} {i:Nat} {d : α},i<n→ρ[i]? = some (some d)→(cG n ρ)[i]? = some (some d)
 | 0,_,_,_,h,_=>by omega
 | n + 1,x :: ρ,0,d,h,e=>by simp at e; simp [cG,e]
 | n + 1,x :: ρ,i + 1,d,h,e=>by simp only [cG,List.getElem?_cons_succ]; exact jm (by omega) (by simpa using e)
 | n + 1,[],i,d,h,e=>by simp at e
abbrev SpD:=List D→(D→DSt→Prop)→Prop
def aW (mu:List Bool) (fr:Bool) (sd:SpD):Sp:=fun vs H Q _=>∃ (C:Ctx) (G:Hp) (ds:List D) (q:D→DSt→Prop),C.np=0∧C.mu=msV mu vs∧R C mu G (ds.map some) (vs.map some) H []∧sd ds q∧mu.length=ds.length ∧
 ∀ d ρ' σ' v G' H',q d (mus mu ρ')→aU G G'→ρ'.length=mu.length→Ret fr C mu G' ρ' σ' H' d v→Q v H'
structure EndsD where
 nx:DSt→Prop
 rt:D→DSt→Prop
 bk:DSt→Prop:=fun _=>False
 ct:DSt→Prop:=fun _=>False
abbrev MS:=EndsD→DSt→Prop
structure Ks (C:Ctx) (ow:List Bool) (fr:Bool) (G:Hp) (n:EndsD) (D:Ends):Prop where
 nx:∀ ρ σ G' H,n.nx ρ→aU G G'→R C ow G' ρ σ H []→D.nx σ H
 bk:∀ ρ σ G' H,n.bk ρ→aU G G'→R C ow G' ρ σ H []→D.bk σ H
 ct:∀ ρ σ G' H,n.ct ρ→aU G G'→R C ow G' ρ σ H []→D.ct σ H
 rt:∀ d ρ σ v G' H,n.rt d ρ→aU G G'→Ret fr C ow G' ρ σ H d v→D.rt v H
theorem Ks.mono {C:Ctx} {ow:List Bool} {fr:Bool} {G G1:Hp} {n:EndsD} {D:Ends} (h:Ks C ow fr G n D) (s:aU G G1):Ks C ow fr G1 n D :=
 ⟨fun ρ σ G' H a b c=>h.nx ρ σ G' H a (s.trans b) c,fun ρ σ G' H a b c=>h.bk ρ σ G' H a (s.trans b) c,fun ρ σ G' H a b c=>h.ct ρ σ G' H a (s.trans b) c,fun d ρ σ v G' H a b c=>h.rt d ρ σ v G' H a (s.trans b) c⟩
def gT (C:Ctx) (mu:List Bool):Prop:=∀ (i:Nat) v,C.mu[i]? = some (some v)→mu[i]? = some true
theorem gT.no {C:Ctx} {mu:List Bool} (h:gT C mu) {i:Nat} (hi:mu[i]?≠some true):∀ v,C.mu[i]?≠some (some v):=fun v e=>hi (h i v e)
structure Md where
 mu:List Bool
 ow:List Bool
 fr:Bool
def SS (M:Md) (t:TS) (m:MS):Prop:=∀ (C:Ctx) (G:Hp) (ρ:DSt) (σ:St) (H:Hp) (n:EndsD) (D:Ends),gT C M.mu→C.np=0→R C M.ow G ρ σ H []→m n ρ→Ks C M.ow M.fr G n D→t D σ H
structure QS (X:Cx) (M:Md) (st:Stmt) (m:MS):Prop where
 ex:∃ t,PS X st t∧SS M t m
structure QSs (X:Cx) (M:Md) (st:List Stmt) (m:MS):Prop where
 ex:∃ t,PSs X st t∧SS M t m
section
variable {X:Cx} {M:Md} {a b c e:Expr} {ma mb mc:ME} {mt:MT} {pos pos':Pos} {st:Stmt} {rest:List Stmt} {m m1 m2:MS}
def mSeq (m1 m2:MS):MS:=fun n ρ=>m1 { n with nx:=fun ρ'=>m2 n ρ' } ρ
def mNext:MS:=fun n ρ=>n.nx ρ
theorem aL:QSs X M [] mNext:=⟨_,sW,fun C G ρ σ H n D hm hn r h k=>k.nx ρ σ G H h (aU.refl _) r⟩
theorem af (h:QS X M st m):QSs X M [st] m:=by obtain ⟨t,p,s⟩:=h; exact ⟨_,sL p,s⟩
theorem ad (h:QS X M st m1) (h2:QSs X M rest m2):QSs X M (st :: rest) (mSeq m1 m2):=by
 obtain ⟨t,p,s⟩:=h; obtain ⟨t2,p2,s2⟩:=h2
 refine ⟨_,qP p p2,fun C G ρ σ H n D hm hn r h k=>s C G ρ σ H _ _ hm hn r h ?_⟩
 exact ⟨fun ρ' σ' G' H' h' z r'=>s2 C G' ρ' σ' H' n D hm hn r' h' (k.mono z),k.bk,k.ct,k.rt⟩
def uU:MS:=fun _ _=>False
theorem bn:QS X M st uU:=⟨_,qN,fun C G ρ σ H n D hm hn r h k=>h.elim⟩
def mIfS (mt:MT) (m1 m2:MS):MS:=fun n ρ=>mt ρ fun b ρ1=>if b=true then m1 n ρ1 else m2 n ρ1
theorem a_ {s1 s2:List Stmt} (h:QT X M.ow c mt) (h1:QSs X M s1 m1) (h2:QSs X M s2 m2):QS X M (.If c s1 s2 pos) (mIfS mt m1 m2):=by
 obtain ⟨t,p,s⟩:=h; obtain ⟨t1,p1,s1⟩:=h1; obtain ⟨t2,p2,s2⟩:=h2
 refine ⟨_,ps_if p p1 p2,fun C G ρ σ H n D hm hn r h k=>s C G ρ σ H [] _ _ r h fun b ρ' G' H' hq z kp r'=>?_⟩
 cases b with
 | true=>rw [if_pos rfl] at hq ⊢; exact s1 C G' ρ' σ H' n D hm hn r' hq (k.mono z)
 | false=>rw [if_neg (by decide)] at hq ⊢; exact s2 C G' ρ' σ H' n D hm hn r' hq (k.mono z)
def mRet (m:ME):MS:=fun n ρ=>m ρ n.rt
theorem aJ (h:QE X M.ow e ma) (hf:M.fr=false:=by rfl):QS X M (.Return (some e) pos) (mRet ma):=by
 obtain ⟨t,p,s⟩:=h
 refine ⟨_,n9 p,fun C G ρ σ H n D hm hn r h k=>s C G ρ σ H [] _ _ r h fun d ρ' v G' H' hq z kp r' p=>k.rt d ρ' σ v G' H' hq z (by unfold Ret; rw [if_neg (by rw [hf]; decide)]; exact ⟨r',p⟩)⟩
theorem R.non {C:Ctx} {ow:List Bool} {fr:Bool} {G:Hp} {ρ:DSt} {σ:St} {H:Hp} (r:R C ow G ρ σ H []):Ret fr C ow G ρ σ H .non .non:=by
 unfold Ret
 split
 ·obtain ⟨O,r⟩:=r
  exact ⟨O,r.len,r.gh,r.g0,r.gn,r.og,r.cok,r.fr,r.ft,r.al,r.mp,r.sl,⟨by rw [Sep],trivial⟩,Nat.le_succ_of_le r.np⟩
 ·exact ⟨r,mG⟩
def nW (i:Nat) (m:ME):MS:=fun n ρ=>m ρ fun d ρ1=>n.nx (ρ1.set i (some d))
theorem qC {t:TE} {i:Nat} (s:SE M.ow t ma) (ho:M.ow[i]?≠some true) (hu:M.mu[i]?≠some true):SS M (qF t (iL i)) (nW i ma):=fun C G ρ σ H n D hm hn r h k =>
 s C G ρ σ H [] _ _ r h fun d ρ' v G' H' hq z kp r' p=>by
  obtain ⟨O,r'⟩:=r'
  exact k.nx _ _ G' H' hq z ⟨O,r'.setS ho (hm.no hu) p⟩
theorem sI {t:TE} {i:Nat} (s:SF M.ow t ma) (ho:M.ow[i]? = some true) (hu:M.mu[i]?≠some true):SS M (qF t (iL i)) (nW i ma):=fun C G ρ σ H n D hm hn r h k =>
 s C G ρ σ H [] _ _ r h fun d ρ' v G' H' hq z kp r'=>by
  obtain ⟨O,r'⟩:=r'
  exact k.nx _ _ G' H' hq z (r'.setO ho (hm.no hu) (by rw [hn]; exact Nat.zero_le _))
theorem aP {i:Nat} {x:Str} (hN:X.N.Nodup) (hi:X.N[i]? = some x) (hx:Loc X.env.scope x) (he:QE X M.ow e ma) (ho:M.ow[i]?≠some true:=by decide) (hu:M.mu[i]?≠some true:=by decide) (hs:swapsWith e (some (.Name x pos')) pos.line X.env=pure false:=by rfl) (hf:X.fn x=true∨X.env.scope.names.lookup x=some .local:=by first | exact .inl rfl | exact .inr rfl | assumption) :
 QS X M (.Assign [.Name x pos'] e pos) (nW i ma):=by
 obtain ⟨t,p,s⟩:=he
 exact ⟨_,n5 hN hi hx p hs hf,qC s ho hu⟩
theorem bO {i:Nat} {x:Str} (hN:X.N.Nodup) (hi:X.N[i]? = some x) (hx:Loc X.env.scope x) (he:QF X M.ow e ma) (ho:M.ow[i]? = some true:=by decide) (hu:M.mu[i]?≠some true:=by decide) (hs:swapsWith e (some (.Name x pos')) pos.line X.env=pure false:=by rfl) (hf:X.fn x=true∨X.env.scope.names.lookup x=some .local:=by first | exact .inl rfl | exact .inr rfl | assumption) :
 QS X M (.Assign [.Name x pos'] e pos) (nW i ma):=by
 obtain ⟨t,p,s⟩:=he
 exact ⟨_,n5 hN hi hx p hs hf,sI s ho hu⟩
def mPar (i j:Nat) (ma mb:ME):MS:=fun n ρ=>ma ρ fun x ρ1=>mb ρ1 fun y ρ2=>n.nx ((ρ2.set i (some x)).set j (some y))
theorem lu {i j:Nat} {x y:Str} {px py pt:Pos} {kt k2 pt2} (hc:X.calm=true) (hN:X.N.Nodup) (hi:X.N[i]? = some x) (hj:X.N[j]? = some y) (hij:i≠j)
 (hx:X.env.scope.names.lookup x=some .local) (hy:X.env.scope.names.lookup y=some .local) (ha:QE X M.ow a ma) (hb:QE X M.ow b mb)
 (hw:swappedStores [.Tuple [.Name x px,.Name y py] kt pt] (.Tuple [a,b] k2 pt2) X.env=pure (some [x,y]))
 (oi:M.ow[i]?≠some true:=by decide) (oj:M.ow[j]?≠some true:=by decide) (ui:M.mu[i]?≠some true:=by decide) (uj:M.mu[j]?≠some true:=by decide)
 (hs1:starEach [a,b] X.env=(false,eval a X.env) :: starEach [b] X.env:=by rfl) (hs2:starEach [b] X.env=[(false,eval b X.env)]:=by rfl)
 (hs:swapsWithSole [.Tuple [.Name x px,.Name y py] kt pt] (.Tuple [a,b] k2 pt2) pos.line X.env=pure false:=by rfl) :
 QS X M (.Assign [.Tuple [.Name x px,.Name y py] kt pt] (.Tuple [a,b] k2 pt2) pos) (mPar i j ma mb):=by
 obtain ⟨ta,pa,sa⟩:=ha; obtain ⟨tb,pb,sb⟩:=hb
 refine ⟨_,wu hc hN hi hj hij hx hy (cq pa (cq pb eK hs2) hs1) hw hs,fun C G ρ σ H n D hm hn r h k=>?_⟩
 refine jU (Q:=fun u w H2=>∃ v w',[u,w]=[v,w']∧D.nx ((σ.set i (some v)).set j (some w')) H2) sa sb r h fun dx dy ρ' u w G' H' hq z kp r' p1 p2=>⟨u,w,rfl,?_⟩
 obtain ⟨O,r'⟩:=r'
 exact k.nx _ _ G' H' hq z ⟨O,(r'.setS oi (hm.no ui) p1).setS oj (hm.no uj) p2⟩
abbrev MG:=D→DSt→(DSt→Prop)→Prop
abbrev MGs:=List D→DSt→(DSt→Prop)→Prop
def SG (M:Md) (g:TG) (m:MG):Prop:=∀ (C:Ctx) (G:Hp) (ρ:DSt) (σ:St) (H:Hp) (pd:List (D×V)) (d:D) (v:V) (k:DSt→Prop) (K:St→Hp→Prop),gT C M.mu→R C M.ow G ρ σ H pd→Rep G d v→m d ρ k →
 (∀ ρ' σ',k ρ'→R C M.ow G ρ' σ' H pd→K σ' H)→g v σ H K
def SGs (M:Md) (g:TGs) (m:MGs):Prop:=∀ (C:Ctx) (G:Hp) (ρ:DSt) (σ:St) (H:Hp) (pd:List (D×V)) (d:List D) (v:List V) (k:DSt→Prop) (K:St→Hp→Prop),gT C M.mu→R C M.ow G ρ σ H pd→Reps G d v→m d ρ k →
 (∀ ρ' σ',k ρ'→R C M.ow G ρ' σ' H pd→K σ' H)→g v σ H K
structure QG (X:Cx) (M:Md) (e:Expr) (m:MG):Prop where
 ex:∃ t,PG X e t∧SG M t m
structure QGs (X:Cx) (M:Md) (e:List Expr) (m:MGs):Prop where
 ex:∃ t,PGs X e t∧SGs M t m
def iA (i:Nat):MG:=fun d ρ k=>k (ρ.set i (some d))
theorem ay {i:Nat} {x:Str} (hN:X.N.Nodup) (hi:X.N[i]? = some x) (hx:Loc X.env.scope x) (ho:M.ow[i]?≠some true:=by decide) (hu:M.mu[i]?≠some true:=by decide) (hf:X.fn x=true∨X.env.scope.names.lookup x=some .local:=by first | exact .inl rfl | exact .inr rfl | assumption):QG X M (.Name x pos) (iA i) :=
 ⟨_,bg hN hi hx hf,fun C G ρ σ H pd d v k K hm r p h kk=>by obtain ⟨O,r⟩:=r; exact kk _ _ h ⟨O,r.setS ho (hm.no hu) p⟩⟩
def nY:MGs:=fun ds ρ k=>match ds with
 | []=>k ρ
 | _=>False
def jV (t:MG) (u:MGs):MGs:=fun ds ρ k=>match ds with
 | d :: ds=>t d ρ fun ρ1=>u ds ρ1 k
 | []=>False
def t8 (t:MGs):MG:=fun d ρ k=>match d with
 | .tup ds=>t ds ρ k
 | _=>False
variable {mg:MG} {mgs:MGs} {es:List Expr}
theorem bC:QGs X M [] nY:=⟨_,mo,fun C G ρ σ H pd d v k K hm r p h kk=>by
 cases d with
 | nil=>rw [Reps] at p; exact ⟨p,kk _ _ h r⟩
 | cons _ _=>exact h.elim⟩
theorem aA (h1:QG X M e mg) (h2:QGs X M es mgs) (hs:(assignEach (e :: es) X.env).map (·.2)=assign e X.env :: (assignEach es X.env).map (·.2):=by rfl):QGs X M (e :: es) (jV mg mgs):=by
 obtain ⟨t,p,s⟩:=h1; obtain ⟨t2,p2,s2⟩:=h2
 refine ⟨_,g_ p p2 hs,fun C G ρ σ H pd d v k K hm r p h kk=>?_⟩
 cases d with
 | nil=>exact h.elim
 | cons d ds =>
  rw [Reps] at p
  obtain ⟨v,vs,rfl,p1,p3⟩:=p
  exact ⟨v,vs,rfl,s C G ρ σ H pd d v _ _ hm r p1 h fun ρ' σ' h' r'=>s2 C G ρ' σ' H pd ds vs k K hm r' p3 h' kk⟩
def iO (n:Nat) (m:MGs):Prop:=∀ ds ρ k,m ds ρ k→ds.length=n
theorem aV:iO 0 nY:=fun ds ρ k h=>by cases ds with | nil=>rfl | cons _ _=>exact h.elim
theorem am {n:Nat} {i:Nat} (h:iO n mgs):iO (n + 1) (jV (iA i) mgs):=fun ds ρ k q=>by
 cases ds with
 | nil=>exact q.elim
 | cons d ds=>simp [h ds _ _ q]
theorem ci {kk:Nat} {n:Nat} (hc:X.calm=true) (h:QGs X M es mgs) (ht:iO n mgs)
 (hn:(assignEach es X.env).length=n:=by rfl) (hst:(assignEach es X.env).findIdx? (·.1)=none:=by rfl):QG X M (.Tuple es kk pos) (t8 mgs):=by
 obtain ⟨t,p,s⟩:=h
 refine ⟨_,qG hc p hn hst,fun C G ρ σ H pd d v k K hm r p h kk=>?_⟩
 cases d with
 | tup ds =>
  obtain ⟨a,xs,rfl,h1,h2⟩:=fC p
  exact ⟨a,xs,rfl,SqT.of (r.gh _ _ h1),by rw [h2.length]; exact ht _ _ _ h,s C G ρ σ H pd ds xs k K hm r h2 h kk⟩
 | _=>exact h.elim
def mAsg (m:ME) (g:MG):MS:=fun n ρ=>m ρ fun d ρ1=>g d ρ1 n.nx
theorem d8 {tg:Expr} (he:QE X M.ow e ma) (hg:QG X M tg mg) (hs:swapsWithSole [tg] e pos.line X.env=pure false:=by rfl) (hw:swappedStores [tg] e X.env=pure none:=by rfl)
 (h1:(assignEach [tg] X.env).map (·.2)=[assign tg X.env]:=by rfl):QS X M (.Assign [tg] e pos) (mAsg ma mg):=by
 obtain ⟨t,p,s⟩:=he; obtain ⟨t2,p2,s2⟩:=hg
 refine ⟨_,k9 p p2 hs hw h1,fun C G ρ σ H n D hm hn r h k=>s C G ρ σ H [] _ _ r h fun d ρ' v G' H' hq z kp r' p=>?_⟩
 exact s2 C G' ρ' σ H' [] d v _ _ hm r' p hq fun ρ2 σ2 h2 r2=>k.nx ρ2 σ2 G' H' h2 z r2
def mDrop (m:ME):MS:=fun n ρ=>m ρ fun _ ρ1=>n.nx ρ1
theorem bI (he:QE X M.ow e ma) (hs:swapsWith e none pos.line X.env=pure false:=by rfl):QS X M (.Expr e pos) (mDrop ma):=by
 obtain ⟨t,p,s⟩:=he
 exact ⟨_,jq p hs,fun C G ρ σ H n D hm hn r h k=>s C G ρ σ H [] _ _ r h fun d ρ' v G' H' hq z kp r' p=>k.nx ρ' σ G' H' hq z r'⟩
def gP (i:Nat) (m:ME):MS:=fun n ρ=>match ρ[i]? with
 | some (some (.lst _))=>m ρ fun d ρ1=>match ρ1[i]? with
  | some (some (.lst ds))=>ds.length<1000∧n.nx (ρ1.set i (some (.lst (ds++[d]))))
  | _=>False
 | _=>False
theorem cJ {i:Nat} {x:Str} {apos cpos npos:Pos} (hN:X.N[i]? = some x) (he:QF X M.ow e ma) (ho:M.ow[i]? = some true:=by decide)
 (hv:Vis X.env.scope x:=by first | exact Or.inl rfl | exact Or.inr (Or.inl rfl) | exact Or.inr (Or.inr rfl)) (hd:(x == ("__debug__":Str))=false:=by decide) (hcd:(x == ("__classdict__":Str))=false:=by decide)
 (hbase:attributeBase (.Name x npos) "append" X.env (eval (.Name x npos) X.env)=eval (.Name x npos) X.env:=by rfl)
 (hfew:((backTo cpos (starEach [e] X.env)).all (fun x=>!x.1)&&(backToKw cpos (keywordEach [] X.env)).all (fun x=>x.1.isSome)
  && decide ([e].length + ([]:List Keyword).length + (if ([]:List Keyword).isEmpty then 0 else 1)<30))=true:=by rfl)
 (hline:(apos.endLine == cpos.line)=true:=by rfl) (hst:starEach [e] X.env=[(false,eval e X.env)]:=by rfl)
 (hs:swapsWith (.Call (.Attribute (.Name x npos) "append" apos) [e] [] cpos) none pos.line X.env=pure false:=by rfl) :
 QS X M (.Expr (.Call (.Attribute (.Name x npos) "append" apos) [e] [] cpos) pos) (gP i ma):=by
 obtain ⟨t,p,s⟩:=he
 refine ⟨_,jq (tU PySem.F.plainAttrs_list PySem.F.slot_list_append PySem.F.type_list_append iI (eT hN hv hd hcd) (cq p eK hst) hbase hfew hline hst (by rfl)) hs,fun C G ρ σ H n D hm hn r h k=>?_⟩
 unfold gP at h
 split at h
 ·rename_i ds e1
  obtain ⟨O,ro⟩:=r
  obtain ⟨a,xs,h1,h2,_,_⟩:=ro.write e1 ho
  refine ⟨.ref a,h1,.inl ⟨rfl,xs,SqL.of h2⟩,?_⟩
  refine s C G ρ σ H [] _ _ ⟨O,ro⟩ h fun d ρ' v G' H' hq z kp r'=>?_
  split at hq
  ·rename_i ds' e2
   obtain ⟨O',r'⟩:=r'
   obtain ⟨O2,r2,s2,s3⟩:=r'.join i ds'.length (by rw [hn]; exact Nat.zero_le _)
   obtain ⟨a',xs',g1,g2,g3,g4⟩:=r2.write e2 ho
   rw [h1] at g1; cases g1
   have hl:=g3.length
   refine ⟨a,xs',v,rfl,rfl,g2,by rw [hl]; exact d4 (Nat.le_of_lt hq.1),?_⟩
   exact k.nx _ _ G' _ hq.2 z ⟨O2,g4 _ _ (g3.snoc (by simpa using s2))⟩
  ·exact hq.elim
 ·exact h.elim
def mSetI (i:Nat) (mk m:ME):MS:=fun n ρ=>m ρ fun d ρ1=>match ρ1[i]? with
 | some (some (.lst _))=>mk ρ1 fun k ρ2=>match ρ2[i]? with
  | some (some (.lst ds))=>match k with
   | .int j=>match ixN ds.length j with
    | some p=>n.nx (ρ2.set i (some (.lst (ds.set p d))))
    | none=>False
   | _=>False
  | _=>False
 | _=>False
theorem fJ {i:Nat} {x:Str} {npos spos:Pos} (hN:X.N[i]? = some x) (he:QF X M.ow e ma) (hk:QE X M.ow b mb) (ho:M.ow[i]? = some true:=by decide)
 (hv:Vis X.env.scope x:=by first | exact Or.inl rfl | exact Or.inr (Or.inl rfl) | exact Or.inr (Or.inr rfl)) (hd:(x == ("__debug__":Str))=false:=by decide) (hcd:(x == ("__classdict__":Str))=false:=by decide)
 (ha:∀ v,assign (.Subscript (.Name x npos) b spos) X.env v=(do
  let ov ← holding [v] (eval (.Name x npos) X.env)
  let iv ← holding [v,ov] (eval b X.env)
  standAt spos
  holding [v,ov,iv] (setItem ov iv v)
  release [v,ov,iv] []):=by intro _; rfl)
 (hs:swapsWithSole [.Subscript (.Name x npos) b spos] e pos.line X.env=pure false:=by rfl) (hw:swappedStores [.Subscript (.Name x npos) b spos] e X.env=pure none:=by rfl)
 (h1:(assignEach [.Subscript (.Name x npos) b spos] X.env).map (·.2)=[assign (.Subscript (.Name x npos) b spos) X.env]:=by rfl) :
 QS X M (.Assign [.Subscript (.Name x npos) b spos] e pos) (mSetI i mb ma):=by
 obtain ⟨t,p,s⟩:=he; obtain ⟨t2,p2,s2⟩:=hk
 refine ⟨_,k9 p (vS (eT hN hv hd hcd) p2 kN ha) hs hw h1,fun C G ρ σ H n D hm hn r h k=>s C G ρ σ H [] _ _ r h fun d ρ' v G' H' hq z kp r'=>?_⟩
 split at hq
 ·rename_i ds0 e0
  obtain ⟨O0,ro⟩:=r'
  obtain ⟨a,xs,hu,_,_,_⟩:=ro.write e0 ho
  refine ⟨.ref a,hu,?_⟩
  refine s2 C G' ρ' σ H' _ _ _ ⟨O0,ro⟩ hq fun dk ρ2 jv G2 H2 hq2 z2 kp2 r2 pj=>?_
  split at hq2
  ·rename_i ds e2
   cases dk with
   | int j =>
    dsimp only at hq2
    split at hq2
    ·rename_i pl e3
     obtain ⟨O',r2⟩:=r2
     obtain ⟨O2,r3,w2,w3⟩:=r2.join i pl (by rw [hn]; exact Nat.zero_le _)
     obtain ⟨a',xs',g1,g2,g3,g4⟩:=r3.write e2 ho
     rw [hu] at g1; cases g1
     refine ⟨a,xs',j,pl,rfl,aD pj,g2,by rw [g3.length]; exact e3,?_⟩
     exact k.nx _ _ G2 _ hq2 (z.trans z2) ⟨O2,g4 _ _ (g3.set (by simpa using w2))⟩
    ·exact hq2.elim
   | _=>exact hq2.elim
  ·exact hq2.elim
 ·exact hq.elim
def vp (mt:MT) (mb:MS):MS:=fun n ρ=>∃ W:Nat→DSt→Prop,(∃ k,W k ρ)∧∀ k ρ,W k ρ→mt ρ fun b ρ1 =>
 if b=true then mb { n with nx:=fun ρ'=>∃ k',k'<k∧W k' ρ',ct:=fun ρ'=>∃ k',k'<k∧W k' ρ',bk:=n.nx } ρ1 else n.nx ρ1
theorem ip {body:List Stmt} (hp:PassesOwn (model X.prog X.w) X.A X.env X.xe) (hc:QT X M.ow c mt) (hb:QSs X M body m):QS X M (.While c body [] pos) (vp mt m):=by
 obtain ⟨t,p,s⟩:=hc; obtain ⟨t2,p2,s2⟩:=hb
 refine ⟨_,qX hp p p2,fun C G ρ σ H n D hm hn r h k=>?_⟩
 obtain ⟨W,⟨k0,w0⟩,turn⟩:=h
 refine ⟨fun j σ' H'=>∃ G' ρ',aU G G'∧R C M.ow G' ρ' σ' H' []∧W j ρ',⟨k0,G,ρ,aU.refl _,r,w0⟩,?_⟩
 rintro j σ' H' ⟨G',ρ',z,r',w⟩
 refine s C G' ρ' σ' H' [] _ _ r' (turn j ρ' w) fun b ρ1 G1 H1 hq z1 kp r1=>?_
 cases b with
 | true =>
  rw [if_pos rfl] at hq ⊢
  refine ⟨fun σ2 H2=>∃ j',j'<j∧∃ G2 ρ2,aU G G2∧R C M.ow G2 ρ2 σ2 H2 []∧W j' ρ2,fun σ2 H2 h=>h,?_⟩
  refine s2 C G1 ρ1 σ' H1 _ _ hm hn r1 hq ⟨?_,?_,?_,?_⟩
  ·rintro ρ2 σ2 G2 H2 ⟨j',hj,w'⟩ z2 r2; exact ⟨j',hj,G2,ρ2,z.trans (z1.trans z2),r2,w'⟩
  ·intro ρ2 σ2 G2 H2 h z2 r2; exact k.nx ρ2 σ2 G2 H2 h (z.trans (z1.trans z2)) r2
  ·rintro ρ2 σ2 G2 H2 ⟨j',hj,w'⟩ z2 r2; exact ⟨j',hj,G2,ρ2,z.trans (z1.trans z2),r2,w'⟩
  ·intro d ρ2 σ2 v G2 H2 h z2 r2; exact k.rt d ρ2 σ2 v G2 H2 h (z.trans (z1.trans z2)) r2
 | false=>rw [if_neg (by decide)] at hq ⊢; exact k.nx ρ1 σ' G1 H1 hq (z.trans z1) r1
def nu (J:It) (G:Hp) (ds:List D):Prop:=∀ (C:Ctx) (ow:List Bool) (G':Hp) (ρ:DSt) (σ:St) (H:Hp) (pd:List (D×V)) (i:Nat),aU G G'→R C ow G' ρ σ H pd →
 (ds.length≤i→J.stop i H)∧∀ d,ds[i]? = some d→J.go i H∧∀ x H',J.yld i H x H'→∃ G2,aU G' G2∧R C ow G2 ρ σ H' pd∧Rep G2 d x
def SI (ow:List Bool) (wi:TI) (mi:MA):Prop:=∀ (C:Ctx) (G:Hp) (ρ:DSt) (σ:St) (H:Hp) (pd:List (D×V)) (q:List D→DSt→Prop) (Q:It→Hp→Prop),R C ow G ρ σ H pd→mi ρ q →
 (∀ ds ρ' G' H' J,q ds ρ'→aU G G'→Kp ow ρ ρ'→R C ow G' ρ' σ H' pd→nu J G' ds→Q J H')→wi σ H Q
structure QI (X:Cx) (ow:List Bool) (tg iter:Expr) (mi:MA):Prop where
 ex:∃ t,PI X tg iter t∧SI ow t mi
def forD (g:MG) (mb:MS) (n:EndsD) (ds:List D) (ρ:DSt):Prop:=∃ I:Nat→DSt→Prop,I 0 ρ ∧
 (∀ i d ρ,ds[i]? = some d→I i ρ→g d ρ fun ρ1=>mb { n with nx:=I (i + 1),ct:=I (i + 1),bk:=n.nx } ρ1)∧∀ ρ,I ds.length ρ→n.nx ρ
def mFor (mi:MA) (g:MG) (mb:MS):MS:=fun n ρ=>mi ρ fun ds ρ1=>forD g mb n ds ρ1
theorem bz {mi:MA} {tg iter:Expr} {body:List Stmt} (hp:PassesOwn (model X.prog X.w) X.A X.env X.xe) (hc:X.calm=true) (hi:QI X M.ow tg iter mi) (hg:QG X M tg mg) (hb:QSs X M body m)
 (hs:∀ x,foldedSetIterable iter X.env x=pure x:=by intro _; rfl):QS X M (.For tg iter body [] pos) (mFor mi mg m):=by
 obtain ⟨ti,pi,si⟩:=hi; obtain ⟨tg',pg,sg⟩:=hg; obtain ⟨tb,pb,sb⟩:=hb
 refine ⟨_,vP hp hc pi pg pb hs,fun C G ρ σ H n D hm hn r h k=>si C G ρ σ H [] _ _ r h fun ds ρ0 G0 H0 J hq z0 kp r0 jo=>?_⟩
 obtain ⟨I,i0,turn,fin⟩:=hq
 refine ⟨fun i j σ' H'=>j=ds.length - i∧i≤ds.length∧∃ G' ρ',aU G0 G'∧R C M.ow G' ρ' σ' H' []∧I i ρ',⟨_,rfl,Nat.zero_le _,G0,ρ0,aU.refl _,r0,i0⟩,?_⟩
 rintro i j σ' H' ⟨rfl,hi,G',ρ',z,r',w⟩
 obtain ⟨st,go⟩:=jo C M.ow G' ρ' σ' H' [] i z r'
 by_cases hlt:i<ds.length
 ·obtain ⟨g1,g2⟩:=go ds[i] (List.getElem?_eq_getElem hlt)
  refine .inr ⟨g1,fun σ2 H2=>∃ G2 ρ2,aU G0 G2∧R C M.ow G2 ρ2 σ2 H2 []∧I (i + 1) ρ2,fun σ2 H2 h=>⟨ds.length - (i + 1),by omega,rfl,hlt,h⟩,fun x H1 hy=>?_⟩
  obtain ⟨G1,z1,r1,p1⟩:=g2 x H1 hy
  refine sg C G1 ρ' σ' H1 [] ds[i] x _ _ hm r1 p1 (turn i ds[i] ρ' (List.getElem?_eq_getElem hlt) w) fun ρ2 σ2 h2 r2=>?_
  refine sb C G1 ρ2 σ2 H1 _ _ hm hn r2 h2 ⟨?_,?_,?_,?_⟩
  ·intro ρ3 σ3 G3 H3 h3 z3 r3; exact ⟨G3,ρ3,z.trans (z1.trans z3),r3,h3⟩
  ·intro ρ3 σ3 G3 H3 h3 z3 r3; exact k.nx ρ3 σ3 G3 H3 h3 (z0.trans (z.trans (z1.trans z3))) r3
  ·intro ρ3 σ3 G3 H3 h3 z3 r3; exact ⟨G3,ρ3,z.trans (z1.trans z3),r3,h3⟩
  ·intro d ρ3 σ3 v G3 H3 h3 z3 r3; exact k.rt d ρ3 σ3 v G3 H3 h3 (z0.trans (z.trans (z1.trans z3))) r3
 ·have e:i=ds.length:=by omega
  subst e
  exact .inl ⟨st (Nat.le_refl _),k.nx ρ' σ' G' H' (fin ρ' w) (z0.trans z) r'⟩
end
section
variable {X:Cx} {ow:List Bool} {a b c e tg:Expr} {ma mb mc:ME} {pos:Pos} {mr:MA} {es:List Expr}
theorem xh {K:PySem.W.Frag} {G:Hp} {p:Addr} {xs:List V} {ds:List D} (h1:G p=some (.lst xs)) (h2:Reps G ds xs):nu (Itl K p) G ds:=fun C ow G' ρ σ H pd i z r=>by
 have hp:=r.gh _ _ (z _ _ h1)
 refine ⟨fun hl=>⟨xs,SqL.of hp,by rw [h2.length]; exact hl⟩,fun d e=>?_⟩
 obtain ⟨v,e1,e2⟩:=eQ h2 e
 refine ⟨⟨xs,v,SqL.of hp,e1⟩,fun x H' hy=>?_⟩
 obtain ⟨rfl,hy⟩:=hy
 have:=hy xs (SqL.of hp)
 rw [e1] at this; cases this
 exact ⟨G',aU.refl _,r,Rep.mono z _ _ e2⟩
def miLst (m:ME):MA:=fun ρ q=>m ρ fun d ρ'=>match d with
 | .lst ds=>q ds ρ'
 | _=>False
theorem a6 (h:QE X ow e ma):QI X ow tg e (miLst ma):=by
 obtain ⟨t,p,s⟩:=h
 refine ⟨_,tE p,fun C G ρ σ H pd q Q r hm k=>s C G ρ σ H pd _ _ r hm fun d ρ' v G' H' hq z kp r' p=>?_⟩
 cases d with
 | lst ds=>obtain ⟨a,xs,rfl,h1,h2⟩:=bq p; exact ⟨a,rfl,⟨xs,SqL.of (r'.gh _ _ h1)⟩,k ds ρ' G' H' _ hq z kp r' (xh h1 h2)⟩
 | _=>exact hq.elim
def kD (lo:Int) (n:Nat):List D:=(List.range n).map fun (i:Nat)=>.int (lo + i)
theorem e9 {lo:Int} {n i:Nat} {d:D} (h:(kD lo n)[i]? = some d):i<n∧d = .int (lo + i):=by
 unfold kD at h
 rw [List.getElem?_map] at h
 by_cases c:i<n
 ·rw [List.getElem?_range c] at h; exact ⟨c,(Option.some.inj h).symm⟩
 ·rw [List.getElem?_eq_none (by simp; omega)] at h; cases h
theorem fQ (lo:Int) (n:Nat):(kD lo n).length=n:=by unfold kD; simp
theorem qO {G:Hp} {lo:Int} {n:Nat}:nu (Itr lo n) G (kD lo n):=fun C ow G' ρ σ H pd i z r=>by
 refine ⟨fun hl=>by rw [fQ] at hl; exact hl,fun d e=>?_⟩
 obtain ⟨h1,rfl⟩:=e9 e
 refine ⟨h1,fun x H' hy=>?_⟩
 obtain ⟨rfl,rfl⟩:=hy
 exact ⟨G',aU.refl _,r,bD _⟩
def miR1 (m:MA):MA:=fun ρ q=>m ρ fun ds ρ'=>match ds with
 | [.int j]=>(-(2 ^ 62)≤j∧j<2 ^ 62)∧q (kD 0 j.toNat) ρ'
 | _=>False
def miR2 (m:MA):MA:=fun ρ q=>m ρ fun ds ρ'=>match ds with
 | [.int i,.int j]=>(-(2 ^ 62)≤i∧i<2 ^ 62∧-(2 ^ 62)≤j∧j<2 ^ 62)∧q (kD i (j - i).toNat) ρ'
 | _=>False
theorem fi {p:Pos} (hg:Gl X "range") (hm:X.mg "range" = none) (ha:QA X ow [a] mr) (hs:starEach [a] X.env=[(false,eval a X.env)]:=by rfl):QI X ow tg (.Call (.Name "range" p) [a] [] pos) (miR1 mr):=by
 obtain ⟨t,p,s⟩:=ha
 refine ⟨_,nD hg hm p hs,fun C G ρ σ H pd q Q r hm k=>s C G ρ σ H pd _ _ r hm fun ds ρ' vs G' H' hq z kp r' p hn=>?_⟩
 split at hq
 ·obtain ⟨v,rfl,p1⟩:=bK p
  rw [aD p1]
  exact ⟨_,rfl,hq.1.1,hq.1.2,k _ ρ' G' H' _ hq.2 z kp r' qO⟩
 ·exact hq.elim
theorem mY {p:Pos} (hg:Gl X "range") (hm:X.mg "range" = none) (ha:QA X ow [a,b] mr) (hs:starEach [a,b] X.env=[(false,eval a X.env),(false,eval b X.env)]:=by rfl) (hs2:starEach [b] X.env=[(false,eval b X.env)]:=by rfl):QI X ow tg (.Call (.Name "range" p) [a,b] [] pos) (miR2 mr):=by
 obtain ⟨t,p,s⟩:=ha
 refine ⟨_,na hg hm p hs hs2,fun C G ρ σ H pd q Q r hm k=>s C G ρ σ H pd _ _ r hm fun ds ρ' vs G' H' hq z kp r' p hn=>?_⟩
 split at hq
 ·obtain ⟨v,u,rfl,p1,p2⟩:=eI p
  rw [aD p1,aD p2]
  exact ⟨_,_,rfl,hq.1,k _ ρ' G' H' _ hq.2 z kp r' qO⟩
 ·exact hq.elim
def lI (ds:List D):List D:=ds.mapIdx fun i d=>.tup [.int i,d]
theorem kd (ds:List D):(lI ds).length=ds.length:=by unfold lI; simp
theorem dF {ds:List D} {i:Nat} {d:D} (h:(lI ds)[i]? = some d):∃ d',ds[i]? = some d'∧d = .tup [.int i,d']:=by
 unfold lI at h
 rw [List.getElem?_mapIdx] at h
 cases e:ds[i]? with
 | none=>rw [e] at h; cases h
 | some d'=>rw [e] at h; exact ⟨d',rfl,(Option.some.inj h).symm⟩
theorem wr {G:Hp} {p:Addr} {xs:List V} {ds:List D} (h1:G p=some (.lst xs)) (h2:Reps G ds xs):nu (Ite p) G (lI ds):=fun C ow G' ρ σ H pd i z r=>by
 have hp:=r.gh _ _ (z _ _ h1)
 refine ⟨fun hl=>⟨xs,hp,by rw [h2.length]; rw [kd] at hl; exact hl⟩,fun d e=>?_⟩
 obtain ⟨d',e0,rfl⟩:=dF e
 obtain ⟨v,e1,e2⟩:=eQ h2 e0
 refine ⟨⟨xs,v,hp,e1⟩,fun x H' hy=>?_⟩
 obtain ⟨a,x',ha,rfl,rfl,hy⟩:=hy
 have:=hy xs hp
 rw [e1] at this; cases this
 obtain ⟨O,r⟩:=r
 obtain ⟨r2,s2⟩:=r.new ha (.tup [.int i,v])
 exact ⟨_,s2,⟨O,r2⟩,mx aM (b_ (bD _) (b_ (Rep.mono (z.trans s2) _ _ e2) ck))⟩
def miEnu (m:MA):MA:=fun ρ q=>m ρ fun ds ρ'=>match ds with
 | [.lst ds]=>q (lI ds) ρ'
 | _=>False
theorem d5 {k:Nat} {tpos p:Pos} (hg:Gl X "enumerate") (hm:X.mg "enumerate" = none) (ha:QA X ow [a] mr) (hs:starEach [a] X.env=[(false,eval a X.env)]:=by rfl):QI X ow (.Tuple es k tpos) (.Call (.Name "enumerate" p) [a] [] pos) (miEnu mr):=by
 obtain ⟨t,p,s⟩:=ha
 refine ⟨_,rH hg hm p hs,fun C G ρ σ H pd q Q r hm k=>s C G ρ σ H pd _ _ r hm fun ds ρ' vs G' H' hq z kp r' p hn=>?_⟩
 split at hq
 ·obtain ⟨v,rfl,p1⟩:=bK p
  obtain ⟨a,xs,rfl,h1,h2⟩:=bq p1
  exact ⟨a,rfl,⟨xs,r'.gh _ _ h1⟩,k _ ρ' G' H' _ hq z kp r' (wr h1 h2)⟩
 ·exact hq.elim
def ug (i:Nat):ME:=fun ρ q=>match ρ[i]? with
 | some (some d)=>q d (ρ.set i none)
 | _=>False
end
inductive AK where
 | s | m (i:Nat) | t
def AK.isM:AK→Bool
 | .s=>false
 | _=>true
def ia (G:Hp) (σ:St):List AK→List D→List V→List (D×V)→Prop
 | [],[],[],[]=>True
 | .s :: ks,d :: ds,v :: vs,T=>Rep G d v∧ia G σ ks ds vs T
 | .m i :: ks,_ :: ds,v :: vs,T=>σ[i]? = some (some v)∧ia G σ ks ds vs T
 | .t :: ks,d :: ds,v :: vs,x :: T=>x=(d,v)∧ia G σ ks ds vs T
 | _,_,_,_=>False
def SAk (ow:List Bool) (ks:List AK) (t:TA) (m:MA):Prop:=∀ (C:Ctx) (G:Hp) (ρ:DSt) (σ:St) (H:Hp) (pd:List (D×V)) (q:List D→DSt→Prop) (Q:List V→Hp→Prop),R C ow G ρ σ H pd→m ρ q →
 (∀ ds ρ' vs T G' H',q ds ρ'→aU G G'→Kp ow ρ ρ'→R C ow G' ρ' σ H' (T.reverse++pd)→ia G' σ ks ds vs T→Q vs H')→t σ H Q
structure QAk (X:Cx) (ow:List Bool) (ks:List AK) (es:List Expr) (m:MA):Prop where
 ex:∃ t,PA X es t∧SAk ow ks t m
section
variable {X:Cx} {ow:List Bool} {a b c e tg:Expr} {ma mb mc:ME} {pos:Pos} {mr:MA} {es:List Expr} {ks:List AK}
theorem aj:QAk X ow [] [] nb:=⟨_,eK,fun C G ρ σ H pd q Q r h k=>k [] ρ [] [] G H h (aU.refl _) Kp.refl r trivial⟩
theorem ah (ha:QE X ow e ma) (hr:QAk X ow ks es mr) (hs:starEach (e :: es) X.env=(false,eval e X.env) :: starEach es X.env:=by rfl):QAk X ow (.s :: ks) (e :: es) (fM ma mr):=by
 obtain ⟨t,p,s⟩:=ha; obtain ⟨t2,p2,s2⟩:=hr
 refine ⟨_,cq p p2 hs,fun C G ρ σ H pd q Q r hm k=>s C G ρ σ H pd _ _ r hm fun d ρ' v G' H' hq z kp r' p=>?_⟩
 exact s2 C G' ρ' σ H' pd _ _ r' hq fun ds ρ2 vs T G2 H2 hq2 z2 kp2 r2 p2=>k (d :: ds) ρ2 (v :: vs) T G2 H2 hq2 (z.trans z2) (kp.trans kp2) r2 ⟨Rep.mono z2 _ _ p,p2⟩
def oA (i:Nat) (r:MA):MA:=fun ρ q=>match ρ[i]? with
 | some (some _)=>r ρ fun ds ρ2=>q (.non :: ds) ρ2
 | _=>False
theorem eH (i:Nat) {x:Str} (hr:QAk X ow ks es mr) (hN:X.N[i]? = some x:=by rfl) (hv:Vis X.env.scope x:=by first | exact Or.inl rfl | exact Or.inr (Or.inl rfl) | exact Or.inr (Or.inr rfl)) (hd:(x == ("__debug__":Str))=false:=by decide)
 (hcd:(x == ("__classdict__":Str))=false:=by decide) (hs:starEach (.Name x pos :: es) X.env=(false,eval (.Name x pos) X.env) :: starEach es X.env:=by rfl):QAk X ow (.m i :: ks) (.Name x pos :: es) (oA i mr):=by
 obtain ⟨t2,p2,s2⟩:=hr
 refine ⟨_,cq (eT hN hv hd hcd) p2 hs,fun C G ρ σ H pd q Q r hm k=>?_⟩
 unfold oA at hm
 split at hm
 ·rename_i d e
  obtain ⟨O,ro⟩:=r
  obtain ⟨v,h1,_⟩:=ro.sl i d e
  exact ⟨v,h1,s2 C G ρ σ H pd _ _ ⟨O,ro⟩ hm fun ds ρ2 vs T G2 H2 hq2 z2 kp2 r2 p2=>k (.non :: ds) ρ2 (v :: vs) T G2 H2 hq2 z2 kp2 r2 ⟨h1,p2⟩⟩
 ·exact hm.elim
def dX:List AK→List D→DSt→Option (List D)
 | [],[],_=>some []
 | .s :: ks,d :: ds,ρ=>(dX ks ds ρ).map (d :: ·)
 | .t :: ks,d :: ds,ρ=>(dX ks ds ρ).map (d :: ·)
 | .m i :: ks,_ :: ds,ρ=>match ρ[i]? with
  | some (some d)=>(dX ks ds ρ).map (d :: ·)
  | _=>none
 | _,_,_=>none
def lbs:List AK→Nat→List (Option Nat)
 | [],_=>[]
 | .s :: ks,r=>none :: lbs ks r
 | .m i :: ks,r=>some (2 * i) :: lbs ks r
 | .t :: ks,r=>some (2 * r + 1) :: lbs ks (r + 1)
def aF:List AK→List Nat
 | []=>[]
 | .m i :: ks=>i :: aF ks
 | _ :: ks=>aF ks
def fnd (l:Nat):List (Option Nat)→Nat→Option Nat
 | [],_=>none
 | x :: xs,k=>if x=some l then some k else fnd l xs (k + 1)
theorem n6 {l:Nat}:∀ {xs:List (Option Nat)} {k j:Nat},fnd l xs k=some j→∃ i,j=k + i∧xs[i]? = some (some l)
 | [],_,_,h=>by cases h
 | x :: xs,k,j,h=>by
  unfold fnd at h
  split at h
  ·rename_i c; cases h; exact ⟨0,rfl,by simp [c]⟩
  ·obtain ⟨i,rfl,e⟩:=n6 h; exact ⟨i + 1,by omega,by simpa using e⟩
theorem ku {l:Nat}:∀ {xs:List (Option Nat)} {k:Nat},(∀ i:Nat,xs[i]?≠some (some l))→fnd l xs k=none
 | [],_,_=>rfl
 | x :: xs,k,h=>by
  unfold fnd
  rw [if_neg (fun c=>h 0 (by simp [c]))]
  exact ku fun i=>by simpa using h (i + 1)
theorem rb {l:Nat}:∀ {xs:List (Option Nat)} {k i:Nat},(∀ (i j:Nat) (l:Nat),xs[i]? = some (some l)→xs[j]? = some (some l)→i=j)→xs[i]? = some (some l)→fnd l xs k=some (k + i)
 | [],_,_,_,h=>by simp at h
 | x :: xs,k,i,u,h=>by
  unfold fnd
  by_cases c:x=some l
  ·rw [if_pos c]
   have:=u 0 i l (by simp [c]) h
   subst this; rfl
  ·rw [if_neg c]
   cases i with
   | zero=>simp at h; exact absurd h c
   | succ i =>
    have:=rb (k:=k + 1) (i:=i) (fun i j l a b=>by have:=u (i + 1) (j + 1) l (by simpa using a) (by simpa using b); omega) (by simpa using h)
    rw [this]; congr 1; omega
theorem cW:∀ {ks:List AK} {r:Nat} {i l:Nat},(lbs ks r)[i]? = some (some l)→(∃ j∈aF ks,l=2 * j)∨∃ j,r≤j∧l=2 * j + 1
 | [],_,_,_,h=>by simp [lbs] at h
 | .s :: ks,r,0,l,h=>by simp [lbs] at h
 | .s :: ks,r,i + 1,l,h=>by simp only [lbs,List.getElem?_cons_succ] at h; have:=cW (ks:=ks) h; simpa [aF] using this
 | .m j :: ks,r,0,l,h=>by simp [lbs] at h; exact .inl ⟨j,by simp [aF],h.symm⟩
 | .m j :: ks,r,i + 1,l,h=>by
  simp only [lbs,List.getElem?_cons_succ] at h
  rcases cW h with ⟨z,h1,h2⟩ | h
  ·exact .inl ⟨z,by simp [aF,h1],h2⟩
  ·exact .inr h
 | .t :: ks,r,0,l,h=>by simp [lbs] at h; exact .inr ⟨r,Nat.le_refl _,h.symm⟩
 | .t :: ks,r,i + 1,l,h=>by
  simp only [lbs,List.getElem?_cons_succ] at h
  rcases cW h with ⟨z,h1,h2⟩ | ⟨j,h1,h2⟩
  ·exact .inl ⟨z,by simpa [aF] using h1,h2⟩
  ·exact .inr ⟨j,by omega,h2⟩
theorem f_:∀ {ks:List AK} {r:Nat},(aF ks).Nodup→∀ (i j l:Nat),(lbs ks r)[i]? = some (some l)→(lbs ks r)[j]? = some (some l)→i=j
 | [],_,_,i,j,l,h,_=>by simp [lbs] at h
 | .s :: ks,r,nd,0,j,l,h,_=>by simp [lbs] at h
 | .s :: ks,r,nd,i + 1,0,l,_,h=>by simp [lbs] at h
 | .s :: ks,r,nd,i + 1,j + 1,l,h,h2=>by simp only [lbs,List.getElem?_cons_succ] at h h2; rw [f_ (ks:=ks) (by simpa [aF] using nd) i j l h h2]
 | .m a :: ks,r,nd,0,0,l,_,_=>rfl
 | .m a :: ks,r,nd,0,j + 1,l,h,h2=>by
  simp only [lbs,List.getElem?_cons_succ] at h2; simp [lbs] at h
  simp only [aF,List.nodup_cons] at nd
  rcases cW h2 with ⟨z,h3,h4⟩ | ⟨z,h3,h4⟩
  ·exact absurd h3 (by rw [show z=a by omega]; exact nd.1)
  ·omega
 | .m a :: ks,r,nd,i + 1,0,l,h2,h=>by
  simp only [lbs,List.getElem?_cons_succ] at h2; simp [lbs] at h
  simp only [aF,List.nodup_cons] at nd
  rcases cW h2 with ⟨z,h3,h4⟩ | ⟨z,h3,h4⟩
  ·exact absurd h3 (by rw [show z=a by omega]; exact nd.1)
  ·omega
 | .m a :: ks,r,nd,i + 1,j + 1,l,h,h2=>by
  simp only [aF,List.nodup_cons] at nd
  simp only [lbs,List.getElem?_cons_succ] at h h2; rw [f_ (ks:=ks) nd.2 i j l h h2]
 | .t :: ks,r,nd,0,0,l,_,_=>rfl
 | .t :: ks,r,nd,0,j + 1,l,h,h2=>by
  simp only [lbs,List.getElem?_cons_succ] at h2; simp [lbs] at h
  rcases cW h2 with ⟨z,h3,h4⟩ | ⟨z,h3,h4⟩ <;> omega
 | .t :: ks,r,nd,i + 1,0,l,h2,h=>by
  simp only [lbs,List.getElem?_cons_succ] at h2; simp [lbs] at h
  rcases cW h2 with ⟨z,h3,h4⟩ | ⟨z,h3,h4⟩ <;> omega
 | .t :: ks,r,nd,i + 1,j + 1,l,h,h2=>by simp only [lbs,List.getElem?_cons_succ] at h h2; rw [f_ (ks:=ks) (by simpa [aF] using nd) i j l h h2]
end
theorem eZ {G H:Hp} {O:Own}:∀ {T pd:List (D×V)},cu G H O (T++pd)→cu G H O pd
 | [],_,h=>h
 | _ :: T,_,h=>eZ (T:=T) h.2
theorem jt {G H:Hp} {O:Own}:∀ {T pd:List (D×V)} {j:Nat} {x:D×V},cu G H O (T.reverse++pd)→T[j]? = some x→Sep G H O (2 * (pd.length + j) + 1) x.1 [] x.2
 | [],_,_,_,_,e=>by simp at e
 | y :: T,pd,j,x,h,e=>by
  have h':cu G H O (T.reverse++(y :: pd)):=by simpa using h
  cases j with
  | zero=>simp at e; subst e; exact (eZ h').1
  | succ j =>
   have:=jt (j:=j) h' (by simpa using e)
   rw [show pd.length + (j + 1)=(y :: pd).length + j by simp; omega]
   exact this
theorem gG {G H:Hp} {O:Own} {σ:St} {ρ:DSt}:∀ {ks:List AK} {ds ds':List D} {vs:List V} {T:List (D×V)} {r:Nat},ia G σ ks ds vs T→dX ks ds ρ=some ds' →
 (∀ (j:Nat) x,T[j]? = some x→Sep G H O (2 * (r + j) + 1) x.1 [] x.2)→(∀ i∈aF ks,∀ d,ρ[i]? = some (some d)→∃ v,σ[i]? = some (some v)∧Sep G H O (2 * i) d [] v) →
 ds'.length=vs.length∧vs.length=ks.length∧∀ (k:Nat) d,ds'[k]? = some d→∃ v,vs[k]? = some v∧((∃ l,(lbs ks r)[k]? = some (some l)∧(ks.map AK.isM)[k]? = some true∧Sep G H O l d [] v)∨((ks.map AK.isM)[k]? = some false∧Rep G d v))
 | [],[],ds',[],[],r,_,hf,_,_=>by simp [dX] at hf; subst hf; exact ⟨rfl,rfl,fun k d e=>by simp at e⟩
 | .s :: ks,d :: ds,ds',v :: vs,T,r,h,hf,hT,hS=>by
  rw [dX] at hf
  cases e:dX ks ds ρ with
  | none=>rw [e] at hf; cases hf
  | some es =>
   rw [e] at hf; cases hf
   obtain ⟨l1,l2,ih⟩:=gG (ks:=ks) h.2 e hT (fun i hi=>hS i (by simpa [aF] using hi))
   refine ⟨by simp [l1],by simp [l2],fun k d' e'=>?_⟩
   cases k with
   | zero=>simp at e'; subst e'; exact ⟨v,rfl,.inr ⟨rfl,h.1⟩⟩
   | succ k=>obtain ⟨u,g1,g2⟩:=ih k d' (by simpa using e'); exact ⟨u,by simpa using g1,by simpa [lbs] using g2⟩
 | .m i :: ks,d :: ds,ds',v :: vs,T,r,h,hf,hT,hS=>by
  rw [dX] at hf
  cases e0 : ρ[i]? with
  | none=>rw [e0] at hf; cases hf
  | some o =>
   cases o with
   | none=>rw [e0] at hf; cases hf
   | some d0 =>
    rw [e0] at hf
    dsimp only at hf
    cases e:dX ks ds ρ with
    | none=>rw [e] at hf; cases hf
    | some es =>
     rw [e] at hf; cases hf
     obtain ⟨l1,l2,ih⟩:=gG (ks:=ks) h.2 e hT (fun i hi=>hS i (by simp [aF,hi]))
     refine ⟨by simp [l1],by simp [l2],fun k d' e'=>?_⟩
     cases k with
     | zero =>
      simp at e'; subst e'
      obtain ⟨u,g1,g2⟩:=hS i (by simp [aF]) d0 e0
      rw [h.1] at g1; cases g1
      exact ⟨v,rfl,.inl ⟨2 * i,by simp [lbs],rfl,g2⟩⟩
     | succ k=>obtain ⟨u,g1,g2⟩:=ih k d' (by simpa using e'); exact ⟨u,by simpa using g1,by simpa [lbs] using g2⟩
 | .t :: ks,d :: ds,ds',v :: vs,x :: T,r,h,hf,hT,hS=>by
  rw [dX] at hf
  cases e:dX ks ds ρ with
  | none=>rw [e] at hf; cases hf
  | some es =>
   rw [e] at hf; cases hf
   obtain ⟨l1,l2,ih⟩:=gG (ks:=ks) (r:=r + 1) h.2 e (fun j x e=>by rw [show r + 1 + j=r + (j + 1) by omega]; exact hT (j + 1) x (by simpa using e)) (fun i hi=>hS i (by simpa [aF] using hi))
   refine ⟨by simp [l1],by simp [l2],fun k d' e'=>?_⟩
   cases k with
   | zero =>
    simp at e'; subst e'
    have:=hT 0 x rfl
    rw [h.1] at this
    exact ⟨v,rfl,.inl ⟨2 * r + 1,by simp [lbs],rfl,this⟩⟩
   | succ k=>obtain ⟨u,g1,g2⟩:=ih k d' (by simpa using e'); exact ⟨u,by simpa using g1,by simpa [lbs] using g2⟩
 | [],_ :: _,_,_,_,_,h,_,_,_=>h.elim
 | [],[],_,_ :: _,_,_,h,_,_,_=>h.elim
 | [],[],_,[],_ :: _,_,h,_,_,_=>h.elim
 | .s :: _,[],_,_,_,_,h,_,_,_=>h.elim
 | .s :: _,_ :: _,_,[],_,_,h,_,_,_=>h.elim
 | .m _ :: _,[],_,_,_,_,h,_,_,_=>h.elim
 | .m _ :: _,_ :: _,_,[],_,_,h,_,_,_=>h.elim
 | .t :: _,[],_,_,_,_,h,_,_,_=>h.elim
 | .t :: _,_ :: _,_,[],_,_,h,_,_,_=>h.elim
 | .t :: _,_ :: _,_,_ :: _,[],_,h,_,_,_=>h.elim
theorem e6 {G:Hp} {σ:St}:∀ {ks:List AK} {ds:List D} {vs:List V} {T:List (D×V)} {k i:Nat},ia G σ ks ds vs T→ks[k]? = some (.m i)→∃ v,vs[k]? = some v∧σ[i]? = some (some v)
 | [],_,_,_,k,i,_,e=>by simp at e
 | .s :: ks,d :: ds,v :: vs,T,0,i,h,e=>by simp at e
 | .s :: ks,d :: ds,v :: vs,T,k + 1,i,h,e=>by obtain ⟨u,g1,g2⟩:=e6 (k:=k) h.2 (by simpa using e); exact ⟨u,by simpa using g1,g2⟩
 | .m j :: ks,d :: ds,v :: vs,T,0,i,h,e=>by simp at e; subst e; exact ⟨v,rfl,h.1⟩
 | .m j :: ks,d :: ds,v :: vs,T,k + 1,i,h,e=>by obtain ⟨u,g1,g2⟩:=e6 (k:=k) h.2 (by simpa using e); exact ⟨u,by simpa using g1,g2⟩
 | .t :: ks,d :: ds,v :: vs,x :: T,0,i,h,e=>by simp at e
 | .t :: ks,d :: ds,v :: vs,x :: T,k + 1,i,h,e=>by obtain ⟨u,g1,g2⟩:=e6 (k:=k) h.2 (by simpa using e); exact ⟨u,by simpa using g1,g2⟩
 | .s :: _,[],_,_,_,_,h,_=>h.elim
 | .s :: _,_ :: _,[],_,_,_,h,_=>h.elim
 | .m _ :: _,[],_,_,_,_,h,_=>h.elim
 | .m _ :: _,_ :: _,[],_,_,_,h,_=>h.elim
 | .t :: _,[],_,_,_,_,h,_=>h.elim
 | .t :: _,_ :: _,[],_,_,_,h,_=>h.elim
 | .t :: _,_ :: _,_ :: _,[],_,_,h,_=>h.elim
def cy:List AK→DSt→DSt→DSt
 | .m i :: ks,x :: ρ2,ρ=>cy ks ρ2 (ρ.set i x)
 | _ :: ks,_ :: ρ2,ρ=>cy ks ρ2 ρ
 | _,_,ρ=>ρ
def iC:List AK→DSt→DSt→DSt
 | .s :: ks,os,ρ=>iC ks os ρ
 | .m i :: ks,o :: os,ρ=>iC ks os (ρ.set i o)
 | .t :: ks,_ :: os,ρ=>iC ks os ρ
 | _,_,ρ=>ρ
theorem gH:∀ {ks:List AK} {ρ2 ρ:DSt},ρ2.length=ks.length→iC ks (mus (ks.map AK.isM) ρ2) ρ=cy ks ρ2 ρ
 | [],[],ρ,_=>rfl
 | .s :: ks,x :: ρ2,ρ,h=>by simp only [List.map,AK.isM,mus,iC,cy]; exact gH (by simpa using h)
 | .m i :: ks,x :: ρ2,ρ,h=>by simp only [List.map,AK.isM,mus,iC,cy]; exact gH (by simpa using h)
 | .t :: ks,x :: ρ2,ρ,h=>by simp only [List.map,AK.isM,mus,iC,cy]; exact gH (by simpa using h)
theorem fP:∀ {ks:List AK} {ρ2 ρ:DSt},(cy ks ρ2 ρ).length=ρ.length
 | [],_,_=>by simp [cy]
 | .s :: ks,[],_=>by simp [cy]
 | .m i :: ks,[],_=>by simp [cy]
 | .t :: ks,[],_=>by simp [cy]
 | .s :: ks,x :: ρ2,ρ=>by simp only [cy]; exact fP
 | .m i :: ks,x :: ρ2,ρ=>by simp only [cy]; rw [fP]; simp
 | .t :: ks,x :: ρ2,ρ=>by simp only [cy]; exact fP
theorem f6:∀ {ks:List AK} {ρ2 ρ:DSt} {i:Nat},i ∉ aF ks→(cy ks ρ2 ρ)[i]? = ρ[i]?
 | [],_,_,_,_=>by simp [cy]
 | .s :: ks,[],_,_,_=>by simp [cy]
 | .m i :: ks,[],_,_,_=>by simp [cy]
 | .t :: ks,[],_,_,_=>by simp [cy]
 | .s :: ks,x :: ρ2,ρ,i,h=>by simp only [cy]; exact f6 (by simpa [aF] using h)
 | .t :: ks,x :: ρ2,ρ,i,h=>by simp only [cy]; exact f6 (by simpa [aF] using h)
 | .m j :: ks,x :: ρ2,ρ,i,h=>by
  simp only [cy]
  simp only [aF,List.mem_cons,not_or] at h
  rw [f6 h.2,List.getElem?_set_ne (Ne.symm h.1)]
theorem fZ:∀ {ks:List AK} {ρ2 ρ:DSt} {i:Nat} {d:D},(cy ks ρ2 ρ)[i]? = some (some d)→ρ2.length=ks.length→(i ∉ aF ks∧ρ[i]? = some (some d))∨∃ k:Nat,ks[k]? = some (.m i)∧ρ2[k]? = some (some d)
 | [],[],ρ,i,d,h,_=>.inl ⟨by simp [aF],by simpa [cy] using h⟩
 | .s :: ks,x :: ρ2,ρ,i,d,h,hl=>by
  simp only [cy] at h
  rcases fZ h (by simpa using hl) with ⟨h1,h2⟩ | ⟨k,h1,h2⟩
  ·exact .inl ⟨by simpa [aF] using h1,h2⟩
  ·exact .inr ⟨k + 1,by simpa using h1,by simpa using h2⟩
 | .t :: ks,x :: ρ2,ρ,i,d,h,hl=>by
  simp only [cy] at h
  rcases fZ h (by simpa using hl) with ⟨h1,h2⟩ | ⟨k,h1,h2⟩
  ·exact .inl ⟨by simpa [aF] using h1,h2⟩
  ·exact .inr ⟨k + 1,by simpa using h1,by simpa using h2⟩
 | .m j :: ks,x :: ρ2,ρ,i,d,h,hl=>by
  simp only [cy] at h
  rcases fZ h (by simpa using hl) with ⟨h1,h2⟩ | ⟨k,h1,h2⟩
  ·rcases gk h2 with ⟨rfl,rfl⟩ | ⟨h3,h4⟩
   ·exact .inr ⟨0,rfl,rfl⟩
   ·exact .inl ⟨by simp [aF,h1,h3],h4⟩
  ·exact .inr ⟨k + 1,by simpa using h1,by simpa using h2⟩
theorem lV:∀ {ks:List AK} {r k i:Nat},ks[k]? = some (.m i)→(lbs ks r)[k]? = some (some (2 * i))
 | [],_,_,_,e=>by simp at e
 | .s :: ks,r,0,i,e=>by simp at e
 | .s :: ks,r,k + 1,i,e=>by simp only [lbs,List.getElem?_cons_succ]; exact lV (by simpa using e)
 | .m j :: ks,r,0,i,e=>by simp at e; subst e; simp [lbs]
 | .m j :: ks,r,k + 1,i,e=>by simp only [lbs,List.getElem?_cons_succ]; exact lV (by simpa using e)
 | .t :: ks,r,0,i,e=>by simp at e
 | .t :: ks,r,k + 1,i,e=>by simp only [lbs,List.getElem?_cons_succ]; exact lV (by simpa using e)
theorem fU:∀ {ks:List AK} {r k l:Nat},(lbs ks r)[k]? = some (some l)→(ks.map AK.isM)[k]? = some true
 | [],_,_,_,e=>by simp [lbs] at e
 | .s :: ks,r,0,i,e=>by simp [lbs] at e
 | .s :: ks,r,k + 1,i,e=>by simp only [lbs,List.getElem?_cons_succ] at e; simp only [List.map,List.getElem?_cons_succ]; exact fU e
 | .m j :: ks,r,0,i,e=>rfl
 | .m j :: ks,r,k + 1,i,e=>by simp only [lbs,List.getElem?_cons_succ] at e; simp only [List.map,List.getElem?_cons_succ]; exact fU e
 | .t :: ks,r,0,i,e=>rfl
 | .t :: ks,r,k + 1,i,e=>by simp only [lbs,List.getElem?_cons_succ] at e; simp only [List.map,List.getElem?_cons_succ]; exact fU e
theorem rR {ks:List AK} {k i:Nat} (h:ks[k]? = some (.m i)):i∈aF ks:=by
 induction ks generalizing k with
 | nil=>simp at h
 | cons x ks ih =>
  cases k with
  | zero=>simp at h; subst h; simp [aF]
  | succ k=>have:=ih (by simpa using h); cases x <;> simp [aF,this]
theorem kC {C:Ctx} {ow:List Bool} {G:Hp} {ρ:DSt} {σ:St} {H:Hp} {pd T:List (D×V)} {ks:List AK} {ds ds':List D} {vs:List V} {fr:Bool} {sd:SpD} {q:D→DSt→Prop} {Q:VK} {E:XK}
 (hn:C.np≤pd.length) (r:R C ow G ρ σ H (T.reverse++pd)) (ha:ia G σ ks ds vs T) (hf:dX ks ds ρ=some ds') (nd:(aF ks).Nodup) (hw:∀ i∈aF ks,ow[i]? = some true)
 (h:sd ds' fun d os=>q d (iC ks os ρ))
 (k:∀ d ρ' v G' H',q d ρ'→aU G G'→Kp ow ρ ρ'→(if fr=true then R C ow G' ρ' σ H' ((d,v) :: pd) else R C ow G' ρ' σ H' pd∧Rep G' d v)→Q v H'):aW (ks.map AK.isM) fr sd vs H Q E:=by
 obtain ⟨O,ro⟩:=r
 have pn:=ro.pn
 obtain ⟨l1,l2,hat⟩:=gG (O:=O) (H:=H) (r:=pd.length) ha hf (fun j x e=>jt pn e) (fun i hi d e=>by
  obtain ⟨v,h1,h2⟩:=ro.sl i d e; rw [if_pos (hw i hi)] at h2; exact ⟨v,h1,h2⟩)
 let lb:=lbs ks pd.length
 let fin:Nat→Option Nat:=fun l=>(fnd l lb 0).map (2 * ·)
 let fbk:Nat→Option Nat:=fun l=>if l=1 then some (2 * pd.length + 1) else if l % 2=0 then (match lb[l / 2]? with | some o=>o | none=>none) else none
 have uq:=f_ (ks:=ks) (r:=pd.length) nd
 have fin_at:∀ (i l:Nat),lb[i]? = some (some l)→fin l=some (2 * i):=fun i l e=>by
  show (fnd l lb 0).map _=_
  rw [rb uq e]; simp
 have fin_of:∀ l l',fin l=some l'→∃ i,l'=2 * i∧lb[i]? = some (some l):=fun l l' e=>by
  change (fnd l lb 0).map _=_ at e
  cases z:fnd l lb 0 with
  | none=>rw [z] at e; cases e
  | some j=>rw [z] at e; cases e; obtain ⟨i,rfl,e2⟩:=n6 z; exact ⟨i,by show 2 * (0 + i)=2 * i; omega,e2⟩
 have fin_none:∀ l,(∀ i:Nat,lb[i]?≠some (some l))→fin l=none:=fun l e=>by
  show (fnd l lb 0).map _=_
  rw [ku e]; rfl
 have ri:=ro.into (mu:=ks.map AK.isM) (fin:=fin) (ds:=ds') (vs:=vs) l1 (fun j d e=>by
  obtain ⟨v,h1,h2⟩:=hat j d e
  refine ⟨v,h1,?_⟩
  rcases h2 with ⟨l,h2,h3,h4⟩ | ⟨h2,h3⟩
  ·rw [if_pos h3]; exact ⟨l,h4,fin_at j l h2⟩
  ·rw [if_neg (by rw [h2]; decide)]; exact h3) (fun l l' e=>by
  obtain ⟨i,rfl,e2⟩:=fin_of l l' e
  exact ⟨i,rfl,fU e2,by have:=(List.getElem?_eq_some_iff.mp (fU e2)).1; rw [List.length_map] at this; omega⟩)
 refine ⟨_,G,ds',fun d os=>q d (iC ks os ρ),rfl,rfl,⟨_,ri⟩,h,by rw [List.length_map,l1,l2],?_⟩
 intro d ρ2 σ2 v G2 H2 hq z hl hr
 rw [List.length_map] at hl
 rw [gH hl] at hq
 have out:∀ (pd2 pd3:List (D×V)) (O2:Own),RO ⟨G,H,cX fin O,msV (ks.map AK.isM) vs,0⟩ (ks.map AK.isM) G2 ρ2 σ2 H2 pd2 O2→C.np≤pd3.length →
  (∀ (O3:Own),(∀ a l π,O a=some (l,π)→fin l=none→O3 a=some (l,π)∧H2 a=H a)→(∀ a l l' π,O2 a=some (l',π)→fbk l'=some l→O3 a=some (l,π))→cU G G2→cu G2 H2 O3 pd3) →
  RO C ow G2 (cy ks ρ2 ρ) σ H2 pd3 (pA fin fbk O O2):=fun pd2 pd3 O2 r2 hn3 hP=>by
  refine ro.out (vs:=vs) r2 ?_ (by rw [fP]; exact ro.len) hn3 ?_ ?_ hP
  ·intro l0 l' l e1 e2
   obtain ⟨i,rfl,e3⟩:=fin_of l0 l' e1
   change (if 2 * i=1 then _ else if 2 * i % 2=0 then _ else _)=_ at e2
   rw [if_neg (by omega),if_pos (by omega),show 2 * i / 2=i by omega,e3] at e2
   exact (Option.some.inj e2).symm
  ·intro i d c e
   rcases fZ e hl with ⟨_,h2⟩ | ⟨k,h1,_⟩
   ·exact h2
   ·exact absurd (hw i (rR h1)) c
  ·intro i d c e
   rcases fZ e hl with ⟨h1,h2⟩ | ⟨j,h1,h2⟩
   ·refine .inl ⟨fin_none _ fun j e=>?_,h2⟩
    rcases cW e with ⟨z,h3,h4⟩ | ⟨z,h3,h4⟩
    ·exact h1 (by rw [show i=z by omega]; exact h3)
    ·omega
   ·obtain ⟨u,g1,g2⟩:=e6 ha h1
    have im:(ks.map AK.isM)[j]? = some true:=by rw [List.getElem?_map,h1]; rfl
    refine .inr ⟨j,u,?_,im,h2,g2,r2.mp j u (kU im g1)⟩
    show (if 2 * j=1 then _ else if 2 * j % 2=0 then _ else _)=_
    rw [if_neg (by omega),if_pos (by omega),show 2 * j / 2=j by omega,lV h1]
 have pdk:∀ (O3:Own),(∀ a l π,O a=some (l,π)→fin l=none→O3 a=some (l,π)∧H2 a=H a)→cU G G2→cu G2 H2 O3 pd:=fun O3 h1 ts =>
  cu.keep ts (fun a j π hj e=>h1 a _ _ e (fin_none _ fun i e=>by
   rcases cW e with ⟨z,h3,h4⟩ | ⟨z,h3,h4⟩ <;> omega)) (eZ (T:=T.reverse) pn)
 have kp:Kp ow ρ (cy ks ρ2 ρ):=fun j hj=>f6 fun hs=>hj (hw j hs)
 refine k d (cy ks ρ2 ρ) v G2 H2 hq z kp ?_
 unfold Ret at hr
 split at hr
 ·rename_i c
  rw [if_pos c]
  obtain ⟨O2,r2⟩:=hr
  refine ⟨_,out _ ((d,v) :: pd) O2 r2 (Nat.le_succ_of_le hn) fun O3 h1 h2 ts=>⟨?_,pdk O3 h1 ts⟩⟩
  exact r2.pn.1.keep (fun _ _ z=>z) fun a τ e=>⟨h2 a _ _ _ e (by show (if 2 * 0 + 1=1 then _ else _)=_; rw [if_pos rfl]),rfl⟩
 ·rename_i c
  rw [if_neg c]
  obtain ⟨⟨O2,r2⟩,p⟩:=hr
  exact ⟨⟨_,out _ pd O2 r2 hn fun O3 h1 h2 ts=>pdk O3 h1 ts⟩,p⟩
section
variable {X:Cx} {ow:List Bool} {a b c e tg:Expr} {ma mb mc:ME} {pos p':Pos} {mr:MA} {es:List Expr} {ks:List AK} {x:Str}
def mE (ks:List AK) (sd:SpD) (m:MA):ME:=fun ρ q=>m ρ fun ds ρ1=>match dX ks ds ρ1 with
 | some ds'=>sd ds' fun d os=>q d (iC ks os ρ1)
 | none=>False
theorem r9 {k:Nat} {f:Addr} {fd:FuncData} {ps:List Str} {mu:List Bool} {sd:SpD} (F:FnOk X.prog X.w X.K X.mg X.base CX0 k f fd ps (aW mu false sd)) (hr:Room k X.A) (hg:Gl X x) (hm:X.mg x=some (.ref f)) (hk:PySem.W.keepIn X.K (.ref f)=true) (hb:gB X.K fd ps [])
 (ha:QAk X ow ks (e :: es) mr) (hmu:mu=ks.map AK.isM:=by rfl) (nd:(aF ks).Nodup:=by decide) (hw:∀ i∈aF ks,ow[i]? = some true:=by decide) (hdb:(x == ("__debug__":Str))=false:=by decide)
 (he:starEach (e :: es) X.env=(false,eval e X.env) :: starEach es X.env:=by rfl) (hpl:(backTo pos (starEach es X.env)).any (·.1)=false:=by rfl):QE X ow (.Call (.Name x p') (e :: es) [] pos) (mE ks sd mr):=by
 obtain ⟨t,p,s⟩:=ha
 subst hmu
 refine ⟨_,my F hr hg hm hk hb .nil tK p hdb he hpl,fun C G ρ σ H pd q Q r hm k=>s C G ρ σ H pd _ _ r hm fun ds ρ' vs T G' H' hq z kp r' p=>?_⟩
 rw [List.append_nil]
 split at hq
 ·rename_i ds' ef
  exact kC (fr:=false) r.np r' p ef nd hw hq fun d ρ2 v G2 H2 hq2 z2 kp2 h2=>by
   rw [if_neg (by decide)] at h2
   exact k d ρ2 v G2 H2 hq2 (z.trans z2) (kp.trans kp2) h2.1 h2.2
 ·exact hq.elim
theorem rW {k:Nat} {f:Addr} {fd:FuncData} {ps:List Str} {mu:List Bool} {sd:SpD} (F:FnOk X.prog X.w X.K X.mg X.base CX0 k f fd ps (aW mu true sd)) (hr:Room k X.A) (hg:Gl X x) (hm:X.mg x=some (.ref f)) (hk:PySem.W.keepIn X.K (.ref f)=true) (hb:gB X.K fd ps [])
 (ha:QAk X ow ks (e :: es) mr) (hmu:mu=ks.map AK.isM:=by rfl) (nd:(aF ks).Nodup:=by decide) (hw:∀ i∈aF ks,ow[i]? = some true:=by decide) (hdb:(x == ("__debug__":Str))=false:=by decide)
 (he:starEach (e :: es) X.env=(false,eval e X.env) :: starEach es X.env:=by rfl) (hpl:(backTo pos (starEach es X.env)).any (·.1)=false:=by rfl):QF X ow (.Call (.Name x p') (e :: es) [] pos) (mE ks sd mr):=by
 obtain ⟨t,p,s⟩:=ha
 subst hmu
 refine ⟨_,my F hr hg hm hk hb .nil tK p hdb he hpl,fun C G ρ σ H pd q Q r hm k=>s C G ρ σ H pd _ _ r hm fun ds ρ' vs T G' H' hq z kp r' p=>?_⟩
 rw [List.append_nil]
 split at hq
 ·rename_i ds' ef
  exact kC (fr:=true) r.np r' p ef nd hw hq fun d ρ2 v G2 H2 hq2 z2 kp2 h2=>by
   rw [if_pos rfl] at h2
   exact k d ρ2 v G2 H2 hq2 (z.trans z2) (kp.trans kp2) h2
 ·exact hq.elim
end
theorem RO.grow {C:Ctx} {mu ow:List Bool} {G:Hp} {ds:List D} {vs:List V} {H:Hp} {O:Own} (n:Nat) (h:RO C mu G (ds.map some) (vs.map some) H [] O) (ho:∀ i:Nat,i<ds.length→ow[i]? = mu[i]?) :
 RO C ow G (ds.map some++List.replicate n none) (vs.map some++List.replicate n none) H [] O:=by
 have hl:ds.length=vs.length:=by simpa using h.len
 have up:∀ {α:Type} {l:List α} {i:Nat} {d : α},(l.map some++List.replicate n none)[i]? = some (some d)→i<l.length∧(l.map some)[i]? = some (some d):=fun {α l i d} e=>by
  by_cases c:i<l.length
  ·rw [List.getElem?_append_left (by simpa using c)] at e; exact ⟨c,e⟩
  ·rw [List.getElem?_append_right (by simpa using c)] at e
   rw [List.getElem?_replicate] at e
   split at e <;> cases e
 refine ⟨by simp [hl],h.gh,h.g0,h.gn,h.og,h.cok,h.fr,h.ft,h.al,?_,?_,h.pn,h.np⟩
 ·intro i v e
  have:=h.mp i v e
  rw [List.getElem?_append_left (eA this)]; exact this
 ·intro i d e
  obtain ⟨c,e1⟩:=up e
  obtain ⟨v,h1,h2⟩:=h.sl i d e1
  exact ⟨v,by rw [List.getElem?_append_left (eA h1)]; exact h1,by rw [ho i c]; exact h2⟩
theorem RO.trim {C:Ctx} {mu ow:List Bool} {G:Hp} {ρ:DSt} {σ:St} {H:Hp} {pd:List (D×V)} {O:Own} (h:RO C ow G ρ σ H pd O) (hm:gT C mu) (ho:∀ i:Nat,i<mu.length→ow[i]? = mu[i]?) :
 RO C mu G (cG mu.length ρ) (cG mu.length σ) H pd O:=by
 refine ⟨by rw [cO,cO],h.gh,h.g0,h.gn,h.og,h.cok,h.fr,h.ft,h.al,?_,?_,h.pn,h.np⟩
 ·intro i v e
  exact jm (lt_of_slot' (hm i v e)) (h.mp i v e)
 ·intro i d e
  obtain ⟨c,e1⟩:=jE e
  obtain ⟨v,h1,h2⟩:=h.sl i d e1
  exact ⟨v,jm c h1,by rw [← ho i c]; exact h2⟩
where
 lt_of_slot' {l:List Bool} {i:Nat} {x:Bool} (h:l[i]? = some x):i<l.length:=(List.getElem?_eq_some_iff.mp h).1
def jl (mu:List Bool) (q:D→DSt→Prop):EndsD:=⟨fun ρ=>q .non (mus mu ρ),fun d ρ=>q d (mus mu ρ),fun _=>False,fun _=>False⟩
theorem fnD {P:Program} {w:World} {K:PySem.W.Frag} {mg:Str→Option Value} {base:Heap} {x qual:Str} {st:Stmt} {f:Addr} {fd:FuncData} {N ps:List Str} {k:Nat} (F:Fun K x qual st f fd) (S:FnScope N ps (ak st)) (M:Md) (sd:SpD)
 (hl:∀ ds q,sd ds q→ds.length=ps.length) (ho:M.ow.take ps.length=M.mu) (hml:M.mu.length=ps.length)
 (hbody:∀ (cdv:Value) (A:Around) (outer:List Env) (s:Shared) (H:Hp) (E:XK),Room k (A.deeper (envOfC qual (ak st) s.heap.objs.size f cdv)) →
  ∃ m,QSs (jr CX0 P w K mg base N qual (ak st) f cdv A outer s H E).nox M (cC st) m∧∀ ds q,sd ds q→m (jl M.mu q) (ds.map some++List.replicate (N.length - ps.length) none)) :
 FnOk P w K mg base CX0 (k + 1) f fd ps (aW M.mu M.fr sd):=by
 have hov:∀ i:Nat,i<M.mu.length→M.ow[i]? = M.mu[i]?:=fun i hi=>by rw [← ho,List.getElem?_take_of_lt (by omega)]
 have hlen:∀ vs H Q E,aW M.mu M.fr sd vs H Q E→vs.length=ps.length:=fun vs H Q E ⟨C,G,ds,q,_,_,⟨O,ro⟩,h1,_,_⟩=>by
  have:=ro.len; simp at this; rw [← this]; exact hl ds q h1
 refine F.ok S hlen fun cdv A outer s H vs Q E hr hsp=>?_
 obtain ⟨m,⟨t,p,ss⟩,hm⟩:=hbody cdv A outer s H E hr
 have hvl:=hlen vs H Q E hsp
 obtain ⟨C,G,ds,q,hnp,hmu,⟨O,ro⟩,hsd,hml2,kk⟩:=hsp
 refine ⟨t,p,?_⟩
 have hmo:gT C M.mu:=fun i v e=>by rw [hmu] at e; exact (jD e).1
 have r0:R C M.ow G (ds.map some++List.replicate (N.length - ps.length) none) (dZ N vs) H []:=by
  unfold dZ; rw [hvl]
  exact ⟨O,ro.grow _ fun i hi=>hov i (by omega)⟩
 refine ss C G _ _ H (jl M.mu q) _ hmo hnp r0 (hm ds q hsd) ⟨?_,fun _ _ _ _ h=>h.elim,fun _ _ _ _ h=>h.elim,?_⟩
 ·intro ρ σ G' H' h z ⟨O',r'⟩
  refine kk .non (cG M.mu.length ρ) (cG M.mu.length σ) .non G' H' (by rw [cQ]; exact h) z (cO _ _) (R.non ⟨O',r'.trim hmo hov⟩)
 ·intro d ρ σ v G' H' h z hr'
  refine kk d (cG M.mu.length ρ) (cG M.mu.length σ) v G' H' (by rw [cQ]; exact h) z (cO _ _) ?_
  unfold Ret at hr' ⊢
  split at hr'
  ·rename_i c; rw [if_pos c]; obtain ⟨O',r'⟩:=hr'; exact ⟨O',r'.trim hmo hov⟩
  ·rename_i c; rw [if_neg c]; obtain ⟨⟨O',r'⟩,p⟩:=hr'; exact ⟨⟨O',r'.trim hmo hov⟩,p⟩
theorem Seps.mk {G H:Hp} {O:Own} {i:Nat}:∀ {T:List (D×V)} {k:Nat} {π:List Nat},(∀ (j:Nat) x,T[j]? = some x→Sep G H O i x.1 ((k + j) :: π) x.2)→Seps G H O i (T.map (·.1)) k π (T.map (·.2))
 | [],_,_,_=>by simp; rw [Seps]
 | x :: T,k,π,h=>by
  simp only [List.map]; rw [Seps]
  exact ⟨x.2,_,rfl,by simpa using h 0 x rfl,Seps.mk fun j y e=>by rw [show k + 1 + j=k + (j + 1) by omega]; exact h (j + 1) y (by simpa using e)⟩
section
variable {C:Ctx} {ow:List Bool} {G:Hp} {ρ:DSt} {σ:St} {H:Hp} {pd T:List (D×V)} {O:Own}
theorem RO.gather (h:RO C ow G ρ σ H (T.reverse++pd) O) (hn:C.np≤pd.length):∃ O',RO C ow G ρ σ H pd O'∧Seps G H O' (2 * pd.length + 1) (T.map (·.1)) 0 [] (T.map (·.2)):=by
 refine ⟨lab (fun l π=>if l % 2=1∧pd.length≤l / 2 then (2 * pd.length + 1,π++[l / 2 - pd.length]) else (l,π)) O,⟨h.len,h.gh,h.g0,h.gn,?_,h.cok,h.fr,h.ft,h.al,h.mp,?_,?_,hn⟩,?_⟩
 ·intro a m e
  obtain ⟨l,π,e1,rfl⟩:=gr e
  obtain ⟨q1,q2,q3⟩:=h.og a _ e1
  refine ⟨q1,q2,?_⟩
  split
  ·rename_i z
   rcases q3 with q3 | ⟨_,q3⟩
   ·exact .inl q3
   ·rcases h.cok _ _ _ q3 with ⟨k,_,q4,_⟩ | ⟨k,q4,q5⟩
    ·omega
    ·omega
  ·exact q3
 ·intro j e q
  obtain ⟨u,h1,h2⟩:=h.sl j e q
  refine ⟨u,h1,?_⟩
  split at h2
  ·rename_i c; rw [if_pos c]; exact h2.keep (fun _ _ z=>z) fun a τ q=>⟨by rw [bM q,if_neg (by omega)],rfl⟩
  ·rename_i c; rw [if_neg c]; exact h2
 ·exact cu.keep (fun _ _ z=>z) (fun a j π hj q=>⟨by rw [bM q,if_neg (by omega)],rfl⟩) (eZ (T:=T.reverse) h.pn)
 ·refine Seps.mk fun j x e=>?_
  have:=jt h.pn e
  refine Sep.map (f:=fun π=>π++[0 + j]) (fun _ _ z=>z) (fun _ _=>rfl) x.1 [] x.2 (fun a τ q=>⟨?_,rfl⟩) this
  rw [bM q,if_pos (by omega)]
  rw [show (2 * (pd.length + j) + 1) / 2 - pd.length=0 + j by omega]
theorem RO.newT (h:RO C ow G ρ σ H pd O) {p:Addr} (hp:H p=none) {ds:List D} {vs:List V} (hs:Seps G H O (2 * pd.length + 1) ds 0 [] vs):R C ow (upd G p (.tup vs)) ρ σ (upd H p (.tup vs)) ((.tup ds,.ref p) :: pd)∧aU G (upd G p (.tup vs)):=by
 obtain ⟨r,z⟩:=h.new hp (.tup vs)
 refine ⟨⟨O,r.len,r.gh,r.g0,r.gn,r.og,r.cok,r.fr,r.ft,r.al,r.mp,r.sl,⟨?_,r.pn⟩,Nat.le_succ_of_le r.np⟩,z⟩
 rw [Sep]
 exact ⟨p,vs,rfl,aM,hs.keep z.ts fun a τ _ q=>⟨q,ax (fun e=>by obtain ⟨_,⟨xs,w⟩,_⟩:=h.og a _ q; rw [e,hp] at w; cases w)⟩⟩
theorem RO.newS (h:RO C ow G ρ σ H pd O) {p:Addr} (hp:H p=none) {ds:List D} {vs:List V} (hs:Seps G H O (2 * pd.length + 1) ds 0 [] vs):R C ow G ρ σ (upd H p (.lst vs)) ((.lst ds,.ref p) :: pd):=by
 have gp:G p=none:=by
  cases e:G p with
  | none=>rfl
  | some z=>rw [h.gh _ _ e] at hp; cases hp
 have ne:∀ a l,O a=some l→a≠p:=fun a l e z=>by
  obtain ⟨_,⟨xs,q⟩,_⟩:=h.og a l e
  rw [z,hp] at q; cases q
 let O':Own:=fun a=>if a=p then some (2 * pd.length + 1,[]) else O a
 have old:∀ a l,O a=some l→O' a=some l:=fun a l e=>by
  show (if a=p then _ else _)=_
  rw [if_neg (ne a _ e),e]
 refine ⟨O',h.len,?_,h.g0,h.gn,?_,h.cok,?_,?_,?_,h.mp,?_,⟨?_,?_⟩,Nat.le_succ_of_le h.np⟩
 ·intro a u e
  rw [ax (fun z=>by rw [z,gp] at e; cases e)]
  exact h.gh _ _ e
 ·intro a l e
  by_cases z:a=p
  ·subst z; exact ⟨gp,⟨.inl vs,aM⟩,.inl (h.al _ hp)⟩
  ·rw [ax z]
   change (if a=p then _ else _)=_ at e
   rw [if_neg z] at e
   exact h.og a _ e
 ·intro a u e n t
  rw [ax (aH (h.fr a u e n t) hp)]
  exact h.fr a u e n t
 ·intro a ps q e
  by_cases z:a=p
  ·subst z; rw [aM] at e; cases e
  ·rw [ax z] at e; exact h.ft a ps q e
 ·intro a e
  by_cases z:a=p
  ·subst z; rw [aM] at e; cases e
  ·rw [ax z] at e; exact h.al a e
 ·intro i d e
  obtain ⟨v,h1,h2⟩:=h.sl i d e
  refine ⟨v,h1,?_⟩
  split at h2
  ·rename_i c; rw [if_pos c]; exact h2.keep (fun _ _ z=>z) fun a τ q=>⟨old a _ q,ax (ne a _ q)⟩
  ·rename_i c; rw [if_neg c]; exact h2
 ·rw [Sep]
  exact ⟨p,vs,rfl,by show (if p=p then _ else _)=_; rw [if_pos rfl],aM,hs.keep (fun _ _ z=>z) fun a τ _ q=>⟨old a _ q,ax (ne a _ q)⟩⟩
 ·exact cu.keep (fun _ _ z=>z) (fun a j π hj q=>⟨old a _ q,ax (ne a _ q)⟩) h.pn
end
def SFm (M:Md) (t:TE) (m:ME):Prop:=∀ (C:Ctx) (G:Hp) (ρ:DSt) (σ:St) (H:Hp) (pd:List (D×V)) (q:D→DSt→Prop) (Q:VK),gT C M.mu→R C M.ow G ρ σ H pd→m ρ q →
 (∀ d ρ' v G' H',q d ρ'→aU G G'→R C M.ow G' ρ' σ H' ((d,v) :: pd)→Q v H')→t σ H Q
structure QM (X:Cx) (M:Md) (e:Expr) (m:ME):Prop where
 ex:∃ t,PE X e t∧SFm M t m
def SAm (M:Md) (n:Nat) (t:TA) (m:MA):Prop:=∀ (C:Ctx) (G:Hp) (ρ:DSt) (σ:St) (H:Hp) (pd:List (D×V)) (q:List D→DSt→Prop) (Q:List V→Hp→Prop),gT C M.mu→R C M.ow G ρ σ H pd→m ρ q →
 (∀ (T:List (D×V)) ρ' G' H',q (T.map (·.1)) ρ'→aU G G'→R C M.ow G' ρ' σ H' (T.reverse++pd)→T.length=n→Q (T.map (·.2)) H')→t σ H Q
structure QMs (X:Cx) (M:Md) (es:List Expr) (m:MA):Prop where
 ex:∃ t,PA X es t∧SAm M es.length t m
section
variable {X:Cx} {M:Md} {a b c e:Expr} {ma mb mc:ME} {pos pos':Pos} {mr:MA} {es:List Expr}
theorem QF.qm (h:QF X M.ow e ma):QM X M e ma:=by
 obtain ⟨t,p,s⟩:=h
 exact ⟨_,p,fun C G ρ σ H pd q Q hm r h k=>s C G ρ σ H pd q Q r h fun d ρ' v G' H' hq z kp r'=>k d ρ' v G' H' hq z r'⟩
theorem cn (i:Nat) {x:Str} (ho:M.ow[i]? = some true:=by decide) (hu:M.mu[i]?≠some true:=by decide) (hN:X.N[i]? = some x:=by rfl) (hv:Vis X.env.scope x:=by first | exact Or.inl rfl | exact Or.inr (Or.inl rfl) | exact Or.inr (Or.inr rfl)) (hd:(x == ("__debug__":Str))=false:=by decide)
 (hcd:(x == ("__classdict__":Str))=false:=by decide):QM X M (.Name x pos) (ug i):=⟨_,eT hN hv hd hcd,fun C G ρ σ H pd q Q hm r h k=>by
 unfold ug at h
 split at h
 ·rename_i d e
  obtain ⟨O,ro⟩:=r
  obtain ⟨v,h1,h2⟩:=ro.move e ho (hm.no hu)
  exact ⟨v,h1,k d _ v G H h (aU.refl _) h2⟩
 ·exact h.elim⟩
theorem gM:QMs X M [] nb:=⟨_,eK,fun C G ρ σ H pd q Q hm r h k=>k [] ρ G H h (aU.refl _) r rfl⟩
theorem bZ (ha:QM X M e ma) (hr:QMs X M es mr) (hs:starEach (e :: es) X.env=(false,eval e X.env) :: starEach es X.env:=by rfl):QMs X M (e :: es) (fM ma mr):=by
 obtain ⟨t,p,s⟩:=ha; obtain ⟨t2,p2,s2⟩:=hr
 refine ⟨_,cq p p2 hs,fun C G ρ σ H pd q Q hm r h k=>s C G ρ σ H pd _ _ hm r h fun d ρ' v G' H' hq z r'=>?_⟩
 exact s2 C G' ρ' σ H' _ _ _ hm r' hq fun T ρ2 G2 H2 hq2 z2 r2 hn=>k ((d,v) :: T) ρ2 G2 H2 hq2 (z.trans z2) (by simpa using r2) (by simp [hn])
theorem jP {x1} (h:QMs X M es mr) (hl:es.length≤1000:=by decide):QM X M (.Tuple es x1 pos) (mTup mr):=by
 obtain ⟨t,p,s⟩:=h
 refine ⟨_,oM p,fun C G ρ σ H pd q Q hm r h k=>s C G ρ σ H pd _ _ hm r h fun T ρ' G' H' hq z r' hn=>⟨dG (by simp; omega),fun a ha=>?_⟩⟩
 obtain ⟨O,r'⟩:=r'
 obtain ⟨O2,r2,s2⟩:=r'.gather r.np
 obtain ⟨r3,z3⟩:=r2.newT ha s2
 exact k _ ρ' _ _ _ hq (z.trans z3) r3
theorem wW (h:QMs X M es mr) (hl:es.length≤1000:=by decide):QM X M (.List es pos) (mLst mr):=by
 obtain ⟨t,p,s⟩:=h
 refine ⟨_,lw p,fun C G ρ σ H pd q Q hm r h k=>s C G ρ σ H pd _ _ hm r h fun T ρ' G' H' hq z r' hn=>⟨dG (by simp; omega),fun a ha=>?_⟩⟩
 obtain ⟨O,r'⟩:=r'
 obtain ⟨O2,r2,s2⟩:=r'.gather r.np
 exact k _ ρ' _ _ _ hq z (r2.newS ha s2)
theorem br (h:QM X M e ma) (hf:M.fr=true:=by rfl):QS X M (.Return (some e) pos) (mRet ma):=by
 obtain ⟨t,p,s⟩:=h
 refine ⟨_,n9 p,fun C G ρ σ H n D hm hn r h k=>s C G ρ σ H [] _ _ hm r h fun d ρ' v G' H' hq z r'=>k.rt d ρ' σ v G' H' hq z (by unfold Ret; rw [if_pos hf]; exact r')⟩
end
def kI (g:MG) (mt:MT) (me:ME) (ρ0:DSt) (ds:List D) (K:List D→Prop):Prop:=∃ I:Nat→List D→Prop,I 0 [] ∧
 (∀ i d es,ds[i]? = some d→I i es→g d ρ0 fun ρ2=>mt ρ2 fun b ρ3=>if b=true then me ρ3 fun x _=>I (i + 1) (es++[x]) else I (i + 1) es)∧∀ es,I ds.length es→K es
def jS (k:Nat) (js:List Nat) (ρ:DSt):DSt:=List.replicate k none++js.map fun j=>(ρ[j]?).getD none
def ue (mi:MA) (g:MG) (mt:MT) (me:ME) (k:Nat) (js:List Nat):ME:=fun ρ q=>mi ρ fun ds ρ1=>ds.length≤1000∧kI g mt me (jS k js ρ1) ds fun es=>imms es=true∧q (.lst es) ρ1
def lJ (mi:MA) (g:MG) (mt:MT) (me:ME) (k:Nat) (js:List Nat):ME:=fun ρ q=>mi ρ fun ds ρ1=>ds.length≤1000∧kI g mt me (jS k js ρ1) ds fun es=>q (.lst es) ρ1
structure QIf (X:Cx) (ow:List Bool) (ifs:List Expr) (m:MT):Prop where
 ex:∃ t,PIf X ifs t∧STe ow t m
theorem cY {X:Cx} {ow:List Bool}:QIf X ow [] (pv true):=⟨_,tj,k8 true⟩
theorem eC {X:Cx} {ow:List Bool} {c:Expr} {mt:MT} (h:QT X ow c mt):QIf X ow [c] mt:=by obtain ⟨t,p,s⟩:=h; exact ⟨_,sR p,s⟩
section
variable {C:Ctx} {ow:List Bool} {G:Hp} {ρ:DSt} {σ:St} {H:Hp} {pd:List (D×V)} {O:Own}
theorem RO.inner (h:RO C ow G ρ σ H pd O) (own:List Str) (js:List Nat) (hj:∀ j∈js,ow[j]?≠some true) :
 RO ⟨G,H,cX (fun _=>none) O,[],0⟩ [] G (jS own.length js ρ) (dD own js σ) H [] (cX (fun _=>none) O):=by
 have no:∀ a,cX (fun _=>none) O a=none:=fun a=>by unfold cX; cases O a <;> rfl
 refine ⟨by simp [jS,dD],h.gh,fun _ _ e=>e,fun _ _ e=>.inl e,fun a l e=>?_,fun a l π e=>?_,fun _ _ e _ _=>e,h.ft,fun _ e=>e,fun i v e=>by simp at e,?_,trivial,Nat.le_refl _⟩
 ·rw [no] at e; cases e
 ·exact absurd (e.symm.trans (no a)) (by simp)
 ·intro i d e
  unfold jS at e
  by_cases c:i<own.length
  ·rw [List.getElem?_append_left (by simpa using c),List.getElem?_replicate] at e
   split at e <;> cases e
  ·rw [List.getElem?_append_right (by simpa using c),List.getElem?_map] at e
   simp only [List.length_replicate] at e
   cases z:js[i - own.length]? with
   | none=>rw [z] at e; cases e
   | some j =>
    rw [z] at e
    have e':(ρ[j]?).getD none=some d:=Option.some.inj e
    have e2 : ρ[j]? = some (some d):=by
     cases w : ρ[j]? with
     | none=>rw [w] at e'; cases e'
     | some o=>rw [w] at e'; exact congrArg some e'
    obtain ⟨v,h1,h2⟩:=h.sl j d e2
    rw [if_neg (hj j (List.mem_of_getElem? z))] at h2
    refine ⟨v,?_,by simpa using h2⟩
    unfold dD
    rw [List.getElem?_append_right (by simpa using c),List.getElem?_map]
    simp only [List.length_map]
    rw [z,show (some j).map _=some ((σ[j]?).getD none) from rfl,h1]; rfl
end
theorem RO.back {C:Ctx} {ow:List Bool} {G G':Hp} {ρ0 ρ2:DSt} {σ0 σ2:St} {H H':Hp} {pd:List (D×V)} {O O':Own} (h0:RO C ow G ρ0 σ0 H pd O) (hn:∀ i:Nat,ow[i]?≠some true) (h:RO C ow G' ρ2 σ2 H' pd O') (z:aU G G'):RO C ow G' ρ0 σ0 H' pd O' :=
 ⟨h0.len,h.gh,h.g0,h.gn,h.og,h.cok,h.fr,h.ft,h.al,h0.mp,fun i d e=>by
  obtain ⟨v,h1,h2⟩:=h0.sl i d e
  rw [if_neg (hn i)] at h2
  exact ⟨v,h1,by rw [if_neg (hn i)]; exact h2.mono z⟩,h.pn,h.np⟩
theorem hX {ow:List Bool} {J:It} {g:TG} {mg:MG} {tt:TT} {mt:MT} {te:TE} {me:ME} {C:Ctx} {G:Hp} {ρ:DSt} {σ:St} {H:Hp} {pd:List (D×V)} {ds:List D} {own:List Str} {js:List Nat} {K:List D→Prop} {Z:List V→Hp→Prop}
 (r:R C ow G ρ σ H pd) (hj:∀ j∈js,ow[j]?≠some true) (jo:nu J G ds) (sg:SG ⟨[],[],false⟩ g mg) (st:STe [] tt mt) (se:SE [] te me) (hk:∀ x H k,g x (dD own js σ) H k→g x (dD own js σ) H fun σ2 H2=>kept (dD own js σ) σ2∧k σ2 H2)
 (hl:ds.length≤1000) (h:kI mg mt me (jS own.length js ρ) ds K)
 (k:∀ es vs G' H',K es→aU G G'→R C ow G' ρ σ H' pd→Reps G' es vs→vs.length≤1000→Z vs H'):qq J g tt te (dD own js σ) H Z:=by
 obtain ⟨O,ro⟩:=r
 have ri:=ro.inner own js hj
 obtain ⟨I,i0,turn,fin⟩:=h
 have nt:∀ i:Nat,([]:List Bool)[i]?≠some true:=fun i=>by simp
 let C1:Ctx:=⟨G,H,cX (fun _=>none) O,[],0⟩
 have fnone:cX (fun _=>none) O=fun _=>none:=by funext a; unfold cX; cases O a <;> rfl
 refine ⟨fun i m acc H'=>m=ds.length - i∧i≤ds.length∧acc.length≤i∧∃ G' es,aU G G'∧R C1 [] G' (jS own.length js ρ) (dD own js σ) H' []∧Reps G' es acc∧I i es,⟨_,rfl,Nat.zero_le _,Nat.le_refl _,G,[],aU.refl _,⟨_,ri⟩,ck,i0⟩,?_⟩
 rintro i m acc H' ⟨rfl,hi,ha,G',es,z,r',pa,w⟩
 obtain ⟨sp,go⟩:=jo C1 [] G' _ _ H' [] i z r'
 by_cases hlt:i<ds.length
 ·obtain ⟨g1,g2⟩:=go ds[i] (List.getElem?_eq_getElem hlt)
  refine .inr ⟨g1,d4 (by omega),fun acc' H2=>acc'.length≤i + 1∧∃ G2 es2,aU G G2∧R C1 [] G2 (jS own.length js ρ) (dD own js σ) H2 []∧Reps G2 es2 acc'∧I (i + 1) es2,fun acc' H2 h=>⟨ds.length - (i + 1),by omega,rfl,hlt,h.1,h.2⟩,fun x H1 hy=>hk _ _ _ ?_⟩
  obtain ⟨G1,z1,r1,p1⟩:=g2 x H1 hy
  refine sg C1 G1 _ _ H1 [] ds[i] x _ _ (fun i v e=>by simp [C1] at e) r1 p1 (turn i ds[i] es (List.getElem?_eq_getElem hlt) w) fun ρ2 σ2 h2 r2=>?_
  refine st C1 G1 ρ2 σ2 H1 [] _ _ r2 h2 fun b ρ3 G3 H3 h3 z3 kp3 r3=>?_
  have bk:∀ {G4:Hp} {ρ4:DSt} {H4:Hp},aU G3 G4→R C1 [] G4 ρ4 σ2 H4 []→R C1 [] G4 (jS own.length js ρ) (dD own js σ) H4 []:=fun z4 ⟨O4,r4⟩=>by
   obtain ⟨O1,r1'⟩:=r1
   exact ⟨_,r1'.back nt r4 (z3.trans z4)⟩
  cases b with
  | true =>
   rw [if_pos rfl] at h3 ⊢
   refine se C1 G3 ρ3 σ2 H3 [] _ _ r3 h3 fun d ρ4 v G4 H4 h4 z4 kp4 r4 p4=>?_
   exact ⟨by simp; omega,G4,es++[d],z.trans (z1.trans (z3.trans z4)),bk z4 r4,fV (Reps.mono (z1.trans (z3.trans z4)) _ _ pa) (b_ p4 ck),h4⟩
  | false =>
   rw [if_neg (by decide)] at h3 ⊢
   exact ⟨by omega,G3,es,z.trans (z1.trans z3),bk (aU.refl _) r3,Reps.mono (z1.trans z3) _ _ pa,h3⟩
 ·have e:i=ds.length:=by omega
  subst e
  refine .inl ⟨sp (Nat.le_refl _),dG (by omega),?_⟩
  obtain ⟨O2,r2⟩:=r'
  refine k es acc G' H' (fin es w) z ⟨pA (fun _=>none) (fun _=>none) O O2,?_⟩ pa (by omega)
  refine ro.out (vs:=[]) r2 (fun _ _ _ e=>by cases e) ro.len ro.np (fun i d _ e=>e) (fun i d _ e=>.inl ⟨rfl,e⟩) fun O3 h1 h2 ts=>?_
  exact cu.keep ts (fun a j π hj e=>h1 a _ _ e rfl) ro.pn
section
variable {X:Cx} {ow:List Bool} {elt tg iter:Expr} {ifs:List Expr} {pos:Pos} {mi:MA} {mg:MG} {mt:MT} {me:ME} {scope:Scope} {cl:List (Str×Addr)}
def KeepG (n:Nat) (g:TG):Prop:=∀ (σ0:St),(∀ i,i<n→σ0[i]? = some none)→∀ σ x H k,kept σ0 σ→g x σ H k→g x σ H fun σ2 H2=>kept σ0 σ2∧k σ2 H2
theorem iB:∀ {a b:St} {i:Nat} {v:V},kept a b→a[i]? = some none→kept a (b.set i (some v))
 | [],[],i,v,h,e=>by simp at e
 | none :: r,y :: r',0,v,h,e=>h
 | none :: r,y :: r',i + 1,v,h,e=>by simp only [List.set_cons_succ]; exact iB (a:=r) (b:=r') h (by simpa using e)
 | some w :: r,y :: r',0,v,h,e=>by simp at e
 | some w :: r,y :: r',i + 1,v,h,e=>by simp only [List.set_cons_succ]; exact ⟨h.1,iB (a:=r) (b:=r') h.2 (by simpa using e)⟩
 | [],_ :: _,_,_,h,_=>h.elim
 | none :: _,[],_,_,h,_=>h.elim
 | some _ :: _,[],_,_,h,_=>h.elim
theorem fh:∀ (a:St),kept a a
 | []=>trivial
 | none :: r=>fh r
 | some v :: r=>⟨rfl,fh r⟩
def MonG (g:TG):Prop:=∀ x σ H (k k':St→Hp→Prop),(∀ σ2 H2,k σ2 H2→k' σ2 H2)→g x σ H k→g x σ H k'
structure CG (n:Nat) (g:TG) (m:MG):Prop where
 sg:SG ⟨[],[],false⟩ g m
 kp:KeepG n g
 mn:MonG g
theorem bH {n:Nat} (i:Nat) (h:i<n:=by decide):CG n (iL i) (iA i) :=
 ⟨fun C G ρ σ H pd d v k K hm r p h kk=>by obtain ⟨O,r⟩:=r; exact kk _ _ h ⟨O,r.setS (by simp) (fun v e=>by have:=hm i v e; simp at this) p⟩,
  fun σ0 h0 σ x H k hk hg=>⟨iB hk (h0 i h),hg⟩,fun x σ H k k' hk h=>hk _ _ h⟩
def canE (ow:List Bool) (m:ME):TE:=fun σ H Q=>∃ (C:Ctx) (G:Hp) (ρ:DSt) (pd:List (D×V)) (q:D→DSt→Prop),R C ow G ρ σ H pd∧m ρ q∧∀ d ρ' v G' H',q d ρ'→aU G G'→Kp ow ρ ρ'→R C ow G' ρ' σ H' pd→Rep G' d v→Q v H'
def canT (ow:List Bool) (m:MT):TT:=fun σ H Q=>∃ (C:Ctx) (G:Hp) (ρ:DSt) (pd:List (D×V)) (q:Bool→DSt→Prop),R C ow G ρ σ H pd∧m ρ q∧∀ d ρ' G' H',q d ρ'→aU G G'→Kp ow ρ ρ'→R C ow G' ρ' σ H' pd→Q d H'
theorem pJ {ow:List Bool} {m:ME}:SE ow (canE ow m) m:=fun C G ρ σ H pd q Q r h k=>⟨C,G,ρ,pd,q,r,h,k⟩
theorem ql {ow:List Bool} {m:MT}:STe ow (canT ow m) m:=fun C G ρ σ H pd q Q r h k=>⟨C,G,ρ,pd,q,r,h,k⟩
theorem QE.can {X:Cx} {ow:List Bool} {e:Expr} {m:ME} (h:QE X ow e m):PE X e (canE ow m):=by
 obtain ⟨t,p,s⟩:=h
 exact ⟨fun pins s' σ H Q I ⟨C,G,ρ,pd,q,r,h,k⟩=>p.go pins s' σ H Q I (s C G ρ σ H pd q Q r h k)⟩
theorem QIf.can {X:Cx} {ow:List Bool} {e:List Expr} {m:MT} (h:QIf X ow e m):PIf X e (canT ow m):=by
 obtain ⟨t,p,s⟩:=h
 exact ⟨fun pins s' σ H Q I ⟨C,G,ρ,pd,q,r,h,k⟩=>p.go pins s' σ H Q I (s C G ρ σ H pd q Q r h k)⟩
theorem i5 {own:List Str} {js:List Nat} {σ:St}:∀ i,i<own.length→(dD own js σ)[i]? = some none:=fun i h=>by
 unfold dD
 rw [List.getElem?_append_left (by simpa using h),List.getElem?_map,List.getElem?_eq_getElem h]; rfl
theorem rM {ow:List Bool} {wi:TI} {g:TG} {own:List Str} {js:List Nat} (si:SI ow wi mi) (cg:CG own.length g mg) (hj:∀ j∈js,ow[j]?≠some true):SF ow (lU wi g (canT [] mt) (canE [] me) own js) (ue mi mg mt me own.length js):=fun C G ρ σ H pd q Q r h k =>
 si C G ρ σ H pd _ _ r h fun ds ρ' G' H' J hq z kp r' jo=>by
  refine hX r' hj jo cg.sg ql pJ (fun x H k hg=>cg.kp _ i5 _ x H k (fh _) hg) hq.1 hq.2 fun es vs G2 H2 hK z2 r2 p2 hl p hp=>?_
  obtain ⟨O2,r2⟩:=r2
  exact k _ ρ' _ _ _ hK.2 (z.trans z2) kp (r2.newL hp hK.1 p2)
theorem mj {ow:List Bool} {wi:TI} {g:TG} {own:List Str} {js:List Nat} (si:SI ow wi mi) (cg:CG own.length g mg) (hj:∀ j∈js,ow[j]?≠some true):SE ow (lU wi g (canT [] mt) (canE [] me) own js) (lJ mi mg mt me own.length js):=fun C G ρ σ H pd q Q r h k =>
 si C G ρ σ H pd _ _ r h fun ds ρ' G' H' J hq z kp r' jo=>by
  refine hX r' hj jo cg.sg ql pJ (fun x H k hg=>cg.kp _ i5 _ x H k (fh _) hg) hq.1 hq.2 fun es vs G2 H2 hK z2 r2 p2 hl p hp=>?_
  obtain ⟨O2,r2⟩:=r2
  obtain ⟨r3,z3⟩:=r2.new hp (.lst vs)
  exact k _ ρ' _ _ _ hK (z.trans (z2.trans z3)) kp ⟨O2,r3⟩ (fL aM (Reps.mono z3 _ _ p2))
structure CInn (X:Cx) (tg:Expr) (ifs:List Expr) (elt:Expr) (g:TG) (mt:MT) (me:ME):Prop where
 pg:PG X tg g
 qi:QIf X [] ifs mt
 qe:QE X [] elt me
theorem jI {g:TG} (own:List Str) (js:List Nat) (c:CompOk X scope cl own js) (hc:X.calm=true) (hi:QI X ow tg iter mi) (cg:CG own.length g mg)
 (inner:∀ (C:Addr) (s₀:Shared) (H₀:Hp) (ex:List Addr),CInn (bT X scope cl (dA X own js) C s₀ H₀ ex) tg ifs elt g mt me) (hj:∀ j∈js,ow[j]?≠some true:=by decide)
 (hs:∀ x,foldedSetIterable iter X.env x=pure x:=by intro _; rfl):QF X ow (.ListComp elt [⟨tg,iter,ifs,0⟩] scope pos) (ue mi mg mt me own.length js):=by
 obtain ⟨wi,pi,si⟩:=hi
 exact ⟨_,lW own js c hc pi (fun C s₀ H₀ ex=>⟨(inner C s₀ H₀ ex).pg,(inner C s₀ H₀ ex).qi.can,(inner C s₀ H₀ ex).qe.can⟩) hs,rM si cg hj⟩
theorem c9 {g:TG} (own:List Str) (js:List Nat) (c:CompOk X scope cl own js) (hc:X.calm=true) (hi:QI X ow tg iter mi) (cg:CG own.length g mg)
 (inner:∀ (C:Addr) (s₀:Shared) (H₀:Hp) (ex:List Addr),CInn (bT X scope cl (dA X own js) C s₀ H₀ ex) tg ifs elt g mt me) (hj:∀ j∈js,ow[j]?≠some true:=by decide)
 (hs:∀ x,foldedSetIterable iter X.env x=pure x:=by intro _; rfl):QE X ow (.ListComp elt [⟨tg,iter,ifs,0⟩] scope pos) (lJ mi mg mt me own.length js):=by
 obtain ⟨wi,pi,si⟩:=hi
 exact ⟨_,lW own js c hc pi (fun C s₀ H₀ ex=>⟨(inner C s₀ H₀ ex).pg,(inner C s₀ H₀ ex).qi.can,(inner C s₀ H₀ ex).qe.can⟩) hs,mj si cg hj⟩
theorem d7 {M:Md} {g:TG} {i:Nat} {y:Str} {spos py:Pos} (own:List Str) (js:List Nat) (c:CompOk X scope cl own js) (hc:X.calm=true) (hN:X.N.Nodup) (hy:X.N[i]? = some y) (hx:Loc X.env.scope y) (hi:QI X M.ow tg iter mi) (cg:CG own.length g mg)
 (inner:∀ (C:Addr) (s₀:Shared) (H₀:Hp) (ex:List Addr),CInn (bT X scope cl (dA X own js) C s₀ H₀ ex) tg ifs elt g mt me) (hj:∀ j∈js,M.ow[j]?≠some true:=by decide) (ho:M.ow[i]?≠some true:=by decide) (hu:M.mu[i]?≠some true:=by decide)
 (hsw:swapsWith (.ListComp elt [⟨tg,iter,ifs,0⟩] scope pos) (some (.Name y py)) spos.line X.env=pure true:=by rfl)
 (hs:∀ x,foldedSetIterable iter X.env x=pure x:=by intro _; rfl) (hf:X.fn y=true∨X.env.scope.names.lookup y=some .local:=by first | exact .inl rfl | exact .inr rfl | assumption) :
 QS X M (.Assign [.Name y py] (.ListComp elt [⟨tg,iter,ifs,0⟩] scope pos) spos) (nW i (lJ mi mg mt me own.length js)):=by
 obtain ⟨wi,pi,si⟩:=hi
 exact ⟨_,lj own js c hc hN hy hx pi (fun C s₀ H₀ ex=>⟨(inner C s₀ H₀ ex).pg,(inner C s₀ H₀ ex).qi.can,(inner C s₀ H₀ ex).qe.can⟩) hsw hs hf,qC (mj si cg hj) ho hu⟩
end
theorem dr {g:MG} {mt:MT} {me:ME} {ρ0:DSt} {ds:List D} {K:List D→Prop} (f:D→Option D)
 (step:∀ (d:D),d∈ds→∀ k:Option D→Prop,k (f d)→g d ρ0 fun ρ2=>mt ρ2 fun b ρ3=>if b=true then me ρ3 fun x _=>k (some x) else k none) (h:K (ds.filterMap f)):kI g mt me ρ0 ds K:=by
 refine ⟨fun i es=>es=(ds.take i).filterMap f,rfl,?_,fun es e=>by rw [e,List.take_length]; exact h⟩
 rintro i d es hd rfl
 have:=step d (List.mem_of_getElem? hd) (fun o=>match o with | some x=>(ds.take i).filterMap f++[x]=(ds.take (i + 1)).filterMap f | none=>(ds.take i).filterMap f=(ds.take (i + 1)).filterMap f) (by
  rw [List.take_add_one,hd]
  simp only [Option.toList,List.filterMap_append]
  cases e:f d with
  | none=>simp [e]
  | some x=>simp [e])
 exact this
theorem ce {g:MG} {me:ME} {ρ0:DSt} {ds:List D} {K:List D→Prop} (f:D→D)
 (step:∀ (d:D),d∈ds→∀ k:D→Prop,k (f d)→g d ρ0 fun ρ2=>me ρ2 fun x _=>k x) (h:K (ds.map f)):kI g (pv true) me ρ0 ds K:=by
 refine ⟨fun i es=>es=(ds.take i).map f,rfl,?_,fun es e=>by rw [e,List.take_length]; exact h⟩
 rintro i d es hd rfl
 have:=step d (List.mem_of_getElem? hd) (fun x=>(ds.take i).map f++[x]=(ds.take (i + 1)).map f) (by
  rw [List.take_add_one,hd]; simp)
 exact this
def ln (x:Int):List Int→List Int
 | []=>[x]
 | y :: r=>if x≤y then x :: y :: r else y :: ln x r
def bc:List Int→List Int
 | []=>[]
 | x :: r=>ln x (bc r)
theorem gf (x:Int):∀ l:List Int,(ln x l).Perm (x :: l)
 | []=>List.Perm.refl _
 | y :: r=>by
  unfold ln
  split
  ·exact List.Perm.refl _
  ·exact ((gf x r).cons y).trans (List.Perm.swap x y r)
theorem aZ:∀ l:List Int,(bc l).Perm l
 | []=>List.Perm.refl _
 | x :: r=>(gf x (bc r)).trans ((aZ r).cons x)
theorem gx (x:Int):∀ {l:List Int},l.Pairwise (·≤·)→(ln x l).Pairwise (·≤·)
 | [],_=>by simp [ln]
 | y :: r,h=>by
  unfold ln
  rw [List.pairwise_cons] at h
  split
  ·rename_i c
   refine List.pairwise_cons.mpr ⟨fun z hz=>?_,List.pairwise_cons.mpr h⟩
   rcases List.mem_cons.mp hz with rfl | hz
   ·exact c
   ·exact Int.le_trans c (h.1 z hz)
  ·rename_i c
   refine List.pairwise_cons.mpr ⟨fun z hz=>?_,gx x h.2⟩
   rcases List.mem_cons.mp ((gf x r).mem_iff.mp hz) with rfl | hz
   ·omega
   ·exact h.1 z hz
theorem cV:∀ l:List Int,(bc l).Pairwise (·≤·)
 | []=>List.Pairwise.nil
 | x :: r=>gx x (cV r)
theorem hZ:∀ {a b:List Int},a.Perm b→a.Pairwise (·≤·)→b.Pairwise (·≤·)→a=b
 | [],b,p,_,_=>(List.Perm.nil_eq p)
 | x :: a,[],p,_,_=>by have:=p.length_eq; simp at this
 | x :: a,y :: b,p,ha,hb=>by
  have hx:x=y:=by
   rw [List.pairwise_cons] at ha hb
   have h1:x∈y :: b:=p.mem_iff.mp (.head _)
   have h2:y∈x :: a:=p.mem_iff.mpr (.head _)
   rcases List.mem_cons.mp h1 with rfl | h1
   ·rfl
   rcases List.mem_cons.mp h2 with h2 | h2
   ·exact h2.symm
   have:=ha.1 y h2
   have:=hb.1 x h1
   omega
  subst hx
  rw [hZ ((List.perm_cons x).mp p) (List.pairwise_cons.mp ha).2 (List.pairwise_cons.mp hb).2]
theorem kf {a b:List Int} (p:a.Perm b) (h:a.Pairwise (·≤·)):a=bc b:=hZ (p.trans (aZ b).symm) h (cV b)
theorem i6 (l:List Int):(bc l).length=l.length:=(aZ l).length_eq
section
variable {X:Cx}
def p5 (K:PySem.W.Frag):List V→Hp→VK→Prop:=fun xs H Q=>∃ (p:Addr) (ns:List Int),xs=[.ref p]∧SqL K H p (ns.map V.int)∧ns.length<64∧∀ l,H l=none→Q (.ref l) (upd H l (.lst ((bc ns).map V.int)))
theorem eD:dl X (.builtin "sorted") (p5 X.K):=by
 intro pins s σ H xs us Q I r h
 obtain ⟨p,ns,rfl,hS,h64,q⟩:=h
 obtain ⟨u,rfl,ru⟩:=gA r
 cases ru
 obtain ⟨its,rv,pl,_⟩:=I.list hS
 have hI:IntsAre its ns:=gS rv
 have hlen:its.length=ns.length:=by have:=rv.length; simp at this; exact this.symm
 refine sorted_ints (l:=p) (vs:=its) (ns:=ns) (isList_of pl) hI (by omega) fun out ns' a1 a2 a3=>?_
 obtain ⟨e,he⟩:=sortedAll_at s.heap its out
 have hl:ns'=bc ns:=kf a2 a3
 subst hl
 refine ⟨.ref (s.heap.objs.size + 1),_,I.laid (a:=s.heap.objs.size + 1) (o:=.lst ((bc ns).map V.int)) (t':=s.toks) (fun _ _ q=>sortedAll_old q) (Nat.le_succ _) ?_,rfl,q _ (I.hok.fresh (Nat.le_succ _))⟩
 refine ⟨Nat.le_of_lt (d4 (by rw [List.length_map,i6]; omega)),out.toList,e,e7 a1,?_⟩
 simpa [seqObj] using he
where
 isList_of {h:Heap} {a:Addr} {its:List Value} (pl:PlainL h a its.toArray):h.IsList a its.toArray:=by
  first | exact pl.isList | exact pl.1 | exact pl
theorem lq {pins:List (Addr×Obj)} {σ:St} {H:Hp} {s:Shared} {p:Addr} {xs:List V} (I:Inv X pins σ H s) (h:SqL X.K H p xs):∃ its:List Value,aY xs its∧s.heap.IsList p its.toArray:=by
 obtain ⟨its,rv,⟨o,n,h1,h2,h3,h4⟩,_⟩:=I.list h
 exact ⟨its,rv,o,h1,h2,n,h4⟩
theorem iM (hc:X.calm=true):dl X (.builtin "sum") (fun xs H Q=>∃ (p:Addr) (ns:List Int),xs=[.ref p]∧SqL X.K H p (ns.map V.int)∧Q (.int ns.sum) H):=by
 intro pins s σ H xs us Q I r h
 obtain ⟨p,ns,rfl,hS,q⟩:=h
 obtain ⟨u,rfl,ru⟩:=gA r
 cases ru
 obtain ⟨its,rv,hl⟩:=lq I hS
 have hI₂:IntsAre its ns:=gS rv
 obtain ⟨ys,hys⟩:=hI₂.allInts.items
 have hlY:s.heap.IsList p (intItems ys):=hys ▸ hl
 refine sum_intListG (I.ok.hd hc) hlY fun hp tk₁ tk₂ kept=>?_
 have eY:ns=ys.toList.map (·.1):=by
  rw [← nums_intItems,← hys]; exact Eq.symm (show numsOf its.toArray.toList=ns from hI₂.numsOf)
 have eS:preSum (numAt ys) ys.size=ns.sum:=by rw [preSum_eq,List.take_of_length_le (by simp),eY]
 rw [eS]
 exact ⟨.int ns.sum,H,I.kept kept,⟨tk₂,rfl⟩,q⟩
end
theorem cZ {G:Hp}:∀ {ns:List Int} {xs:List V},Reps G (ns.map D.int) xs→xs=ns.map V.int
 | [],xs,h=>by rw [List.map_nil,Reps] at h; subst h; rfl
 | n :: r,xs,h=>by rw [List.map_cons,Reps] at h; obtain ⟨v,vs,rfl,h1,h2⟩:=h; rw [aD h1,cZ h2]; rfl
def oU:List D→(List D→Prop)→Prop:=fun ds q=>match ds with
 | [.lst xs]=>∃ ns:List Int,xs=ns.map D.int∧ns.length<64∧q ((bc ns).map D.int)
 | _=>False
theorem lc {K:PySem.W.Frag}:fS (p5 K) oU:=fun G H xs ds q Q s p hf k=>by
 unfold oU at hf
 split at hf
 ·obtain ⟨v,rfl,p1⟩:=bK p
  obtain ⟨a,xs,rfl,h1,h2⟩:=bq p1
  obtain ⟨ns,rfl,hl,hq⟩:=hf
  rw [cZ h2] at h1
  exact ⟨a,ns,rfl,SqL.of (s _ _ h1),hl,fun l hl=>k _ _ l hq (ga _) hl⟩
 ·exact hf.elim
def fSum:List D→(D→Prop)→Prop:=fun ds q=>match ds with
 | [.lst xs]=>∃ ns:List Int,xs=ns.map D.int∧q (.int ns.sum)
 | _=>False
theorem dSum {K:PySem.W.Frag}:gE (fun xs H Q=>∃ (p:Addr) (ns:List Int),xs=[.ref p]∧SqL K H p (ns.map V.int)∧Q (.int ns.sum) H) fSum:=fun G H xs ds q Q s p hf k=>by
 unfold fSum at hf
 split at hf
 ·obtain ⟨v,rfl,p1⟩:=bK p
  obtain ⟨a,xs,rfl,h1,h2⟩:=bq p1
  obtain ⟨ns,rfl,hq⟩:=hf
  rw [cZ h2] at h1
  exact ⟨a,ns,rfl,SqL.of (s _ _ h1),k _ _ hq (bD _)⟩
 ·exact hf.elim
section
variable {C:Ctx} {ow:List Bool} {G:Hp} {ρ:DSt} {σ:St} {H:Hp} {pd:List (D×V)} {O:Own}
end
section
variable {ow:List Bool} {t:TE} {m:ME}
end
section
variable {X:Cx} {M:Md} {a b c e:Expr} {ma mb mc:ME} {pos pos':Pos} {mr:MA} {es:List Expr}
theorem cf (ns:List Int):imms (ns.map D.int)=true:=by
 induction ns with
 | nil=>rfl
 | cons n r ih=>simp only [List.map,imms,imm,ih]; rfl
end
def mCut (m:MS):MS:=fun n ρ=>∃ I:DSt→Prop,m { n with nx:=I } ρ∧∀ ρ',I ρ'→n.nx ρ'
theorem ge {X:Cx} {M:Md} {st:Stmt} {m:MS} (h:QS X M st m):QS X M st (mCut m):=by
 obtain ⟨t,p,s⟩:=h
 refine ⟨_,p,fun C G ρ σ H n D hm hn r h k=>?_⟩
 obtain ⟨I,h1,h2⟩:=h
 exact s C G ρ σ H _ D hm hn r h1 ⟨fun ρ' σ' G' H' hi=>k.nx ρ' σ' G' H' (h2 ρ' hi),k.bk,k.ct,k.rt⟩
mutual
theorem Sep.strip {G H:Hp} {O O':Own} {i i':Nat} {sfx:List Nat} :
 ∀ (d:D) (π:List Nat) (v:V),(∀ a τ,O a=some (i,(τ++π)++sfx)→O' a=some (i',τ++π))→Sep G H O i d (π++sfx) v→Sep G H O' i' d π v
 | .non,_,_,_,h=>by rw [Sep] at *; exact h
 | .bl b,_,_,_,h=>by rw [Sep] at *; exact h
 | .int n,_,_,_,h=>by rw [Sep] at *; exact h
 | .str x,_,_,_,h=>by rw [Sep] at *; exact h
 | .tup ds,π,v,hO,h=>by
  rw [Sep] at *
  obtain ⟨a,xs,h1,h2,h3⟩:=h
  exact ⟨a,xs,h1,h2,Seps.strip ds 0 π xs (fun a τ=>hO a τ) h3⟩
 | .lst ds,π,v,hO,h=>by
  rw [Sep] at *
  obtain ⟨a,xs,h1,h2,h3,h4⟩:=h
  exact ⟨a,xs,h1,hO a [] h2,h3,Seps.strip ds 0 π xs (fun a τ=>hO a τ) h4⟩
 | .dic ks ds,π,v,hO,h=>by
  rw [Sep] at *
  obtain ⟨a,xs,h1,h2,h3,h5,h4⟩:=h
  exact ⟨a,xs,h1,hO a [] h2,h3,h5,Seps.strip ds 0 π xs (fun a τ=>hO a τ) h4⟩
 | .dct,_,_,_,h=>by rw [Sep] at h; exact h.elim
 | .scr _ _,_,_,_,h=>by rw [Sep] at h; exact h.elim
 | .ext _,_,_,_,h=>by rw [Sep] at h; exact h.elim
theorem Seps.strip {G H:Hp} {O O':Own} {i i':Nat} {sfx:List Nat} :
 ∀ (ds:List D) (k:Nat) (π:List Nat) (xs:List V),(∀ a τ,O a=some (i,(τ++π)++sfx)→O' a=some (i',τ++π))→Seps G H O i ds k (π++sfx) xs→Seps G H O' i' ds k π xs
 | [],_,_,_,_,h=>by rw [Seps] at *; exact h
 | d :: ds,k,π,xs,hO,h=>by
  rw [Seps] at *
  obtain ⟨v,vs,h1,h2,h3⟩:=h
  refine ⟨v,vs,h1,Sep.strip d (k :: π) v (fun a τ e=>?_) h2,Seps.strip ds (k + 1) π vs hO h3⟩
  have e' : τ++k :: π=(τ++[k])++π:=by simp
  rw [e'] at e ⊢
  exact hO a (τ++[k]) e
end
section
variable {C:Ctx} {ow:List Bool} {G:Hp} {ρ:DSt} {σ:St} {H:Hp} {pd:List (D×V)} {O:Own}
theorem RO.split {ds:List D} {v:V} (h:RO C ow G ρ σ H ((.tup ds,v) :: pd) O) (hn:C.np≤pd.length):∃ a xs,v = .ref a∧G a=some (.tup xs)∧xs.length=ds.length∧R C ow G ρ σ H (ds.zip xs++pd):=by
 obtain ⟨s,pn⟩:=h.pn
 rw [Sep] at s
 obtain ⟨a,xs,rfl,hG,hs⟩:=s
 have hl:=hs.length
 refine ⟨a,xs,rfl,hG,hl,lab (fun l π=>if l=2 * pd.length + 1 then (2 * (pd.length + (ds.length - 1 - π.getLastD 0)) + 1,π.dropLast) else (l,π)) O,h.len,h.gh,h.g0,h.gn,?_,h.cok,h.fr,h.ft,h.al,h.mp,?_,?_,by simp; omega⟩
 ·intro b m e
  obtain ⟨l,π,e1,rfl⟩:=gr e
  obtain ⟨q1,q2,q3⟩:=h.og b _ e1
  refine ⟨q1,q2,?_⟩
  split
  ·rename_i z
   rcases q3 with q3 | ⟨_,q3⟩
   ·exact .inl q3
   ·rcases h.cok _ _ _ q3 with ⟨k,_,q4,_⟩ | ⟨k,q4,q5⟩
    ·exact absurd (q4.symm.trans z) cD
    ·omega
  ·exact q3
 ·intro j e q
  obtain ⟨u,h1,h2⟩:=h.sl j e q
  refine ⟨u,h1,?_⟩
  split at h2
  ·rename_i c; rw [if_pos c]; exact h2.keep (fun _ _ z=>z) fun a τ q=>⟨by rw [bM q,if_neg cD],rfl⟩
  ·rename_i c; rw [if_neg c]; exact h2
 ·have old:∀ (O':Own),(∀ b j π,j<pd.length→O b=some (2 * j + 1,π)→O' b=some (2 * j + 1,π))→cu G H O' pd:=fun O' hO=>cu.keep (fun _ _ z=>z) (fun b j π hj q=>⟨hO b j π hj q,rfl⟩) pn
  have key:∀ (ds0:List D) (k:Nat) (xs0:List V) (O':Own),k + ds0.length=ds.length→Seps G H O (2 * pd.length + 1) ds0 k [] xs0 →
   (∀ b j π,j<pd.length→O b=some (2 * j + 1,π)→O' b=some (2 * j + 1,π))→(∀ b τ k',O b=some (2 * pd.length + 1,τ++[k'])→O' b=some (2 * (pd.length + (ds.length - 1 - k')) + 1,τ))→cu G H O' (ds0.zip xs0++pd):=by
   intro ds0
   induction ds0 with
   | nil=>intro k xs0 O' _ _ ho _; exact old O' ho
   | cons d0 r ih =>
    intro k xs0 O' hk hh ho hnw
    rw [Seps] at hh
    obtain ⟨w,ws,rfl,w1,w2⟩:=hh
    have hwl:=w2.length
    refine ⟨?_,ih (k + 1) ws O' (by simp at hk; omega) w2 ho hnw⟩
    have e:(List.zip r ws++pd).length=pd.length + (ds.length - 1 - k):=by simp at hk ⊢; omega
    show Sep G H O' (2 * (List.zip r ws++pd).length + 1) d0 [] w
    rw [e]
    exact Sep.strip (sfx:=[k]) d0 [] w (fun b τ q=>by simpa using hnw b τ k (by simpa using q)) w1
  refine key ds 0 xs _ (by omega) hs (fun b j π hj q=>by rw [bM q,if_neg (by omega)]) (fun b τ k' q=>?_)
  rw [bM q,if_pos rfl]
  simp
end
def SGF (M:Md) (g:TGs) (m:MGs):Prop:=∀ (C:Ctx) (G:Hp) (ρ:DSt) (σ:St) (H:Hp) (T pd:List (D×V)) (k:DSt→Prop) (K:St→Hp→Prop),gT C M.mu→C.np≤pd.length→R C M.ow G ρ σ H (T++pd)→m (T.map (·.1)) ρ k →
 (∀ ρ' σ' G',k ρ'→aU G G'→R C M.ow G' ρ' σ' H pd→K σ' H)→g (T.map (·.2)) σ H K
structure QGF (X:Cx) (M:Md) (e:List Expr) (m:MGs):Prop where
 ex:∃ t,PGs X e t∧SGF M t m
section
variable {X:Cx} {M:Md} {a b c e:Expr} {ma mb mc:ME} {pos pos':Pos} {mr:MA} {es:List Expr} {mgs:MGs}
theorem jQ:QGF X M [] nY:=⟨_,mo,fun C G ρ σ H T pd k K hm hn r h kk=>by
 cases T with
 | nil=>exact ⟨rfl,kk _ _ G h (aU.refl _) r⟩
 | cons _ _=>exact h.elim⟩
theorem jn {i:Nat} {x:Str} (hN:X.N.Nodup) (hi:X.N[i]? = some x) (hx:Loc X.env.scope x) (h2:QGF X M es mgs) (ho:M.ow[i]? = some true:=by decide) (hu:M.mu[i]?≠some true:=by decide) (hf:X.fn x=true∨X.env.scope.names.lookup x=some .local:=by first | exact .inl rfl | exact .inr rfl | assumption)
 (hs:(assignEach (.Name x pos :: es) X.env).map (·.2)=assign (.Name x pos) X.env :: (assignEach es X.env).map (·.2):=by rfl):QGF X M (.Name x pos :: es) (jV (iA i) mgs):=by
 obtain ⟨t2,p2,s2⟩:=h2
 refine ⟨_,g_ (bg hN hi hx hf) p2 hs,fun C G ρ σ H T pd k K hm hn r h kk=>?_⟩
 cases T with
 | nil=>exact h.elim
 | cons x T =>
  obtain ⟨O,r⟩:=r
  exact ⟨_,_,rfl,s2 C G _ _ H T pd k K hm hn (r.setO ho (hm.no hu) (by simp; omega)) h kk⟩
theorem gU {i:Nat} {x:Str} (hN:X.N.Nodup) (hi:X.N[i]? = some x) (hx:Loc X.env.scope x) (h2:QGF X M es mgs) (ho:M.ow[i]?≠some true:=by decide) (hu:M.mu[i]?≠some true:=by decide) (hf:X.fn x=true∨X.env.scope.names.lookup x=some .local:=by first | exact .inl rfl | exact .inr rfl | assumption)
 (hs:(assignEach (.Name x pos :: es) X.env).map (·.2)=assign (.Name x pos) X.env :: (assignEach es X.env).map (·.2):=by rfl):QGF X M (.Name x pos :: es) (jV (iA i) mgs):=by
 obtain ⟨t2,p2,s2⟩:=h2
 refine ⟨_,g_ (bg hN hi hx hf) p2 hs,fun C G ρ σ H T pd k K hm hn r h kk=>?_⟩
 cases T with
 | nil=>exact h.elim
 | cons x T =>
  obtain ⟨O,r⟩:=r
  obtain ⟨G2,z2,⟨O2,r2⟩,p⟩:=r.share (by simp; omega)
  exact ⟨_,_,rfl,s2 C G2 _ _ H T pd k K hm hn ⟨O2,r2.setS ho (hm.no hu) p⟩ h fun ρ' σ' G' hk z r'=>kk ρ' σ' G' hk (z2.trans z) r'⟩
theorem jx {kk:Nat} {n:Nat} {tpos:Pos} (hc:X.calm=true) (he:QM X M e ma) (hg:QGF X M es mgs) (ht:iO n mgs)
 (hn:(assignEach es X.env).length=n:=by rfl) (hst:(assignEach es X.env).findIdx? (·.1)=none:=by rfl)
 (hs:swapsWithSole [.Tuple es kk tpos] e pos.line X.env=pure false:=by rfl) (hw:swappedStores [.Tuple es kk tpos] e X.env=pure none:=by rfl)
 (h1:(assignEach [.Tuple es kk tpos] X.env).map (·.2)=[assign (.Tuple es kk tpos) X.env]:=by rfl):QS X M (.Assign [.Tuple es kk tpos] e pos) (mAsg ma (t8 mgs)):=by
 obtain ⟨t,p,s⟩:=he; obtain ⟨t2,p2,s2⟩:=hg
 refine ⟨_,k9 p (qG hc p2 hn hst) hs hw h1,fun C G ρ σ H n D hm hn r h k=>s C G ρ σ H [] _ _ hm r h fun d ρ' v G' H' hq z r'=>?_⟩
 cases d with
 | tup ds =>
  obtain ⟨O,r'⟩:=r'
  obtain ⟨a,xs,rfl,h1,h2,r2⟩:=r'.split (by rw [hn]; exact Nat.zero_le _)
  have hl:=ht _ _ _ hq
  have e1:(ds.zip xs).map (·.1)=ds:=List.map_fst_zip (by omega)
  have e2:(ds.zip xs).map (·.2)=xs:=List.map_snd_zip (by omega)
  refine ⟨a,xs,rfl,SqT.of (r2.gh _ _ h1),by omega,?_⟩
  have:=s2 C G' ρ' σ H' (ds.zip xs) [] n.nx D.nx hm (by rw [hn]; exact Nat.zero_le _) r2 (by rw [e1]; exact hq) fun ρ3 σ3 G3 h3 z3 r3=>k.nx ρ3 σ3 G3 H' h3 (z.trans z3) r3
  rw [e2] at this
  exact this
 | _=>exact hq.elim
end
def rGetL (K:PySem.W.Frag):V→V→Hp→VK→Prop:=fun x y H Q=>∃ p xs i v,x = .ref p∧y = .int i∧SqL K H p xs∧0≤i∧atI xs i=some v∧Q v H
theorem p7 {X:Cx}:PGet X (rGetL X.K):=fun pins s σ H o i ov iv Q I ro ri h=>by
 obtain ⟨p,xs,k,v,rfl,rfl,hS,h0,ha,q⟩:=h
 cases ro
 obtain ⟨t,rfl⟩:=ri
 obtain ⟨its,r,pl,hz⟩:=I.list hS
 obtain ⟨j,h1,h2,h3,h4,h5⟩:=f7 ha
 obtain ⟨w,ew,rw'⟩:=r.get h2
 have hn:=fw
 have hj:k.toNat=j:=by
  rw [seqIndex_of h0 h5] at h1
  exact Option.some.inj h1
 exact wpAny_getItem_list pl.isList h0 (by omega) (by rw [hj]; simpa using ew) ⟨v,H,I,rw',q⟩
section
variable {X:Cx} {M:Md} {a b c e:Expr} {ma mb mc:ME} {pos pos':Pos}
def t_ (i:Nat) (mk m:ME):MS:=fun n ρ=>match ρ[i]? with
 | some (some (.lst _))=>mk ρ fun k ρ1=>match k with
  | .int j=>match ρ1[i]? with
   | some (some (.lst ds))=>0≤j∧match atI ds j with
    | some (.int x)=>m ρ1 fun d ρ2=>match d with
     | .int y=>match ρ2[i]? with
      | some (some (.lst ds2))=>match ixN ds2.length j with
       | some p=>n.nx (ρ2.set i (some (.lst (ds2.set p (.int (x + y))))))
       | none=>False
      | _=>False
     | _=>False
    | _=>False
   | _=>False
  | _=>False
 | _=>False
theorem rP {i:Nat} {x:Str} {npos spos:Pos} (hN:X.N[i]? = some x) (he:QE X M.ow e ma) (hk:QE X M.ow b mb) (ho:M.ow[i]? = some true:=by decide)
 (hv:Vis X.env.scope x:=by first | exact Or.inl rfl | exact Or.inr (Or.inl rfl) | exact Or.inr (Or.inr rfl)) (hd:(x == ("__debug__":Str))=false:=by decide) (hcd:(x == ("__classdict__":Str))=false:=by decide)
 (ha:∀ ov iv new,augStore b ov iv new=(do holding [new,ov,iv] (setItem ov iv new); release [new,ov,iv] []; pure .next):=by intros; rfl) :
 QS X M (.AugAssign (.Subscript (.Name x npos) b spos) .Add e pos) (t_ i mb ma):=by
 obtain ⟨t,p,s⟩:=he; obtain ⟨t2,p2,s2⟩:=hk
 refine ⟨_,rS (eT hN hv hd hcd) p2 p7 p vt kN ha,fun C G ρ σ H n D hm hn r h k=>?_⟩
 unfold t_ at h
 split at h
 ·rename_i ds0 e0
  obtain ⟨O0,ro⟩:=r
  obtain ⟨a,xs0,hu,g0,_,_⟩:=ro.write e0 ho
  refine ⟨.ref a,hu,?_⟩
  refine s2 C G ρ σ H [] _ _ ⟨O0,ro⟩ h fun dk ρ1 jv G1 H1 hq1 z1 kp1 r1 pj=>?_
  cases dk with
  | int j =>
   dsimp only at hq1
   split at hq1
   ·rename_i ds1 e1
    obtain ⟨j0,hq1⟩:=hq1
    obtain ⟨O1,r1⟩:=r1
    obtain ⟨a1,xs1,hu1,g1,g2,_⟩:=r1.write e1 ho
    rw [hu] at hu1; cases hu1
    split at hq1
    ·rename_i x ex
     have exx:=ex
     obtain ⟨jj,q1,q2,q3,q4,q5⟩:=f7 ex
     obtain ⟨v,w1,w2⟩:=g2.at q2
     have hv:atI xs1 j=some v:=by
      unfold atI at ex ⊢
      rw [g2.length]
      cases z:ixN ds1.length j with
      | none=>rw [z] at ex; cases ex
      | some j' =>
       have:j'=jj:=by
        have:=(jg z).1; rw [this] at q1; exact Option.some.inj q1
       subst this; exact w1
     have hv2:v = .int x:=by rw [Sep] at w2; exact w2
     subst hv2
     refine ⟨a,xs1,j,.int x,rfl,aD pj,SqL.of g1,j0,hv,?_⟩
     refine s C G1 ρ1 σ H1 [] _ _ ⟨O1,r1⟩ hq1 fun dy ρ2 yv G2 H2 hq2 z2 kp2 r2 py=>?_
     cases dy with
     | int y =>
      dsimp only at hq2
      split at hq2
      ·rename_i ds2 e2
       split at hq2
       ·rename_i pl e3
        obtain ⟨O2,r2⟩:=r2
        obtain ⟨a2,xs2,f1,f2,f3,f4⟩:=r2.write e2 ho
        rw [hu] at f1; cases f1
        refine ⟨x,y,rfl,aD py,a,xs2,j,pl,rfl,aD pj,f2,by rw [f3.length]; exact e3,?_⟩
        exact k.nx _ _ G2 _ hq2 (z1.trans z2) ⟨O2,f4 _ _ (f3.set (by rw [Sep]))⟩
       ·exact hq2.elim
      ·exact hq2.elim
     | _=>exact hq2.elim
    ·exact hq1.elim
   ·exact hq1.elim
  | _=>exact hq1.elim
 ·exact h.elim
end
section
variable {X:Cx} {ow:List Bool} {elt tg iter:Expr} {ifs:List Expr} {pos:Pos} {mi:MA} {mg:MG} {mt:MT} {me:ME} {scope:Scope} {cl:List (Str×Addr)}
end
section
variable {X:Cx} {M:Md} {a b c e:Expr} {ma mb mc:ME} {pos pos' p1 p2 p3:Pos} {te:TE} {j1:Nat} {ow:List Bool}
end
def isW:D→Bool
 | .int _=>true
 | _=>false
def btw (lo hi:Int):D→Bool
 | .int i=>decide (lo≤i)&&decide (i≤hi)
 | _=>false
structure Tree (ps rs:List Int):Prop where
 len:ps.length=rs.length
 lo : 1≤ps.length
 hi:ps.length≤23
 par:∀ (i:Nat) (x:Int),ps[i]? = some x→0≤x∧x≤i
 room:∀ (i:Nat) (x:Int),rs[i]? = some x→1≤x∧x≤1000000
def sC:SpD:=fun ds q=>∃ d,ds=[d]∧d.isS=false∧q (.bl (isW d)) []
def mP:SpD:=fun ds q=>∃ d lo hi,ds=[d,.int lo,.int hi]∧d.isS=false∧q (.bl (btw lo hi d)) []
def uH:SpD:=fun ds q=>∃ ps rs,ds=[aK ps rs]∧Tree ps rs∧q (.bl true) []
def uL:SpD:=fun ds q=>∃ ps rs,ds=[aK ps rs]∧Tree ps rs∧q .non []
def l6 (ns:List Int) (k:Int):Int:=ns.getD k.toNat 0
def lT (K:PySem.W.Frag) (φ:Addr→Prop) (ns:List Int):Prop:=∀ a H,φ a→SqL K H a (ns.map V.int)
def uJ (K:PySem.W.Frag):SpD:=fun ds q=>∃ φ ns k,ds=[.scr φ ns,.int k]∧lT K φ ns∧0≤k∧q (.int (l6 ns k)) []
def wk (K:PySem.W.Frag):SpD:=fun ds q=>∃ φ ns k,ds=[.scr φ ns,.int k]∧lT K φ ns∧0≤k∧k≤1000∧∀ c m,0≤c→q (au [c,m]) []
def ve:SpD:=fun ds q=>∃ c m many,ds=[au [c,m],.int many]∧0≤c∧0<many∧Sm many∧∀ r c' m',0≤r→r<many→0≤c'→q (.int r) [some (au [c',m'])]
def oN (K:PySem.W.Frag):SpD:=fun ds q=>∃ φ ns,ds=[.scr φ ns]∧lT K φ ns∧ns.length≤63∧q (.bl true) []
theorem bp {ns:List Int} {k:Int} (h0 : 0≤k) (h1:k<ns.length):atI (ns.map D.int) k=some (.int (ns.getD k.toNat 0)):=by
 have ek:k=((k.toNat:Nat):Int):=by omega
 have hl:k.toNat<ns.length:=by omega
 have:atI (ns.map D.int) ((k.toNat:Nat):Int)=some (.int (ns.getD k.toNat 0)):=eX (by rw [List.getElem?_map,List.getD_eq_getElem?_getD,List.getElem?_eq_getElem hl]; rfl)
 rw [← ek] at this
 exact this
theorem uN {ns:List Int} {k:Int} (h0 : 0≤k) (h1:k<ns.length):atI ns k=some (ns.getD k.toNat 0):=by
 have ek:k=((k.toNat:Nat):Int):=by omega
 have hl:k.toNat<ns.length:=by omega
 have:atI ns ((k.toNat:Nat):Int)=some (ns.getD k.toNat 0):=eX (by rw [List.getD_eq_getElem?_getD,List.getElem?_eq_getElem hl]; rfl)
 rw [← ek] at this
 exact this
theorem aT {ds:List D} {k:Int} {d:D} {q:D→Prop} (h:atI ds k=some d) (hq:q d):atD ds k q:=by unfold atD; rw [h]; exact hq
theorem dn {ns:List Int} {i:Nat} {d:D} (h:(ns.map D.int)[i]? = some d):∃ z,ns[i]? = some z∧d = .int z:=by
 rw [List.getElem?_map] at h
 cases e:ns[i]? with
 | none=>rw [e] at h; cases h
 | some z=>rw [e] at h; exact ⟨z,rfl,(Option.some.inj h).symm⟩
theorem d_ {lo hi z:Int} (h1:lo≤z) (h2:z≤hi):btw lo hi (.int z)=true:=by show (decide (lo≤z)&&decide (z≤hi))=true; rw [decide_eq_true h1,decide_eq_true h2]; rfl
abbrev bu (ps:List Int) (k:Int):Int:=ps.getD (k - 1).toNat 0
theorem Tree.up {ps rs:List Int} (hT:Tree ps rs) {k:Int} (h0 : 0<k) (h1:k≤ps.length) : 0≤bu ps k∧bu ps k<k:=by
 have hl:(k - 1).toNat<ps.length:=by omega
 have e:ps[(k - 1).toNat]? = some (bu ps k):=by unfold bu; rw [List.getD_eq_getElem?_getD,List.getElem?_eq_getElem hl]; rfl
 have:=hT.par _ _ e
 omega
inductive Up (ps:List Int):Int→List Int→Prop
 | zero:Up ps 0 [0]
 | step {k:Int} {u:List Int} (h : 0<k):Up ps (bu ps k) u→Up ps k (k :: u)
theorem Up.det {ps:List Int} {k:Int} {u:List Int} (h:Up ps k u):∀ {v:List Int},Up ps k v→u=v:=by
 induction h with
 | zero=>intro v h; cases h with | zero=>rfl | step h0 _=>omega
 | step h0 _ ih=>intro v h; cases h with | zero=>omega | step _ h=>rw [ih h]
theorem Up.all {ps rs:List Int} (hT:Tree ps rs):∀ (n:Nat) (k:Int),k.toNat=n→0≤k→k≤ps.length→∃ u,Up ps k u
 | n,k,hn,h0,h1=>by
  by_cases hk:k=0
  ·subst hk; exact ⟨_,.zero⟩
  ·have hp:=hT.up (k:=k) (by omega) h1
   obtain ⟨u,hu⟩:=Up.all hT (bu ps k).toNat (bu ps k) rfl hp.1 (by omega)
   exact ⟨_,.step (by omega) hu⟩
termination_by n k hn=>n
decreasing_by omega
theorem Up.le {ps rs:List Int} (hT:Tree ps rs) {k:Int} {u:List Int} (h:Up ps k u):k≤ps.length→∀ x∈u,0≤x∧x≤k:=by
 induction h with
 | zero=>intro _ x hx; simp at hx; omega
 | step h0 _ ih =>
  intro h1 x hx
  have hp:=hT.up h0 h1
  rcases List.mem_cons.mp hx with rfl | hx
  ·omega
  ·have:=ih (by omega) x hx; omega
theorem Up.dec {ps rs:List Int} (hT:Tree ps rs) {k:Int} {u:List Int} (h:Up ps k u):k≤ps.length→u.Pairwise (· > ·):=by
 induction h with
 | zero=>intro _; simp
 | step h0 hu ih =>
  intro h1
  have hp:=hT.up h0 h1
  refine List.pairwise_cons.mpr ⟨fun x hx=>?_,ih (by omega)⟩
  have:=hu.le hT (by omega) x hx
  omega
theorem Up.len {ps rs:List Int} (hT:Tree ps rs) {k:Int} {u:List Int} (h:Up ps k u):k≤ps.length→(u.length:Int)≤k + 1:=by
 induction h with
 | zero=>intro _; simp
 | step h0 hu ih=>intro h1; have hp:=hT.up h0 h1; have:=ih (by omega); simp; omega
theorem Up.head {ps:List Int} {k:Int} {u:List Int} (h:Up ps k u):k∈u:=by cases h <;> simp
inductive Climb (ps:List Int):Int→Int→List Int→Int→Prop
 | same (a:Int):Climb ps a a [] a
 | left {a b:Int} {w:List Int} {m:Int} (h:b<a):Climb ps b (bu ps a) w m→Climb ps a b (a :: w) m
 | right {a b:Int} {w:List Int} {m:Int} (h:a<b):Climb ps a (bu ps b) w m→Climb ps a b (b :: w) m
theorem Climb.meet {ps rs:List Int} (hT:Tree ps rs) {a b m:Int} {w:List Int} (h:Climb ps a b w m) : 0≤a→0≤b→a≤ps.length→b≤ps.length→∀ {ua ub:List Int},Up ps a ua→Up ps b ub→m∈ua∧m∈ub∧∀ x∈ua,x∈ub→x≤m:=by
 induction h with
 | same a=>intro a0 _ a1 _ ua ub ha hb; have:=ha.det hb; subst this; exact ⟨ha.head,ha.head,fun x hx _=>(ha.le hT a1 x hx).2⟩
 | left hlt hc ih =>
  intro a0 b0 a1 b1 ua ub ha hb
  cases ha with
  | zero=>omega
  | step h0 hu =>
   have hp:=hT.up h0 a1
   obtain ⟨m1,m2,m3⟩:=ih b0 hp.1 b1 (by omega) hb hu
   refine ⟨List.mem_cons_of_mem _ m2,m1,fun x hx hxb=>?_⟩
   rcases List.mem_cons.mp hx with rfl | hx
   ·have:=(hb.le hT b1 _ hxb).2; omega
   ·exact m3 x hxb hx
 | right hlt hc ih =>
  intro a0 b0 a1 b1 ua ub ha hb
  cases hb with
  | zero=>omega
  | step h0 hu =>
   have hp:=hT.up h0 b1
   obtain ⟨m1,m2,m3⟩:=ih a0 hp.1 a1 (by omega) ha hu
   refine ⟨m1,List.mem_cons_of_mem _ m2,fun x hx hxb=>?_⟩
   rcases List.mem_cons.mp hxb with rfl | hxb
   ·have:=(ha.le hT a1 _ hx).2; omega
   ·exact m3 x hx hxb
theorem Climb.low {ps rs:List Int} (hT:Tree ps rs) {a b m:Int} {w:List Int} (h:Climb ps a b w m) : 0≤a→0≤b→a≤ps.length→b≤ps.length→0≤m∧m≤a∧m≤b:=by
 induction h with
 | same a=>intro a0 _ _ _; omega
 | left hlt hc ih=>intro a0 b0 a1 b1; have hp:=hT.up (show 0<_ by omega) a1; have:=ih b0 hp.1 b1 (by omega); omega
 | right hlt hc ih=>intro a0 b0 a1 b1; have hp:=hT.up (show 0<_ by omega) b1; have:=ih a0 hp.1 a1 (by omega); omega
theorem Climb.perm {ps rs:List Int} (hT:Tree ps rs) {a b m:Int} {w:List Int} (h:Climb ps a b w m) : 0≤a→0≤b→a≤ps.length→b≤ps.length→∀ {ua ub um:List Int},Up ps a ua→Up ps b ub→Up ps m um→w.Perm ((ua++ub).filter fun x=>!um.contains x):=by
 induction h with
 | same a =>
  intro a0 _ a1 _ ua ub um ha hb hm
  have:=ha.det hb; subst this
  have:=ha.det hm; subst this
  have:(ua++ua).filter (fun x=>!ua.contains x)=[]:=by
   rw [List.filter_eq_nil_iff]; intro x hx; simp at hx; simp [hx]
  rw [this]
 | @left a b w m hlt hc ih =>
  intro a0 b0 a1 b1 ua ub um ha hb hm
  cases ha with
  | zero=>omega
  | step h0 hu =>
   have hp:=hT.up h0 a1
   have hl:=hc.low hT b0 hp.1 b1 (by omega)
   have ih':=ih b0 hp.1 b1 (by omega) hb hu hm
   have hn : ¬ um.contains a=true:=fun z=>by
    have:=(hm.le hT (by omega) _ (List.contains_iff_mem.mp z)).2
    omega
   rw [List.cons_append,List.filter_cons_of_pos (by simpa using hn)]
   refine List.Perm.cons _ (ih'.trans ?_)
   exact List.Perm.filter _ List.perm_append_comm
 | @right a b w m hlt hc ih =>
  intro a0 b0 a1 b1 ua ub um ha hb hm
  cases hb with
  | zero=>omega
  | step h0 hu =>
   have hp:=hT.up h0 b1
   have hl:=hc.low hT a0 hp.1 a1 (by omega)
   have ih':=ih a0 hp.1 a1 (by omega) ha hu hm
   have hn : ¬ um.contains b=true:=fun z=>by
    have:=(hm.le hT (by omega) _ (List.contains_iff_mem.mp z)).2
    omega
   refine (List.Perm.cons _ ih').trans ?_
   refine List.Perm.trans ?_ (List.Perm.filter _ (List.perm_middle (l₁:=_)).symm)
   rw [List.filter_cons_of_pos (by simpa using hn)]
theorem Climb.mem {ps rs:List Int} (hT:Tree ps rs) {a b m:Int} {w:List Int} (h:Climb ps a b w m) : 0≤a→0≤b→a≤ps.length→b≤ps.length→∀ x∈w,0<x∧x≤ps.length:=by
 induction h with
 | same a=>intro _ _ _ _ x hx; cases hx
 | left hlt hc ih =>
  intro a0 b0 a1 b1 x hx
  have hp:=hT.up (show 0<_ by omega) a1
  rcases List.mem_cons.mp hx with rfl | hx
  ·omega
  ·exact ih b0 hp.1 b1 (by omega) x hx
 | right hlt hc ih =>
  intro a0 b0 a1 b1 x hx
  have hp:=hT.up (show 0<_ by omega) b1
  rcases List.mem_cons.mp hx with rfl | hx
  ·omega
  ·exact ih a0 hp.1 a1 (by omega) x hx
theorem Climb.len {ps rs:List Int} (hT:Tree ps rs) {a b m:Int} {w:List Int} (h:Climb ps a b w m) : 0≤a→0≤b→a≤ps.length→b≤ps.length→(w.length:Int)≤a + b:=by
 induction h with
 | same a=>intro _ _ _ _; simp; omega
 | left hlt hc ih=>intro a0 b0 a1 b1; have hp:=hT.up (show 0<_ by omega) a1; have:=ih b0 hp.1 b1 (by omega); simp; omega
 | right hlt hc ih=>intro a0 b0 a1 b1; have hp:=hT.up (show 0<_ by omega) b1; have:=ih a0 hp.1 a1 (by omega); simp; omega
theorem Climb.det {ps:List Int} {a b m:Int} {w:List Int} (h:Climb ps a b w m):∀ {m':Int} {w':List Int},Climb ps a b w' m'→w=w'∧m=m':=by
 induction h with
 | same a=>intro m' w' h; cases h with | same=>exact ⟨rfl,rfl⟩ | left h _=>omega | right h _=>omega
 | left hlt hc ih=>intro m' w' h; cases h with | same=>omega | left _ h=>have:=ih h; exact ⟨by rw [this.1],this.2⟩ | right h _=>omega
 | right hlt hc ih=>intro m' w' h; cases h with | same=>omega | right _ h=>have:=ih h; exact ⟨by rw [this.1],this.2⟩ | left h _=>omega
theorem Climb.all' {ps rs:List Int} (hT:Tree ps rs):∀ (n:Nat) (a b:Int),(a + b).toNat=n→0≤a→0≤b→a≤ps.length→b≤ps.length→∃ w m,Climb ps a b w m
 | n,a,b,hn,a0,b0,a1,b1=>by
  by_cases h1:b<a
  ·have hp:=hT.up (show 0<a by omega) a1
   obtain ⟨w,m,h⟩:=Climb.all' hT (b + bu ps a).toNat b (bu ps a) rfl b0 hp.1 b1 (by omega)
   exact ⟨_,_,.left h1 h⟩
  ·by_cases h2:a<b
   ·have hp:=hT.up (show 0<b by omega) b1
    obtain ⟨w,m,h⟩:=Climb.all' hT (a + bu ps b).toNat a (bu ps b) rfl a0 hp.1 a1 (by omega)
    exact ⟨_,_,.right h2 h⟩
   ·have:a=b:=by omega
    subst this
    exact ⟨_,_,.same a⟩
termination_by n=>n
decreasing_by all_goals omega
theorem Climb.all {ps rs:List Int} (hT:Tree ps rs) {a b:Int} (a0 : 0≤a) (b0 : 0≤b) (a1:a≤ps.length) (b1:b≤ps.length):∃ w m,Climb ps a b w m:=Climb.all' hT _ a b rfl a0 b0 a1 b1
theorem nr {l:List Int} {p:Int→Bool} {m:Int} (hd:l.Pairwise (· > ·)) (hm:m∈l) (hp:p m=true) (hx:∀ x∈l,p x=true→x≤m):∃ r,l.filter p=m :: r:=by
 induction l with
 | nil=>cases hm
 | cons y l ih =>
  rw [List.pairwise_cons] at hd
  rcases List.mem_cons.mp hm with rfl | hm
  ·exact ⟨_,List.filter_cons_of_pos hp⟩
  ·have hy : ¬ p y=true:=fun z=>by
    have:=hx y (.head _) z
    have:=hd.1 m hm
    omega
   rw [List.filter_cons_of_neg hy]
   exact ih hd.2 hm fun x h=>hx x (List.mem_cons_of_mem _ h)
structure Ends2 (ps:List Int) (a b:Int):Prop where
 a0 : 0≤a
 a1:a≤ps.length
 b0 : 0≤b
 b1:b≤ps.length
 ne:a≠b
def sy:SpD:=fun ds q=>∃ ps rs d,ds=[aK ps rs,d]∧d.isS=false∧q (.bl (btw 0 ps.length d)) []
def wE:SpD:=fun ds q=>∃ ps rs a b,ds=[aK ps rs,.int a,.int b]∧Ends2 ps a b∧q (.bl true) []
def lr:SpD:=fun ds q=>∃ ps rs a b,ds=[aK ps rs,.int a,.int b]∧Tree ps rs∧Ends2 ps a b∧q .non []
def rK:SpD:=fun ds q=>∃ ps rs a b,ds=[aK ps rs,.int a,.int b]∧Tree ps rs∧0≤a∧a≤ps.length∧0≤b∧b≤ps.length∧∀ w m,Climb ps a b w m→q (.tup [au (bc w),.int m]) []
def sdWay:SpD:=fun ds q=>∃ ps rs a b,ds=[aK ps rs,.int a,.int b]∧Tree ps rs∧Ends2 ps a b∧∀ w m,Climb ps a b w m→q (au (bc w)) []
def vM:SpD:=fun ds q=>∃ ps rs a b,ds=[aK ps rs,.int a,.int b]∧Tree ps rs∧Ends2 ps a b∧∀ w m,Climb ps a b w m→q (.int m) []
def tI:SpD:=fun ds q=>∃ ps rs a b,ds=[aK ps rs,.int a,.int b]∧Tree ps rs∧0≤a∧a≤ps.length∧0≤b∧b≤ps.length∧∀ w m,Climb ps a b w m→q (.int m) []
def vq:SpD:=fun ds q=>∃ ps rs a b,ds=[aK ps rs,.int a,.int b]∧Tree ps rs∧0≤a∧a≤ps.length∧0≤b∧b≤ps.length∧∀ w m,Climb ps a b w m→q (au (bc w)) []
def eL (ps w:List Int) (m:Int):List Int:=(bc w).filter fun x=>decide (bu ps x=m)
def vV:SpD:=fun ds q=>∃ ps rs a b,ds=[aK ps rs,.int a,.int b]∧Tree ps rs∧Ends2 ps a b∧∀ w m,Climb ps a b w m→q (au (eL ps w m)) []
def sdUp:SpD:=fun ds q=>∃ ps rs k,ds=[aK ps rs,.int k]∧Tree ps rs∧0≤k∧k≤ps.length∧∀ u,Up ps k u→q (au u) []
theorem dY (ps:List Int) (y:Int):D.lst (ps.map D.int++[D.int y])=au (ps++[y]):=by unfold au; rw [List.map_append]; rfl
theorem ar (ps:List Int):(ps.map D.int).length=ps.length:=List.length_map _
theorem rm {ns:List Int} {k:Nat} (h:k<ns.length):ns.getD k 0∈ns:=by rw [List.getD_eq_getElem?_getD,List.getElem?_eq_getElem h]; exact List.getElem_mem h
theorem rJ {P:Nat→Int→Prop} {ps:List Int} {y:Int} (h:∀ (j:Nat) (x:Int),ps[j]? = some x→P j x) (hy:P ps.length y):∀ (j:Nat) (x:Int),(ps++[y])[j]? = some x→P j x:=by
 intro j x hj
 by_cases hjl:j<ps.length
 ·rw [List.getElem?_append_left hjl] at hj; exact h j x hj
 ·rw [List.getElem?_append_right (by omega)] at hj
  cases e:j - ps.length with
  | zero => rw [e] at hj; have : y = x := by simpa using hj
            subst this; rw [show j=ps.length by omega]; exact hy
  | succ q=>rw [e] at hj; simp at hj
def pf (p:Int→Bool):D→Option D
 | .int x=>if p x=true then some (.int x) else none
 | _=>none
theorem fe {p:Int→Bool}:∀ (ns:List Int),(ns.map D.int).filterMap (pf p)=(ns.filter p).map D.int
 | []=>rfl
 | n :: r=>by
  have ih:=fe (p:=p) r
  have e0:pf p (.int n)=if p n=true then some (.int n) else none:=rfl
  cases e:p n with
  | true=>rw [e,if_pos rfl] at e0; rw [List.map_cons,List.filterMap_cons,e0,List.filter_cons_of_pos e,List.map_cons,← ih]
  | false=>rw [e,if_neg (by decide)] at e0; rw [List.map_cons,List.filterMap_cons,e0,List.filter_cons_of_neg (by rw [e]; decide),← ih]
theorem iN (ns:List Int):(ns.map D.int).all d3=true:=by
 induction ns with
 | nil=>rfl
 | cons n r ih=>rw [List.map_cons,List.all_cons,ih]; rfl
theorem kR (x:Int) (ns:List Int):inD (.int x) (ns.map D.int)=ns.contains x:=by
 unfold inD
 induction ns with
 | nil=>rfl
 | cons n r ih =>
  rw [List.map_cons,List.any_cons,ih,List.contains_cons]
  show ((n == x)||_)=_
  rw [Bool.beq_comm]
theorem cF {ns:List Int} {d:D} (h:d∈ns.map D.int):∃ x∈ns,d = .int x:=by
 obtain ⟨x,h1,h2⟩:=List.mem_map.mp h
 exact ⟨x,h1,h2.symm⟩
theorem cP (ns:List Int):okD (au ns)=true:=jW ns
theorem eqDi (ns ms:List Int):eqD (au ns) (au ms)=decide (ns=ms):=pV ns ms
theorem atI0 {α:Type} (x : α) (r:List α):atI (x :: r) 0=some x:=eX (j:=0) rfl
def lay:Nat→D→Bool
 | _,.int _=>true
 | _,.bl _=>true
 | _,.non=>true
 | n + 1,.tup ds=>ds.all (lay n)
 | n + 1,.lst ds=>ds.all (lay n)
 | _,_=>false
theorem jM {n:Nat} (ih:∀ d,lay n d=true→(toP d).canLay0=true∧(toP d).depth≤n + 1):∀ ds:List D,ds.all (lay n)=true→PyData.canLayAll0 (toPs ds)=true∧PyData.depthAll (toPs ds)≤n + 1
 | [],_=>by rw [toPs]; simp [PyData.canLayAll0,PyData.depthAll]
 | d :: ds,h=>by
  rw [List.all_cons,Bool.and_eq_true] at h
  have h1:=ih d h.1
  have h2:=jM ih ds h.2
  rw [toPs]
  simp only [PyData.canLayAll0,PyData.depthAll,h1.1,h2.1,Bool.and_self,true_and]
  omega
theorem lH:∀ (n:Nat) (d:D),lay n d=true→(toP d).canLay0=true∧(toP d).depth≤n + 1
 | n,.int _,_=>by rw [toP]; simp [PyData.canLay0,PyData.depth]
 | n,.bl _,_=>by rw [toP]; simp [PyData.canLay0,PyData.depth]
 | n,.non,_=>by rw [toP]; simp [PyData.canLay0,PyData.depth]
 | n + 1,.tup ds,h=>by
  have:=jM (lH n) ds (by simpa [lay] using h)
  rw [toP]; simp only [PyData.canLay0,PyData.depth,this.1,true_and]; omega
 | n + 1,.lst ds,h=>by
  have:=jM (lH n) ds (by simpa [lay] using h)
  rw [toP]; simp only [PyData.canLay0,PyData.depth,this.1,true_and]; omega
 | 0,.tup _,h=>by simp [lay] at h
 | 0,.lst _,h=>by simp [lay] at h
 | n,.str _,h=>by cases n <;> simp [lay] at h
 | n,.dct,h=>by cases n <;> simp [lay] at h
 | n,.dic _ _,h=>by cases n <;> simp [lay] at h
 | n,.scr _ _,h=>by cases n <;> simp [lay] at h
 | n,.ext _,h=>by cases n <;> simp [lay] at h
theorem tD {n:Nat} {d:D} (h:lay n d=true) (hn:n≤60):okD d=true:=by
 have:=lH n d h
 unfold okD SeqAt.shaped
 rw [this.1,Bool.true_and]
 exact decide_eq_true (by omega)
structure Ask where
 one:Int
 other:Int
 size:Int
 worth:Int
def bV (a:Ask):D:=.tup [.int a.one,.int a.other,.int a.size,.int a.worth]
def be (as:List Ask):D:=.lst (as.map bV)
structure AskOk (ps:List Int) (a:Ask):Prop where
 ends:Ends2 ps a.one a.other
 s0 : 1≤a.size
 s1:a.size≤1000000
 w0 : 1≤a.worth
 w1:a.worth≤1000000000000
structure AsksOk (ps:List Int) (as:List Ask):Prop where
 len:as.length≤30
 ok:∀ a∈as,AskOk ps a
theorem mU (as:List Ask):imms (as.map bV)=true:=by
 induction as with
 | nil=>rfl
 | cons a r ih=>rw [List.map_cons,imms,ih]; rfl
theorem lZ {as:List Ask} {i:Nat} {d:D} (h:(as.map bV)[i]? = some d):∃ a,as[i]? = some a∧d=bV a:=by
 rw [List.getElem?_map] at h
 cases e:as[i]? with
 | none=>rw [e] at h; cases h
 | some z=>rw [e] at h; exact ⟨z,rfl,(Option.some.inj h).symm⟩
def aS:Ask:=⟨0,0,0,0⟩
theorem dq {as:List Ask} {k:Int} (h0 : 0≤k) (h1:k<as.length):atI (as.map bV) k=some (bV (as.getD k.toNat aS)):=by
 have ek:k=((k.toNat:Nat):Int):=by omega
 have hl:k.toNat<as.length:=by omega
 have:atI (as.map bV) ((k.toNat:Nat):Int)=some (bV (as.getD k.toNat aS)):=eX (by rw [List.getElem?_map,List.getD_eq_getElem?_getD,List.getElem?_eq_getElem hl]; rfl)
 rw [← ek] at this
 exact this
theorem cB {as:List Ask} {k:Nat} (h:k<as.length):as.getD k aS∈as:=by rw [List.getD_eq_getElem?_getD,List.getElem?_eq_getElem h]; exact List.getElem_mem h
theorem a5 (as:List Ask):(as.map bV).length=as.length:=List.length_map _
theorem ng (as:List Ask) (a:Ask):D.lst (as.map bV++[bV a])=be (as++[a]):=by unfold be; rw [List.map_append]; rfl
def sV:SpD:=fun ds q=>∃ ps rs a,ds=[aK ps rs,bV a]∧AskOk ps a∧q (.bl true) []
def lg:SpD:=fun ds q=>∃ ps rs as,ds=[aK ps rs,be as]∧Tree ps rs∧AsksOk ps as∧q .non []
def g7 (ps:List Int):Nat→Int→Int→List Int
 | 0,_,_=>[]
 | f + 1,a,b=>if b<a then a :: g7 ps f b (bu ps a) else if a<b then b :: g7 ps f a (bu ps b) else []
def g6 (ps:List Int):Nat→Int→Int→Int
 | 0,a,_=>a
 | f + 1,a,b=>if b<a then g6 ps f b (bu ps a) else if a<b then g6 ps f a (bu ps b) else a
theorem fR {ps rs:List Int} (hT:Tree ps rs):∀ (f:Nat) (a b:Int),(a + b).toNat≤f→0≤a→0≤b→a≤ps.length→b≤ps.length→Climb ps a b (g7 ps f a b) (g6 ps f a b)
 | 0,a,b,hf,a0,b0,_,_=>by
  have:a=b:=by omega
  subst this
  exact .same a
 | f + 1,a,b,hf,a0,b0,a1,b1=>by
  unfold g7 g6
  by_cases h1:b<a
  ·rw [if_pos h1,if_pos h1]
   have hp:=hT.up (show 0<a by omega) a1
   exact .left h1 (fR hT f b _ (by omega) b0 hp.1 b1 (by omega))
  ·rw [if_neg h1,if_neg h1]
   by_cases h2:a<b
   ·rw [if_pos h2,if_pos h2]
    have hp:=hT.up (show 0<b by omega) b1
    exact .right h2 (fR hT f a _ (by omega) a0 hp.1 a1 (by omega))
   ·rw [if_neg h2,if_neg h2]
    have:a=b:=by omega
    subst this
    exact .same a
def kE (ps:List Int) (a b:Int):List Int:=bc (g7 ps 100 a b)
def cm (ps:List Int) (a b:Int):Int:=g6 ps 100 a b
theorem Climb.way {ps rs:List Int} (hT:Tree ps rs) {a b m:Int} {w:List Int} (h:Climb ps a b w m) (a0 : 0≤a) (b0 : 0≤b) (a1:a≤ps.length) (b1:b≤ps.length):bc w=kE ps a b∧m=cm ps a b:=by
 have hi:=hT.hi
 have:=h.det (fR hT 100 a b (by omega) a0 b0 a1 b1)
 exact ⟨by rw [this.1]; rfl,this.2⟩
theorem fc {ps rs:List Int} (hT:Tree ps rs) {a b:Int} (a0 : 0≤a) (b0 : 0≤b) (a1:a≤ps.length) (b1:b≤ps.length):∃ w,Climb ps a b w (cm ps a b)∧kE ps a b=bc w:=by
 have hi:=hT.hi
 exact ⟨_,fR hT 100 a b (by omega) a0 b0 a1 b1,rfl⟩
theorem bd {ps rs:List Int} (hT:Tree ps rs) {a b:Int} (he:Ends2 ps a b) {x:Int} (hx:x∈kE ps a b) : 0<x∧x≤ps.length:=by
 obtain ⟨w,hw,e⟩:=fc hT he.a0 he.b0 he.a1 he.b1
 rw [e] at hx
 exact hw.mem hT he.a0 he.b0 he.a1 he.b1 x ((aZ w).mem_iff.mp hx)
def aq (ps:List Int) (a:Ask):List Int:=kE ps a.one a.other
def s8:SpD:=fun ds q=>∃ ps rs a,ds=[aK ps rs,bV a]∧Tree ps rs∧Ends2 ps a.one a.other∧q (au (aq ps a)) []
structure KeepOk (n:Nat) (ks:List Int):Prop where
 up:ks.Pairwise (· < ·)
 lo:∀ k∈ks,0≤k∧k<n
theorem KeepOk.len {n:Nat} {ks:List Int} (h:KeepOk n ks):ks.length≤n:=by
 have:∀ (l:List Int) (a:Int),l.Pairwise (· < ·)→(∀ k∈l,a≤k∧k<n)→0≤a→(l.length:Int)≤max 0 (n - a):=by
  intro l
  induction l with
  | nil=>intro a _ _ _; simp; omega
  | cons x r ih =>
   intro a hp hb ha
   rw [List.pairwise_cons] at hp
   have hx:=hb x (.head _)
   have:=ih (x + 1) hp.2 (fun k hk=>by have h1:=hp.1 k hk; have h2:=hb k (List.mem_cons_of_mem _ hk); omega) (by omega)
   simp; omega
 have:=this ks 0 h.up (fun k hk=>h.lo k hk) (Int.le_refl 0)
 omega
def k7:SpD:=fun ds q=>∃ ps rs as ks,ds=[aK ps rs,be as,au ks]∧Tree ps rs∧AsksOk ps as∧KeepOk as.length ks∧q .non []
def gc (s:Int) (l:List Int) (t:Int):List Int:=l.set (t - 1).toNat (l.getD (t - 1).toNat 0 + s)
def bG (l:List Int) (ts:List Int) (s:Int):List Int:=ts.foldl (gc s) l
theorem iy (s:Int) (l:List Int) (t:Int):(gc s l t).length=l.length:=by unfold gc; simp
theorem bJ (s:Int):∀ (ts l:List Int),(bG l ts s).length=l.length
 | [],l=>rfl
 | t :: ts,l=>by show (bG (gc s l t) ts s).length=_; rw [bJ s ts,iy]
theorem jd (l ts:List Int) (t s:Int):bG l (ts++[t]) s=gc s (bG l ts s) t:=by unfold bG; rw [List.foldl_append]; rfl
def h8 (ps:List Int) (as:List Ask) (l:List Int) (k:Int):List Int:=bG l (aq ps (as.getD k.toNat aS)) (as.getD k.toNat aS).size
def bN (ps:List Int) (as:List Ask) (ks:List Int):List Int:=ks.foldl (h8 ps as) (List.replicate ps.length 0)
theorem dh (ps:List Int) (as:List Ask) (ks:List Int):(bN ps as ks).length=ps.length:=by
 have:∀ (ks l:List Int),(ks.foldl (h8 ps as) l).length=l.length:=by
  intro ks
  induction ks with
  | nil=>intro l; rfl
  | cons k r ih=>intro l; rw [List.foldl_cons,ih]; unfold h8; rw [bJ]
 unfold bN; rw [this]; simp
theorem kM (ps:List Int) (as:List Ask) (ks:List Int) (k:Int):bN ps as (ks++[k])=h8 ps as (bN ps as ks) k:=by unfold bN; rw [List.foldl_append]; rfl
def lP:SpD:=fun ds q=>∃ ps rs a l,ds=[aK ps rs,bV a,au l]∧Tree ps rs∧Ends2 ps a.one a.other∧l.length=ps.length∧q (au (bG l (aq ps a) a.size)) []
def sD:SpD:=fun ds q=>∃ ps rs as ks,ds=[aK ps rs,be as,au ks]∧Tree ps rs∧AsksOk ps as∧KeepOk as.length ks∧q (au (bN ps as ks)) []
def gX (ld rs:List Int):List Int:=((List.range ld.length).filter fun k=>decide (ld.getD k 0 > rs.getD k 0)).map fun (k:Nat)=>(k:Int) + 1
def fD (ld rs:List Int):D:=match gX ld rs with
 | []=>.non
 | x :: _=>.int x
theorem iE {ld rs:List Int} {i:Nat} (hi:i<ld.length) (h:ld.getD i 0 > rs.getD i 0) (hj:∀ j:Nat,j<i→¬ ld.getD j 0 > rs.getD j 0):∃ r,gX ld rs=((i:Int) + 1) :: r:=by
 obtain ⟨m,hm⟩:∃ m,ld.length=i + (m + 1):=⟨ld.length - i - 1,by omega⟩
 unfold gX
 rw [hm,List.range_add,List.range_succ_eq_map,List.map_cons,List.filter_append,List.filter_eq_nil_iff.mpr (fun k hk=>by simpa using hj k (List.mem_range.mp hk)),List.nil_append,Nat.add_zero,List.filter_cons_of_pos (by simpa using h)]
 exact ⟨_,rfl⟩
def sr:SpD:=fun ds q=>∃ ps rs as ks,ds=[aK ps rs,be as,au ks]∧Tree ps rs∧AsksOk ps as∧KeepOk as.length ks∧q (fD (bN ps as ks) rs) []
def bW (as:List Ask) (ks:List Int):Int:=(ks.map fun k=>(as.getD k.toNat aS).worth).sum
def rE:SpD:=fun ds q=>∃ ps rs as ks,ds=[aK ps rs,be as,au ks]∧Tree ps rs∧AsksOk ps as∧KeepOk as.length ks∧q (.int (bW as ks)) []
theorem dR (n:Nat) (d:D):(List.replicate n [d]).flatten=List.replicate n d:=by
 induction n with
 | zero=>rfl
 | succ n ih=>rw [List.replicate_succ,List.flatten_cons,ih,List.replicate_succ]; rfl
theorem i_ (n:Nat) (x:Int):List.replicate n (D.int x)=(List.replicate n x).map D.int:=by rw [List.map_replicate]
theorem gN {n:Nat} {k:Int} (h0 : 0≤k) (h1:k<n):ixN n k=some k.toNat:=by unfold ixN; rw [if_pos h0,if_pos h1]
theorem iU (l:List Int) (i:Nat) (x:Int):D.lst ((l.map D.int).set i (.int x))=au (l.set i x):=by unfold au; rw [List.map_set]
def sT:SpD:=fun ds q=>∃ c m ps rs least most sizes,ds=[au [c,m],aK ps rs,.int least,.int most,au sizes]∧0≤c∧Tree ps rs∧0≤least∧least≤most∧most≤30∧1≤sizes.length∧sizes.length≤100∧(∀ s∈sizes,1≤s∧s≤1000000) ∧
 ∀ as c' m',AsksOk ps as→least≤as.length→(as.length:Int)≤most→(∀ a∈as,∃ s∈sizes,a.size≤s)→0≤c'→q (be as) [some (au [c',m'])]
theorem lh {ps:List Int} {a r:Int} (a0 : 0≤a) (a1:a<1 + (ps.length:Int)) (r0 : 0≤r) (r1:r<ps.length):Ends2 ps a ((a + 1 + r) % (1 + (ps.length:Int))):=by
 refine ⟨a0,by omega,Int.emod_nonneg _ (by omega),?_,?_⟩
 ·have:=Int.emod_lt_of_pos (a + 1 + r) (show 0<1 + (ps.length:Int) by omega); omega
 ·intro he
  by_cases hlt:a + 1 + r<1 + (ps.length:Int)
  ·rw [Int.emod_eq_of_lt (by omega) hlt] at he; omega
  ·have e:(a + 1 + r) % (1 + (ps.length:Int))=a + 1 + r - (1 + (ps.length:Int)):=by
    rw [← Int.sub_emod_right,Int.emod_eq_of_lt (by omega) (by omega)]
   omega
theorem Climb.nodup {ps rs:List Int} (hT:Tree ps rs) {a b m:Int} {w:List Int} (h:Climb ps a b w m) : 0≤a→0≤b→a≤ps.length→b≤ps.length→w.Nodup∧∀ x∈w,x≤max a b:=by
 induction h with
 | same a=>intro _ _ _ _; exact ⟨List.nodup_nil,fun x h=>by cases h⟩
 | @left a b w m hlt hc ih =>
  intro a0 b0 a1 b1
  have hp:=hT.up (show 0<a by omega) a1
  obtain ⟨h1,h2⟩:=ih b0 hp.1 b1 (by omega)
  refine ⟨List.nodup_cons.mpr ⟨fun z=>by have:=h2 a z; omega,h1⟩,fun x hx=>?_⟩
  rcases List.mem_cons.mp hx with rfl | hx
  ·omega
  ·have:=h2 x hx; omega
 | @right a b w m hlt hc ih =>
  intro a0 b0 a1 b1
  have hp:=hT.up (show 0<b by omega) b1
  obtain ⟨h1,h2⟩:=ih a0 hp.1 a1 (by omega)
  refine ⟨List.nodup_cons.mpr ⟨fun z=>by have:=h2 b z; omega,h1⟩,fun x hx=>?_⟩
  rcases List.mem_cons.mp hx with rfl | hx
  ·omega
  ·have:=h2 x hx; omega
theorem cw {ps rs:List Int} (hT:Tree ps rs) {a b:Int} (he:Ends2 ps a b):(kE ps a b).Nodup:=by
 obtain ⟨w,hw,e⟩:=fc hT he.a0 he.b0 he.a1 he.b1
 rw [e]
 exact (aZ w).nodup_iff.mpr (hw.nodup hT he.a0 he.b0 he.a1 he.b1).1
def cnt (t:Int) (w:List Int) (s:Int):Int:=if w.contains t=true then s else 0
theorem s_ {s:Int} {l:List Int} {t:Int} {j:Nat} (ht : 0<t) (hl:t≤l.length):(gc s l t).getD j 0=l.getD j 0 + if (j:Int) + 1=t then s else 0:=by
 unfold gc
 simp only [List.getD_eq_getElem?_getD]
 rw [List.getElem?_set]
 by_cases h:(t - 1).toNat=j
 ·rw [if_pos h,if_pos (by omega),if_pos (by omega),h]; rfl
 ·rw [if_neg h,if_neg (by omega)]; simp
theorem ev {s:Int} {j:Nat}:∀ {w l:List Int},w.Nodup→(∀ x∈w,0<x∧x≤l.length)→(bG l w s).getD j 0=l.getD j 0 + cnt ((j:Int) + 1) w s
 | [],l,_,_=>by simp [bG,cnt]
 | t :: w,l,hn,hm=>by
  rw [List.nodup_cons] at hn
  have ht:=hm t (.head _)
  show (bG (gc s l t) w s).getD j 0=_
  rw [ev hn.2 (fun x hx=>by rw [iy]; exact hm x (List.mem_cons_of_mem _ hx)),s_ ht.1 ht.2]
  unfold cnt
  rw [List.contains_cons]
  by_cases e:(j:Int) + 1=t
  ·have:w.contains ((j:Int) + 1)=false:=by
    cases z:w.contains ((j:Int) + 1) with
    | false=>rfl
    | true=>rw [e] at z; exact absurd (List.contains_iff_mem.mp z) hn.1
   rw [if_pos e,this,if_neg (by decide),show ((j:Int) + 1 == t)=true by simpa using e]; simp
  ·rw [if_neg e,show ((j:Int) + 1 == t)=false by simpa using e,Bool.false_or]; omega
def eE (ps:List Int) (as:List Ask) (t k:Int):Int:=cnt t (aq ps (as.getD k.toNat aS)) (as.getD k.toNat aS).size
theorem ic {ps rs:List Int} {as:List Ask} (hT:Tree ps rs) (ha:AsksOk ps as) {j:Nat} (hj:j<ps.length):∀ (ks:List Int),(∀ k∈ks,0≤k∧k<as.length)→(bN ps as ks).getD j 0=(ks.map (eE ps as ((j:Int) + 1))).sum:=by
 have main:∀ (ks l:List Int),l.length=ps.length→(∀ k∈ks,0≤k∧k<as.length)→(ks.foldl (h8 ps as) l).getD j 0=l.getD j 0 + (ks.map (eE ps as ((j:Int) + 1))).sum:=by
  intro ks
  induction ks with
  | nil=>intro l _ _; simp
  | cons k r ih =>
   intro l hl hb
   have hk:=hb k (.head _)
   have hm:=cB (as:=as) (k:=k.toNat) (by omega)
   have he:=(ha.ok _ hm).ends
   rw [List.foldl_cons,ih _ (by unfold h8; rw [bJ]; exact hl) (fun x hx=>hb x (List.mem_cons_of_mem _ hx)),List.map_cons,List.sum_cons]
   unfold h8
   rw [ev (w:=aq ps (as.getD k.toNat aS)) (cw hT he) (fun x hx=>by rw [hl]; exact bd hT he hx)]
   unfold eE
   omega
 intro ks hb
 unfold bN
 rw [main ks _ (by simp) hb]
 simp only [List.getD_eq_getElem?_getD,List.getElem?_replicate,if_pos hj,Option.getD_some]
 omega
theorem nX {a b:List Int} (hl:a.length=b.length) (h:∀ j:Nat,j<a.length→a.getD j 0=b.getD j 0):a=b:=by
 apply List.ext_getElem hl
 intro j h1 h2
 have:=h j h1
 simp only [List.getD_eq_getElem?_getD,List.getElem?_eq_getElem h1,List.getElem?_eq_getElem h2,Option.getD_some] at this
 exact this
theorem kF {ps rs:List Int} {as:List Ask} (hT:Tree ps rs) (ha:AsksOk ps as) {ks:List Int} (hb:∀ k∈ks,0≤k∧k<as.length):bN ps as ks=(List.range ps.length).map fun (j:Nat)=>(ks.map (eE ps as ((j:Int) + 1))).sum:=by
 apply nX
 ·rw [dh]; simp
 ·intro j hj
  rw [dh] at hj
  rw [ic hT ha hj ks hb]
  simp [List.getD_eq_getElem?_getD,hj]
theorem pN {a b:List Int} (h:a.Perm b):a.sum=b.sum:=by
 induction h with
 | nil=>rfl
 | cons x _ ih=>simp [ih]
 | swap x y l=>simp only [List.sum_cons]; omega
 | trans _ _ ih1 ih2=>exact ih1.trans ih2
section
variable {X:Cx}
end
section
variable {X:Cx} {M:Md} {e:Expr} {ma:ME} {pos:Pos}
end
section
variable {X:Cx}
variable {ow:List Bool} {e:Expr} {ma:ME}
end
section
variable {X:Cx}
variable {ow:List Bool} {e:Expr} {ma:ME} {pos p1 p2 p3:Pos}
end
end L2
namespace L2
open PySem
structure DepOk (ps e:List Int) (n:Nat):Prop where
 len:e.length=n + 1
 up:∀ (k:Int) (u:List Int),0≤k→k≤n→Up ps k u→e.getD k.toNat 0 + 1=u.length
theorem dep0 (ps:List Int):DepOk ps [0] 0:=⟨rfl,fun k u h0 h1 hu=>by
 have:k=0:=by omega
 subst this
 cases hu with
 | zero=>rfl
 | step h _=>omega⟩
theorem qU {ps rs e:List Int} {i:Nat} {z:Int} (hT:Tree ps rs) (hz:ps[i]? = some z) (h:DepOk ps e i):DepOk ps (e++[e.getD z.toNat 0 + 1]) (i + 1):=by
 have hb:=hT.par i z hz
 have hl:=h.len
 refine ⟨by rw [List.length_append,h.len]; rfl,fun k u h0 h1 hu=>?_⟩
 by_cases hk:k≤i
 ·rw [List.getD_eq_getElem?_getD,List.getElem?_append_left (by omega),← List.getD_eq_getElem?_getD]
  exact h.up k u h0 hk hu
 ·have e1:k.toNat=e.length:=by omega
  rw [List.getD_eq_getElem?_getD,List.getElem?_append_right (by omega),e1,Nat.sub_self]
  show e.getD z.toNat 0 + 1 + 1=_
  cases hu with
  | zero=>omega
  | step hp hu' =>
   have:bu ps k=z:=by
    unfold bu
    rw [List.getD_eq_getElem?_getD,show (k - 1).toNat=i by omega,hz]; rfl
   rw [this] at hu'
   rw [h.up z _ hb.1 hb.2 hu',List.length_cons]; rfl
inductive Pth (ps:List Int) (m:Int):Int→List Int→Prop
 | nil:Pth ps m m []
 | step {k:Int} {l:List Int} (h0 : 0<k) (h:k≠m):Pth ps m (bu ps k) l→Pth ps m k (k :: l)
theorem Climb.pth {ps rs:List Int} (hT:Tree ps rs) {a b m:Int} {w:List Int} (h:Climb ps a b w m) : 0≤a→0≤b→a≤ps.length→b≤ps.length→∃ pa pb,Pth ps m a pa∧Pth ps m b pb∧w.Perm (pa++pb):=by
 induction h with
 | same a=>intro _ _ _ _; exact ⟨[],[],.nil,.nil,.nil⟩
 | left hlt hc ih =>
  intro a0 b0 a1 b1
  have hp:=hT.up (show 0<_ by omega) a1
  have hlow:=hc.low hT b0 hp.1 b1 (by omega)
  obtain ⟨pb,pa,h1,h2,h3⟩:=ih b0 hp.1 b1 (by omega)
  exact ⟨_ :: pa,pb,.step (by omega) (by omega) h2,h1,(h3.trans List.perm_append_comm).cons _⟩
 | right hlt hc ih =>
  intro a0 b0 a1 b1
  have hp:=hT.up (show 0<_ by omega) b1
  have hlow:=hc.low hT a0 hp.1 a1 (by omega)
  obtain ⟨pa,pb,h1,h2,h3⟩:=ih a0 hp.1 a1 (by omega)
  exact ⟨pa,_ :: pb,h1,.step (by omega) (by omega) h2,(h3.cons _).trans List.perm_middle.symm⟩
theorem Pth.self {ps:List Int} {m:Int} {l:List Int} (h:Pth ps m m l):l=[]:=by
 cases h with
 | nil=>rfl
 | step _ h _=>exact absurd rfl h
theorem Pth.one {ps:List Int} {m k:Int} {l:List Int} (h:Pth ps m k l):(l.filter fun x=>decide (bu ps x=m)).length=if k=m then 0 else 1:=by
 induction h with
 | nil=>rw [if_pos rfl]; rfl
 | @step k l h0 hne hp ih =>
  rw [if_neg hne]
  by_cases e:bu ps k=m
  ·rw [e] at hp
   rw [hp.self,List.filter_cons_of_pos (by simpa using e)]; rfl
  ·rw [List.filter_cons_of_neg (by simpa using e),ih,if_neg e]
theorem Pth.top {ps:List Int} {m k:Int} {l:List Int} (h:Pth ps m k l):k≠m→∃ x∈l,bu ps x=m∧∀ u,Up ps k u→x∈u:=by
 induction h with
 | nil=>intro h; exact absurd rfl h
 | @step k l h0 hne hp ih =>
  intro _
  by_cases e:bu ps k=m
  ·exact ⟨k,.head _,e,fun u hu=>hu.head⟩
  ·obtain ⟨x,h1,h2,h3⟩:=ih e
   refine ⟨x,.tail _ h1,h2,fun u hu=>?_⟩
   cases hu with
   | zero=>omega
   | step _ hu'=>exact .tail _ (h3 _ hu')
theorem Pth.beneath {ps:List Int} {m k:Int} {l:List Int} (h:Pth ps m k l):∀ t∈l,bu ps t≠m→∃ x∈l,bu ps x=m∧∀ u,Up ps (bu ps t) u→x∈u:=by
 induction h with
 | nil=>intro t ht; cases ht
 | @step k l h0 hne hp ih =>
  intro t ht hm
  cases ht with
  | head=>obtain ⟨x,h1,h2⟩:=hp.top hm; exact ⟨x,.tail _ h1,h2⟩
  | tail _ ht=>obtain ⟨x,h1,h2⟩:=ih t ht hm; exact ⟨x,.tail _ h1,h2⟩
theorem qV {ps rs w:List Int} {a b m:Int} (hT:Tree ps rs) (he:Ends2 ps a b) (h:Climb ps a b w m):(eL ps w m).length=(if a=m then 0 else 1) + (if b=m then 0 else 1):=by
 obtain ⟨pa,pb,h1,h2,h3⟩:=h.pth hT he.a0 he.b0 he.a1 he.b1
 unfold eL
 rw [(((aZ w).trans h3).filter _).length_eq,List.filter_append,List.length_append,h1.one,h2.one]
theorem jF {ps rs w:List Int} {a b m:Int} (hT:Tree ps rs) (he:Ends2 ps a b) (h:Climb ps a b w m) {t:Int} (ht:t∈bc w) (hn:t ∉ eL ps w m):∃ x∈eL ps w m,∀ u,Up ps (bu ps t) u→x∈u:=by
 obtain ⟨pa,pb,h1,h2,h3⟩:=h.pth hT he.a0 he.b0 he.a1 he.b1
 have hp:=(aZ w).trans h3
 have hm:bu ps t≠m:=fun e=>hn (List.mem_filter.mpr ⟨ht,by simpa using e⟩)
 have f:∀ {l:List Int},(∀ x∈l,x∈bc w)→(∃ x∈l,bu ps x=m∧∀ u,Up ps (bu ps t) u→x∈u)→∃ x∈eL ps w m,∀ u,Up ps (bu ps t) u→x∈u :=
  fun hs ⟨x,g1,g2,g3⟩=>⟨x,List.mem_filter.mpr ⟨hs x g1,by simpa using g2⟩,g3⟩
 rcases List.mem_append.mp (hp.mem_iff.mp ht) with z | z
 ·exact f (fun x hx=>hp.mem_iff.mpr (List.mem_append.mpr (.inl hx))) (h1.beneath t z hm)
 ·exact f (fun x hx=>hp.mem_iff.mpr (List.mem_append.mpr (.inr hx))) (h2.beneath t z hm)
theorem Up.chain {ps rs:List Int} (hT:Tree ps rs) {b:Int} {u:List Int} (h:Up ps b u):b≤ps.length→∀ {x y:Int},x∈u→y∈u→x≤y→∃ uy,Up ps y uy∧x∈uy∧∀ z∈uy,z∈u:=by
 induction h with
 | zero =>
  intro _ x y hx hy _
  have e:y=0:=by simpa using hy
  subst e
  exact ⟨[0],.zero,hx,fun z hz=>hz⟩
 | @step k u h0 hu ih =>
  intro h1 x y hx hy hxy
  have hp:=hT.up h0 h1
  have hle:=hu.le hT (by omega)
  rcases List.mem_cons.mp hy with hy' | hy'
  ·subst hy'; exact ⟨_,.step h0 hu,hx,fun z hz=>hz⟩
  ·rcases List.mem_cons.mp hx with hx' | hx'
   ·have:=(hle y hy').2; omega
   ·obtain ⟨uy,g1,g2,g3⟩:=ih (by omega) hx' hy' hxy
    exact ⟨uy,g1,g2,fun z hz=>.tail _ (g3 z hz)⟩
def pP:SpD:=fun ds q=>∃ ps rs,ds=[aK ps rs]∧Tree ps rs∧∀ e,DepOk ps e ps.length→q (au e) []
end L2
namespace L2
open PySem PySem.Spec PyProof.Rows
section
variable {prog:Program} {w:World} {A:Around} {E:Value→Shared→Prop} {s:Shared}
theorem tR {it t:Addr} {items:Array Value} (hne:t≠it):∀ (n i:Nat) (s:Shared) (Q:List Value→Shared→Prop),s.heap.IsListIter it t i→s.heap.IsList t items→i + n≤items.size →
 (∀ h':Heap,h'.IsListIter it t (i + n)→Heap.SameBut it s.heap h'→Q ((items.toList.drop i).take n) { s with heap:=h' })→wpAny (model prog w) A (draw (.ref it) n) Q E s
 | 0,i,s,Q,hit,_,_,hQ=>wpAny_pure (by simpa using hQ s.heap hit (Heap.SameBut.refl ..))
 | n + 1,i,s,Q,hit,ht,hle,hQ=>by
  have hlt:i<items.size:=by omega
  unfold draw
  refine wpAny_bind (wpAny_pyNext_list_item hit ht (x:=items[i]) (by simp [hlt]) fun g1 it1 sb1=>?_)
  refine wpAny_bind (wpAny_holding (tR hne n (i + 1) _ _ it1 (ht.extBut sb1.extBut hne) (by omega) fun g2 it2 sb2=>wpAny_pure ?_))
  have hd:items.toList.drop i=items[i] :: items.toList.drop (i + 1):=by simp [List.drop_eq_getElem_cons,hlt]
  have z := hQ g2 (by have e : i + (n + 1) = i + 1 + n := by omega
                      rw [e]; exact it2) (sb1.trans sb2)
  rwa [hd,List.take_succ_cons] at z
theorem rX {t:Addr} {items:Array Value} {Q:List Value→Shared→Prop} (hh:A.handled=none) (ht:s.heap.IsList t items)
 (hQ:∀ h',Heap.ExtBut s.heap.objs.size s.heap h'→Q items.toList { s with heap:=h' }):wpAny (model prog w) A (unpackItems (.ref t) items.size none) Q E s:=by
 have hlt:t≠s.heap.objs.size:=by obtain ⟨o,ho,_⟩:=ht; exact Nat.ne_of_lt (Heap.lt_size ho)
 unfold unpackItems
 refine wpAny_bind ?_
 unfold notIterableAtAll
 refine wpAny_bind (wpAny_specialOf ht.typeIs slot_list_iter.lookup (wpAny_pure ?_))
 simp only [Bool.false_eq_true,if_false]
 refine wpAny_bind (wpAny_holding (wpAny_pyIter_list ht ?_))
 refine wpAny_bind (wpAny_holding (tR hlt items.size 0 _ _ ⟨_,Heap.get?_push_size _ rfl,rfl,rfl⟩ (ht.push _) (by omega) fun g1 it1 sb1=>?_))
 have hall:List.take items.size (List.drop 0 items.toList)=items.toList:=by
  rw [List.drop_zero]; exact List.take_of_length_le (by simp)
 rw [hall,if_neg (by simp)]
 refine wpAny_bind (wpAny_holding (wpAny_pyNext_list_end hh it1 ((ht.push _).extBut sb1.extBut hlt) (by simp) fun g2 eb2=>?_))
 simp only [Option.isSome_none,Bool.false_eq_true,if_false]
 exact wpAny_pure (hQ g2 fun b o hb e=>eb2 b o hb (sb1.extBut b o hb (Heap.get?_push_of_some _ e)))
theorem kg {env:Env} {elts:List Expr} {x1} {pos:Pos} {t:Addr} {items:Array Value} {Q:Unit→Shared→Prop} (hh:A.handled=none) (ht:s.heap.IsList t items)
 (hn:(assignEach elts env).length=items.size) (hstar:(assignEach elts env).findIdx? (·.1)=none)
 (h:∀ h',Heap.ExtBut s.heap.objs.size s.heap h'→wpAny (model prog w) A (assignInOrder ((assignEach elts env).map (·.2)) items.toList) Q E { s with heap:=h' }) :
 wpAny (model prog w) A (assign (.Tuple elts x1 pos) env (.ref t)) Q E s:=by
 rw [assign_Tuple]
 refine wpAny_bind (wpAny_standAt ?_)
 unfold unpack
 rw [hn,hstar]
 exact wpAny_bind (wpAny_holding (rX hh ht h))
end
section
variable {X:Cx} {M:Md} {e:Expr} {es:List Expr} {mgs:MGs} {pos:Pos}
def gLst (K:PySem.W.Frag) (n:Nat) (t:TGs):TG:=fun v σ H Q=>∃ a xs,v = .ref a∧SqL K H a xs∧xs.length=n∧t xs σ H Q
theorem wP {k:Nat} {t:TGs} {n:Nat} (hc:X.calm=true) (h:PGs X es t)
 (hn:(assignEach es X.env).length=n:=by rfl) (hst:(assignEach es X.env).findIdx? (·.1)=none:=by rfl):PG X (.Tuple es k pos) (gLst X.K n t):=by
 refine ⟨?_⟩; intro pins s σ H v u Q I r hw
 obtain ⟨a,xs,e1,hq,hl,hw⟩:=hw
 subst e1
 cases r
 obtain ⟨its,rv,ht,hz⟩:=I.list hq
 refine kg (I.ok.hd hc) ht.isList (by simp [hn,← hl,rv.length]) hst fun h' hx=>?_
 have I1:Inv X pins σ H { s with heap:=h' }:=I.kept (t':=s.toks) fun b o e=>hx b o (Nat.ne_of_lt (Heap.lt_size e)) e
 exact h pins _ σ H xs _ Q I1 (by simpa using rv) hw
def gmLst (t:MGs):MG:=fun d ρ k=>match d with
 | .lst ds=>t ds ρ k
 | _=>False
theorem vH {kk:Nat} {n:Nat} (hc:X.calm=true) (h:QGs X M es mgs) (ht:iO n mgs)
 (hn:(assignEach es X.env).length=n:=by rfl) (hst:(assignEach es X.env).findIdx? (·.1)=none:=by rfl):QG X M (.Tuple es kk pos) (gmLst mgs):=by
 obtain ⟨t,p,s⟩:=h
 refine ⟨_,wP hc p hn hst,fun C G ρ σ H pd d v k K hm r p h kk=>?_⟩
 cases d with
 | lst ds =>
  obtain ⟨a,xs,rfl,h1,h2⟩:=bq p
  exact ⟨a,xs,rfl,SqL.of (r.gh _ _ h1),by rw [h2.length]; exact ht _ _ _ h,s C G ρ σ H pd ds xs k K hm r h2 h kk⟩
 | _=>exact h.elim
end
section
variable {X:Cx} {M:Md} {pos:Pos}
end
section
variable {X:Cx} {es:List Expr} {k:Nat} {tpos:Pos}
variable {ow:List Bool} {a b:Expr} {mr:MA} {pos:Pos}
end
end L2
namespace L2
open PySem
def dQ (r:Rat):D:=.tup [.int r.num,.int r.den]
def dQs (rs:List Rat):D:=.lst (rs.map dQ)
theorem ji {t b:Int} (hb : 0<b):cM t b=(b.gcd t:Int):=by
 unfold cM; rw [if_neg (by omega),Int.gcd_comm]
theorem mH {t b:Int} (hb : 0<b):t / cM t b=(Rat.divInt t b).num:=by
 rw [Rat.num_divInt,Int.sign_eq_one_of_pos hb,Int.one_mul,ji hb]
theorem lX {t b:Int} (hb : 0<b):b / cM t b=((Rat.divInt t b).den:Int):=by
 rw [Rat.den_divInt,if_neg (by omega),ji hb]
 have:(b.natAbs:Int)=b:=by omega
 rw [Int.natCast_ediv,this]
theorem bE (r:Rat):(0:Int)<r.den:=by have:=r.den_pos; omega
theorem dj (r:Rat):Rat.divInt r.num r.den=r:=Rat.num_divInt_den r
structure Bt (r:Rat) (n:Nat):Prop where
 num:r.num.natAbs<2 ^ n
 den:r.den<2 ^ n
theorem eN {m n:Nat} (h:m≤n):(2:Nat) ^ m≤2 ^ n:=Nat.pow_le_pow_right (by decide) h
theorem Bt.mono {r:Rat} {m n:Nat} (h:Bt r m) (hm:m≤n):Bt r n:=⟨Nat.lt_of_lt_of_le h.num (eN hm),Nat.lt_of_lt_of_le h.den (eN hm)⟩
theorem Bt.smN {r:Rat} {m:Nat} (h:Bt r m) (hm:m≤8000):Sm r.num:=Nat.lt_of_lt_of_le h.num (eN hm)
theorem Bt.smD {r:Rat} {m:Nat} (h:Bt r m) (hm:m≤8000):Sm (r.den:Int):=by
 show ((r.den:Int)).natAbs<_
 rw [Int.natAbs_natCast]; exact Nat.lt_of_lt_of_le h.den (eN hm)
theorem fX {a b:Int} (hb : 0<b):(a / b).natAbs≤a.natAbs:=by
 have h1:=Int.ediv_mul_le a (show b≠0 by omega)
 have h2:=Int.lt_ediv_add_one_mul_self a hb
 rcases Int.lt_or_le a 0 with h | h
 ·have h3:a≤a / b:=by
   rcases Int.lt_or_le (a / b) a with z | z
   ·exfalso
    have:(a / b + 1) * b≤(a / b + 1) * 1:=Int.mul_le_mul_of_nonpos_left (by omega) (by omega)
    omega
   ·exact z
  have h4:a / b<0:=Int.ediv_neg_of_neg_of_pos h hb
  omega
 ·have:=Int.ediv_nonneg h (show 0≤b by omega)
  have:=Int.ediv_le_self b h
  omega
theorem nz {t b:Int} (hb : 0<b):(Rat.divInt t b).num.natAbs≤t.natAbs∧(Rat.divInt t b).den≤b.natAbs:=by
 have g:=fN (n:=t) hb
 constructor
 ·rw [← mH hb]; exact fX g
 ·have e:=lX (t:=t) hb
  have:=fX (a:=b) g
  omega
theorem Bt.divInt {t b:Int} {n:Nat} (hb : 0<b) (h1:t.natAbs<2 ^ n) (h2:b.natAbs<2 ^ n):Bt (Rat.divInt t b) n:=by
 have:=nz (t:=t) hb
 exact ⟨by omega,by omega⟩
theorem rg (r s:Rat):r + s=Rat.divInt (r.num * s.den + s.num * r.den) (r.den * s.den):=by
 have h:=Rat.divInt_add_divInt r.num s.num (d₁:=r.den) (d₂:=s.den) (by have:=bE r; omega) (by have:=bE s; omega)
 rw [dj,dj] at h; exact h
theorem qu (r s:Rat):r - s=Rat.divInt (r.num * s.den - s.num * r.den) (r.den * s.den):=by
 have h:=Rat.divInt_sub_divInt r.num s.num (d₁:=r.den) (d₂:=s.den) (by have:=bE r; omega) (by have:=bE s; omega)
 rw [dj,dj] at h; exact h
theorem qW (r s:Rat):r * s=Rat.divInt (r.num * s.num) (r.den * s.den):=by
 have h:=Rat.divInt_mul_divInt r.num s.num (d₁:=r.den) (d₂:=s.den)
 rw [dj,dj] at h; exact h
theorem vF (r s:Rat):r / s=Rat.divInt (r.num * s.den) (r.den * s.num):=by
 have h:=Rat.divInt_mul_divInt r.num s.den (d₁:=r.den) (d₂:=s.num)
 rw [dj,← Rat.inv_divInt s.num s.den,dj] at h
 rw [Rat.div_def]; exact h
theorem bS (a b:Int):(a * b).natAbs=a.natAbs * b.natAbs:=Int.natAbs_mul a b
theorem a8 {a b m n:Nat} (h1:a<2 ^ m) (h2:b<2 ^ n):a * b<2 ^ (m + n):=by
 rw [Nat.pow_add]
 exact Nat.mul_lt_mul_of_lt_of_le h1 (Nat.le_of_lt h2) (Nat.pow_pos (by decide))
theorem cx (r s:Rat):(0:Int)<r.den * s.den:=Int.mul_pos (bE r) (bE s)
theorem Bt.add {r s:Rat} {m n:Nat} (h1:Bt r m) (h2:Bt s n):Bt (r + s) (m + n + 1):=by
 rw [rg]
 have e1:(r.num * s.den).natAbs<2 ^ (m + n):=by rw [bS,Int.natAbs_natCast]; exact a8 h1.num h2.den
 have e2:(s.num * r.den).natAbs<2 ^ (m + n):=by rw [bS,Int.natAbs_natCast,Nat.mul_comm]; exact a8 h1.den h2.num
 have e3:((r.den:Int) * s.den).natAbs<2 ^ (m + n):=by rw [bS,Int.natAbs_natCast,Int.natAbs_natCast]; exact a8 h1.den h2.den
 have e4:(2:Nat) ^ (m + n + 1)=2 ^ (m + n) + 2 ^ (m + n):=by rw [Nat.pow_succ]; omega
 exact Bt.divInt (cx r s) (Nat.lt_of_le_of_lt (Int.natAbs_add_le _ _) (by rw [e4]; exact Nat.add_lt_add e1 e2)) (Nat.lt_of_lt_of_le e3 (by rw [e4]; exact Nat.le_add_left _ _))
theorem Bt.sub {r s:Rat} {m n:Nat} (h1:Bt r m) (h2:Bt s n):Bt (r - s) (m + n + 1):=by
 rw [qu]
 have e1:(r.num * s.den).natAbs<2 ^ (m + n):=by rw [bS,Int.natAbs_natCast]; exact a8 h1.num h2.den
 have e2:(s.num * r.den).natAbs<2 ^ (m + n):=by rw [bS,Int.natAbs_natCast,Nat.mul_comm]; exact a8 h1.den h2.num
 have e3:((r.den:Int) * s.den).natAbs<2 ^ (m + n):=by rw [bS,Int.natAbs_natCast,Int.natAbs_natCast]; exact a8 h1.den h2.den
 have e4:(2:Nat) ^ (m + n + 1)=2 ^ (m + n) + 2 ^ (m + n):=by rw [Nat.pow_succ]; omega
 exact Bt.divInt (cx r s) (Nat.lt_of_le_of_lt (Int.natAbs_sub_le _ _) (by rw [e4]; exact Nat.add_lt_add e1 e2)) (Nat.lt_of_lt_of_le e3 (by rw [e4]; exact Nat.le_add_left _ _))
theorem Bt.mul {r s:Rat} {m n:Nat} (h1:Bt r m) (h2:Bt s n):Bt (r * s) (m + n):=by
 rw [qW]
 exact Bt.divInt (cx r s) (by rw [bS]; exact a8 h1.num h2.num) (by rw [bS,Int.natAbs_natCast,Int.natAbs_natCast]; exact a8 h1.den h2.den)
theorem bt0 {n:Nat} (h : 0<n):Bt 0 n:=⟨by show 0<2 ^ n; exact Nat.pow_pos (by decide),by show 1<2 ^ n; exact Nat.one_lt_two_pow (by omega)⟩
theorem btI {i:Int} {n:Nat} (h:i.natAbs<2 ^ n) (hn : 0<n):Bt (i:Rat) n:=⟨by rw [Rat.num_intCast]; exact h,by rw [Rat.den_intCast]; exact Nat.one_lt_two_pow (by omega)⟩
theorem jT (i:Int):D.tup [.int i,.int 1]=dQ (i:Rat):=by unfold dQ; rw [Rat.num_intCast,Rat.den_intCast]; rfl
theorem Sm.of {i:Int} {n:Nat} (h:i.natAbs<2 ^ n) (hn:n≤8000):Sm i:=Nat.lt_of_lt_of_le h (eN hn)
def sdGcd:SpD:=fun ds q=>∃ n b,ds=[.int n,.int b]∧0≤b∧q (.int (cM n b)) []
def uo:SpD:=fun ds q=>∃ t b,ds=[.int t,.int b]∧b≠0∧Sm b∧q (dQ (Rat.divInt t b)) []
def vg:SpD:=fun ds q=>∃ r s,ds=[dQ r,dQ s]∧Bt r 3950∧Bt s 3950∧q (dQ (r + s)) []
def tG:SpD:=fun ds q=>∃ r s,ds=[dQ r,dQ s]∧Bt r 3950∧Bt s 3950∧q (dQ (r - s)) []
def sE:SpD:=fun ds q=>∃ r s,ds=[dQ r,dQ s]∧Bt r 3950∧Bt s 3950∧q (dQ (r * s)) []
def tu:SpD:=fun ds q=>∃ r s,ds=[dQ r,dQ s]∧Bt r 3950∧Bt s 3950∧s≠0∧q (dQ (r / s)) []
def rG:SpD:=fun ds q=>∃ r s,ds=[dQ r,dQ s]∧Bt r 3950∧Bt s 3950∧q (.bl (decide (r<s))) []
def wD:SpD:=fun ds q=>∃ (rs:List Rat) (M:Nat),ds=[dQs rs]∧rs.length≤200∧(∀ r∈rs,r.num.natAbs<2 ^ 3900∧r.den∣M)∧0<M∧M<2 ^ 3900∧q (dQ rs.sum) []
theorem vQ {s:Rat} (h:s≠0):s.num≠0:=fun z=>h (Rat.num_eq_zero.mp z)
structure Com (rs:List Rat) (M:Nat) (B:Int):Prop where
 pos : 0<B
 dv:∀ r∈rs,(r.den:Int)∣B
 dm:B∣(M:Int)
theorem Com.le {rs:List Rat} {M:Nat} {B:Int} (h:Com rs M B) (hM : 0<M):B≤M:=Int.le_of_dvd (by omega) h.dm
theorem rZ (M:Nat):Com [] M 1:=⟨by decide,(fun r h=>by cases h),⟨M,by simp⟩⟩
theorem pM {rs:List Rat} {M:Nat} {B:Int} {r:Rat} (h:Com rs M B) (hr:r.den∣M):Com (rs++[r]) M (B / cM B r.den * r.den):=by
 have hd:=bE r
 have g:=fN (n:=B) hd
 have g1:=rC (n:=B) hd
 have g2:=sM (n:=B) hd
 obtain ⟨n,rfl⟩:∃ n:Nat,B=n:=⟨B.toNat,by have:=h.pos; omega⟩
 have eg:cM (n:Int) r.den=(Nat.gcd n r.den:Int):=by
  unfold cM; rw [if_neg (by omega)]
  show ((Int.gcd (n:Int) r.den:Nat):Int)=_
  unfold Int.gcd; rw [Int.natAbs_natCast,Int.natAbs_natCast]
 have el:(n:Int) / cM n r.den * r.den=((Nat.lcm n r.den:Nat):Int):=by
  rw [eg,← Int.natCast_ediv,← Int.natCast_mul]
  congr 1
  unfold Nat.lcm
  exact Nat.div_mul_right_comm (Nat.gcd_dvd_left n r.den) r.den
 rw [el]
 have hn : 0<n:=by have:=h.pos; omega
 refine ⟨by have:=Nat.lcm_pos hn r.den_pos; omega,fun x hx=>?_,?_⟩
 ·rcases List.mem_append.mp hx with hx | hx
  ·exact Int.dvd_trans (h.dv x hx) (Int.natCast_dvd_natCast.mpr (Nat.dvd_lcm_left n r.den))
  ·have:x=r:=by simpa using hx
   subst this; exact Int.natCast_dvd_natCast.mpr (Nat.dvd_lcm_right n x.den)
 ·exact Int.natCast_dvd_natCast.mpr (Nat.lcm_dvd (Int.natCast_dvd_natCast.mp h.dm) hr)
def sumF (B:Int):D→D
 | .tup [.int n,.int d]=>.int (n * (B / d))
 | d=>d
theorem pW (B:Int) (rs:List Rat):(rs.map dQ).map (sumF B)=(rs.map fun r=>r.num * (B / r.den)).map D.int:=by
 rw [List.map_map,List.map_map]; rfl
theorem kc {B:Int} (hB : 0<B):∀ {rs:List Rat},(∀ r∈rs,(r.den:Int)∣B)→Rat.divInt (rs.map fun r=>r.num * (B / r.den)).sum B=rs.sum
 | [],_=>by rw [List.map_nil,List.sum_nil,List.sum_nil,Rat.zero_divInt]
 | r :: rs,h=>by
  have ih:=kc hB (rs:=rs) fun x hx=>h x (.tail _ hx)
  rw [List.map_cons,List.sum_cons,List.sum_cons,← ih]
  obtain ⟨c,hc⟩:=h r (.head _)
  have hd:=bE r
  have e1:B / r.den=c:=by rw [hc]; exact Int.mul_ediv_cancel_left c (by omega)
  have cp:c≠0:=fun z=>by rw [z,Int.mul_zero] at hc; omega
  have e2:r=Rat.divInt (r.num * c) B:=by rw [hc,Rat.divInt_mul_right cp,dj]
  rw [e1]
  conv=>rhs; rw [e2]
  rw [Rat.divInt_add_divInt _ _ (by omega) (by omega)]
  have e3:r.num * c * B + (rs.map fun r=>r.num * (B / r.den)).sum * B=(r.num * c + (rs.map fun r=>r.num * (B / r.den)).sum) * B:=by rw [Int.add_mul]
  rw [e3,Rat.divInt_mul_right (by omega)]
theorem vX (r:Rat):lay 1 (dQ r)=true:=rfl
theorem pe (r:Rat):okD (dQ r)=true:=tD (vX r) (by decide)
theorem rY {r s:Rat} (h1:r.num=s.num) (h2:r.den=s.den):r=s:=by
 rw [← dj r,← dj s,h1,h2]
theorem eqDq (r s:Rat):eqD (dQ r) (dQ s)=decide (r=s):=by
 unfold eqD dQ
 simp only [toP,toPs,PyData.eqv,PyData.eqvAll,Bool.and_true]
 by_cases h:r=s
 ·subst h; simp
 ·rw [decide_eq_false h]
  by_cases h1:r.num=s.num
  ·have h2:r.den≠s.den:=fun z=>h (rY h1 z)
   have h3 : ¬ (r.den:Int)=s.den:=fun z=>h2 (by omega)
   simp [h1,h3]
  ·simp [h1]
theorem kW {rs:List Rat} {i:Int} (h0 : 0≤i) (h1:i<rs.length):atI (rs.map dQ) i=some (dQ (rs.getD i.toNat 0)):=by
 refine gK ?_
 unfold atI ixN
 rw [if_pos h0,if_pos h1]
 show rs[i.toNat]? = _
 rw [List.getD_eq_getElem?_getD,List.getElem?_eq_getElem (by omega)]; rfl
def bi (ps:List Int) (a:Ask) (prs:List Rat):Rat:=((aq ps a).map fun t=>prs.getD (t - 1).toNat 0).sum
def c_ (r:Rat):Rat:=if 0<r then r else 0
def aB (ps:List Int) (a:Ask) (w:Int) (prs:List Rat):Rat:=c_ ((a.worth:Rat) - (w:Rat) * bi ps a prs)
def vE:SpD:=fun ds q=>∃ r,ds=[dQ r]∧q (.bl true) []
def vI:SpD:=fun ds q=>∃ r,ds=[dQ r]∧0≤r∧q (.bl true) []
theorem sN (r:Rat):cM r.num r.den=1:=by
 rw [ji (bE r)]
 have:=r.reduced
 unfold Nat.Coprime at this
 rw [Int.gcd_comm]
 have e:Int.gcd r.num r.den=Nat.gcd r.num.natAbs r.den:=by unfold Int.gcd; rw [Int.natAbs_natCast]
 rw [e,this]; rfl
theorem qg {r:Rat} (h : 0≤r) : 0≤r.num:=Rat.num_nonneg.mpr h
def rq (prs:List Rat):D→D
 | .int t=>dQ (prs.getD (t - 1).toNat 0)
 | d=>d
theorem lK (prs:List Rat) (w:List Int):(w.map D.int).map (rq prs)=(w.map fun t=>prs.getD (t - 1).toNat 0).map dQ:=by
 rw [List.map_map,List.map_map]; rfl
theorem gq {rs:List Rat} {k:Nat} (h:k<rs.length):rs.getD k 0∈rs:=by
 rw [List.getD_eq_getElem?_getD,List.getElem?_eq_getElem h]; exact List.getElem_mem h
theorem dN {ps rs:List Int} (hT:Tree ps rs) {a b:Int} (he:Ends2 ps a b):(kE ps a b).length≤46:=by
 obtain ⟨w,hw,e⟩:=fc hT he.a0 he.b0 he.a1 he.b1
 have h1:=hw.len hT he.a0 he.b0 he.a1 he.b1
 have h2:=hT.hi
 have h3:=he.a1; have h4:=he.b1
 rw [e]
 have:=(aZ w).length_eq
 omega
theorem jX {i:Int} {n:Nat} (m:Nat) (h:i.natAbs≤m) (hm:m<2 ^ n) (hn : 0<n):Bt (i:Rat) n:=btI (by omega) hn
theorem gW:∀ rs:List Rat,imms (rs.map dQ)=true
 | []=>rfl
 | r :: rs=>by rw [List.map_cons,imms,gW rs]; rfl
theorem mZ {xs:List D} {n:Nat} (h:n=xs.length):jN xs none (some (n:Int))=xs:=by
 subst h
 unfold jN
 simp [HT.sIx]
 rw [if_neg (by omega),List.take_length]
theorem mI (l:List Rat) (i:Nat) (x:Rat):D.lst ((l.map dQ).set i (dQ x))=dQs (l.set i x):=by unfold dQs; rw [List.map_set]
theorem sZ {l:List Rat} {i:Nat} {x:Rat} {P:Rat→Prop} (h:∀ r∈l,P r) (hx:P x):∀ r∈l.set i x,P r:=fun r hr=>by
 rcases List.mem_or_eq_of_mem_set hr with z | z
 ·exact h r z
 ·exact z ▸ hx
def aR (rs:List Int) (prs:List Rat):List Rat:=List.zipWith (fun (x:Int) (p:Rat)=>(x:Rat) * p) rs prs
end L2
namespace L2
open PySem PySem.Spec PyProof.Rows
section
variable {M:Model} {A:Around} {E:Value→Shared→Prop} {s:Shared}
end
section
variable {X:Cx} {pins:List (Addr×Obj)} {σ:St} {H H':Hp} {s s':Shared} {e:Addr} {cls:Value} {dx:Option Addr} {T:Option Addr}
end
section
variable {X:Cx} {x:Str} {p pos:Pos} {e:Expr} {es:List Expr} {t:TA} {k:Nat} {f:Addr} {fd:FuncData} {ps:List Str} {sp:Sp} {xk:XS}
end
section
variable {X:Cx} {pins:List (Addr×Obj)} {σ:St} {H:Hp} {s:Shared} {xk:XS}
variable {x:Str} {C:Addr} {bm:List Value} {e:Expr} {args:List Expr} {np cpos pos:Pos} {t:TA}
end
section
variable {X:Cx} {pins p:List (Addr×Obj)} {σ:St} {H:Hp} {s:Shared} {E:Value→Shared→Prop} {v:Value}
variable {e:Addr} {cls:Value} {dx T:Option Addr}
variable {x n:Str} {i:Nat} {C D0:Addr} {bm bmD:List Value} {ini iniD:Option Value} {b0:Stmt} {suite:List Stmt} {np npos:Pos} {ts:TS} {D:Ends} {t:Addr}
end
section
variable {X:Cx} {E:Value→Shared→Prop} {p:List (Addr×Obj)}
end
section
variable {X:Cx} {M:Md} {a b c e:Expr} {mt:MT} {pos pos':Pos} {st:Stmt} {rest:List Stmt} {m:MS} {m1 m2:MSX} {mex:MEX}
variable {mg:MG}
variable {es:List Expr} {ks:List AK} {mr:MA} {x:Str} {p':Pos} {ow:List Bool}
end
section
variable {X:Cx} {M:Md} {e:Expr} {es:List Expr} {ks:List AK} {mr:MA} {x:Str} {pos p':Pos} {ow:List Bool} {mu:List Bool} {k:Nat} {f:Addr} {fd:FuncData} {ps:List Str} {sd:SpX}
end
end L2
namespace L2
open PySem PySem.Spec PyProof.Rows PySem.W Builtin.ObjectAttr
section
variable {prog:Program} {w:World} {A:Around} {E:Value→Shared→Prop} {s:Shared} {K:PySem.W.Frag} {x D:Addr} {ox:Obj} {od:Option Obj} {name:Str} {bm:List Value} {ini:Option Value} {tk:Tok}
end
end L2
namespace L2
open PySem PySem.Spec PyProof.Rows
section
variable {X:Cx}
variable {ow:List Bool} {a:Expr} {ma:ME} {pos:Pos}
end
section
variable {K:PySem.W.Frag} {C a N:Addr} {dd nd:Option Addr} {nm qn:Str} {bs bm sub:List Value} {hd ab:Bool} {sn:List Str} {col:Option Bool} {k0 k1 k2 k3 k5 ini:Option Value} {no:Value} {es:Array DictEntry} {np:Nat} {nl:Array (Option Value)} {sl:Array (Option Value)} {oc:Value} {cd:ClassData}
end
section
variable {X:Cx}
variable {ow:List Bool} {a:Expr} {ma:ME} {pos:Pos}
end
section
variable {K:PySem.W.Frag} {t c:Value} {cs:List Value} {b:Bool}
end
section
variable {prog:Program} {w:World} {A:Around} {E:Value→Shared→Prop} {h:Heap} {g:Array GenState} {d:Drawn} {t:Nat} {os:OsState}
variable {nm q:Str} {C N:Addr} {bs bm:List Value} {hdct:Bool} {sn:List Str} {sub:List Value} {ab:Bool} {col:Option Bool} {dd:Option Addr} {k0 k1 k2 k3 k5:Option Value}
end
section
variable {prog:Program} {w:World} {A:Around} {E:Value→Shared→Prop} {h:Heap} {g:Array GenState} {d:Drawn} {t:Nat} {os:OsState}
variable {nm q:Str} {C N:Addr} {bs bm:List Value} {hdct:Bool} {sn:List Str} {sub:List Value} {ab:Bool} {col:Option Bool} {dd:Option Addr} {k0 k1 k2 k3 k5:Option Value}
end
end L2
namespace L2
open PySem PySem.Spec PyProof.Rows PySem.W Builtin.ObjectAttr Builtin
section
variable {prog:Program} {w:World} {A:Around} {E:Value→Shared→Prop} {s:Shared} {K:PySem.W.Frag} {x C:Addr} {ox:Obj} {od:Option Obj} {name:Str} {bm:List Value} {ini:Option Value} {v:Value}
end
end L2
namespace L2
open PySem PySem.Spec PyProof.Rows
section
variable {X:Cx} {pins:List (Addr×Obj)} {σ:St} {H:Hp} {s:Shared} {e C fI:Addr} {bm:List Value}
end
section
variable {prog:Program} {w:World} {A:Around} {E:Value→Shared→Prop} {s:Shared} {env:Env}
end
section
variable {X:Cx} {xk:XS} {x:Str} {C fI:Addr} {bm:List Value} {e:Expr} {args:List Expr} {np cpos pos:Pos} {t:TA} {k:Nat} {fd:FuncData} {ps ns:List Str}
end
section
variable {X:Cx} {M:Md} {e:Expr} {es:List Expr} {mr:MA} {x:Str} {pos:Pos} {k:Nat} {fd:FuncData} {ps ns:List Str}
end
section
variable {X:Cx} {es:List Expr} {c:St→Prop}
end
section
variable {X:Cx} {C B:Addr} {bm:List Value} {ini:Option Value} {x:Str} {a b:Expr} {np apos pos pos':Pos} {t:TA}
end
section
variable {X:Cx} {pins:List (Addr×Obj)} {σ:St} {H:Hp} {s:Shared} {h':Heap} {a:Addr} {oa od:HO}
end
section
variable {X:Cx} {C:Addr} {bm:List Value} {ini:Option Value} {f:Str} {o value:Expr} {pos pos':Pos} {ta tv:TE}
end
section
variable {X:Cx} {ow:List Bool} {a:Expr} {ma:ME} {pos:Pos} {f:Str}
end
section
variable {X:Cx}
variable {ow:List Bool} {e:Expr} {ma:ME}
end
section
variable {X:Cx} {M:Md} {ow:List Bool} {a e:Expr} {es:List Expr} {pos:Pos} {mex:MEX} {m1:MSX} {mg:MG}
variable {x:Str} {p':Pos} {ma:ME}
end
section
variable {C:Ctx} {ow:List Bool} {G:Hp} {ρ:DSt} {σ:St} {H:Hp} {pd:List (D×V)} {O:Own} {p:Addr} {xs:List V}
end
section
variable {X:Cx} {ow:List Bool} {a b e:Expr} {es:List Expr} {ma mb:ME} {mr:MA} {pos:Pos} {x:Str} {p':Pos}
end
section
variable {X:Cx} {M:Md} {i:Nat} {st:Stmt} {rest:List Stmt} {m1 m2:MFl} {me:MFe} {ms:MS} {pos pos':Pos}
variable {e b c:Expr} {ma mb:ME} {mt:MT}
end
section
variable {C:Ctx} {ow:List Bool} {i:Nat} {G:Hp} {ρ:DSt} {σ:St} {H:Hp} {p:Addr} {ds:List D}
end
section
variable {X:Cx} {M:Md} {i:Nat} {pos pos':Pos} {e c:Expr} {ma:ME} {mt:MT} {m1 m2:MFl}
end
section
variable {X:Cx} {M:Md} {a b e:Expr} {ma mb:ME} {pos:Pos}
end
section
variable {X:Cx} {M:Md} {a b:Expr} {ma mb:ME} {pos:Pos}
end
section
variable {X:Cx} {pos p1 p2 q1 q2:Pos} {n1 n2:Nat} {k1 k2 x y:Str} {i j:Nat} {ow:List Bool}
end
section
variable {X:Cx} {ow:List Bool} {a b e:Expr} {ma mb:ME} {pos p2:Pos} {lo hi:Option Expr} {ml mh:MO}
end
section
variable {X:Cx} {M:Md} {i:Nat} {st:Stmt} {m:MFl}
end
section
variable {X:Cx}
end
end L2
namespace L2
open PySem
end L2
namespace L2
open PySem PySem.Spec PyProof.Rows
section
variable {X:Cx}
end
section
variable {X:Cx} {M:Md} {e:Expr} {ma:ME} {pos:Pos}
end
section
variable {X:Cx} {M:Md} {i:Nat} {st:Stmt} {rest:List Stmt} {m1 m2:MFl} {me:MFe} {pos pos':Pos} {e:Expr} {ma:ME}
end
section
variable {X:Cx} {M:Md} {elt tg iter:Expr} {ifs:List Expr} {pos:Pos} {mi:MA} {mg:MG} {mt:MT} {me:ME} {scope:Scope} {cl:List (Str×Addr)} {rest:List Stmt} {mf:MFe}
end
section
variable {X:Cx} {ow:List Bool} {e:Expr} {ma:ME} {pos p2:Pos} {lo hi:Option Expr} {ml mh:MO}
end
end L2
namespace L2
open PySem
theorem kr:∀ (ls:List Int) (prs:List Rat) (k:Nat) (s:Int),k<ls.length→k<prs.length→(aR (ls.set k (ls.getD k 0 + s)) prs).sum=(aR ls prs).sum + (s:Rat) * prs.getD k 0
 | [],_,k,_,h,_=>by simp at h
 | _ :: _,[],k,_,_,h=>by simp at h
 | x :: ls,p :: prs,0,s,_,_=>by
  show (((x + s:Int):Rat) * p :: aR ls prs).sum=((x:Rat) * p :: aR ls prs).sum + (s:Rat) * p
  rw [List.sum_cons,List.sum_cons,Rat.intCast_add]; grind
 | x :: ls,p :: prs,k + 1,s,h1,h2=>by
  have:=kr ls prs k s (by simpa using h1) (by simpa using h2)
  show ((x:Rat) * p :: aR (ls.set k (ls.getD k 0 + s)) prs).sum=((x:Rat) * p :: aR ls prs).sum + (s:Rat) * prs.getD k 0
  rw [List.sum_cons,List.sum_cons,this]; grind
theorem i7 (s:Int) (prs:List Rat):∀ (w l:List Int),l.length=prs.length→(∀ t∈w,0<t∧t≤(prs.length:Int))→(aR (bG l w s) prs).sum=(aR l prs).sum + (s:Rat) * (w.map fun t=>prs.getD (t - 1).toNat 0).sum
 | [],l,_,_=>by
  show (aR l prs).sum=_
  rw [List.map_nil,List.sum_nil,Rat.mul_zero,Rat.add_zero]
 | t :: w,l,hl,hw=>by
  have ht:=hw t (.head _)
  show (aR (bG (gc s l t) w s) prs).sum=_
  rw [i7 s prs w (gc s l t) (by rw [iy]; exact hl) fun x hx=>hw x (.tail _ hx),List.map_cons,List.sum_cons]
  have:=kr l prs (t - 1).toNat s (by omega) (by omega)
  unfold gc
  rw [this]; grind
theorem iW:∀ (n:Nat) (prs:List Rat),(aR (List.replicate n 0) prs).sum=0
 | 0,_=>by cases ‹List Rat› <;> rfl
 | n + 1,[]=>rfl
 | n + 1,p :: prs=>by
  show (((0:Int):Rat) * p :: aR (List.replicate n 0) prs).sum=0
  rw [List.sum_cons,iW n prs]; grind
def bQ (f:Ask→Rat) (as:List Ask) (ks:List Int):Rat:=(ks.map fun k=>f (as.getD k.toNat aS)).sum
theorem i3 {a b:List Rat} (h:a.Perm b):a.sum=b.sum:=by
 induction h with
 | nil=>rfl
 | cons x _ ih=>rw [List.sum_cons,List.sum_cons,ih]
 | swap x y l=>rw [List.sum_cons,List.sum_cons,List.sum_cons,List.sum_cons]; grind
 | trans _ _ i1 i2=>rw [i1,i2]
theorem nj {f:Ask→Rat} {as:List Ask} {a b:List Int} (h:a.Perm b):bQ f as a=bQ f as b:=i3 (h.map _)
theorem gI:∀ {l:List Rat},(∀ x∈l,0≤x)→0≤l.sum
 | [],_=>by decide
 | x :: l,h=>by rw [List.sum_cons]; have:=gI fun y hy=>h y (.tail _ hy); have:=h x (.head _); grind
theorem rz (f:Ask→Rat) (as:List Ask):(as.map f).sum=bQ f as ((List.range as.length).map fun (k:Nat)=>(k:Int)):=by
 unfold bQ
 rw [List.map_map]
 congr 1
 apply List.ext_getElem?
 intro i
 rw [List.getElem?_map,List.getElem?_map,List.getElem?_range_eq]
 by_cases h:i<as.length
 ·rw [if_pos h,List.getElem?_eq_getElem h]
  show some (f as[i])=some (f (as.getD ((i:Int)).toNat aS))
  rw [Int.toNat_natCast,List.getD_eq_getElem?_getD,List.getElem?_eq_getElem h]; rfl
 ·rw [if_neg h,List.getElem?_eq_none (by omega)]; rfl
where
 List.getElem?_range_eq {n i:Nat}:(List.range n)[i]? = if i<n then some i else none:=by
  by_cases h:i<n
  ·rw [if_pos h,List.getElem?_range h]
  ·rw [if_neg h,List.getElem?_eq_none (by simpa using h)]
theorem jH (x:Rat):x≤c_ x∧0≤c_ x:=by unfold c_; constructor <;> split <;> grind
end L2
namespace L2
open PySem PySem.Spec PyProof.Rows
section
variable {X:Cx} {pins p:List (Addr×Obj)} {σ:St} {H:Hp} {s:Shared} {E:Value→Shared→Prop} {v:Value} {e:Addr} {cls:Value} {dx T:Option Addr}
variable {x:Str} {C D0:Addr} {bm bmD:List Value} {ini iniD:Option Value} {b0:Stmt} {suite:List Stmt} {np npos:Pos} {ts:TS} {D:Ends} {t:Addr}
end
section
variable {X:Cx} {ow:List Bool} {a b:Expr} {mex:MEX} {mb:ME} {pos:Pos}
end
end L2
namespace L2
open PySem
end L2
namespace L2
open PySem PySem.Spec PyProof.Rows
section
variable {X:Cx} {pos p1 q1:Pos} {n1:Nat} {k1:Int} {x:Str} {i:Nat} {ow:List Bool}
end
section
variable {X:Cx} {ow:List Bool} {es:List Expr} {mr:MA} {pos:Pos}
end
end L2
namespace L2
open PySem
end L2
namespace L2
open PySem PySem.Spec PyProof.Rows
section
variable {X:Cx}
end
section
variable {X:Cx} {M:Md} {e e':Expr} {mr:MA} {pos:Pos}
end
end L2
namespace L2
open PySem
def nT (ws:List (List Int)):D:=.lst (ws.map au)
def iz (ps:List Int) (as:List Ask):List (List Int):=as.map (aq ps)
def wayF (ps:List Int):D→D
 | .tup [.int a,.int b,_,_]=>au (kE ps a b)
 | d=>d
theorem nL (ps:List Int) (as:List Ask):(as.map bV).map (wayF ps)=(iz ps as).map au:=by
 unfold iz; rw [List.map_map,List.map_map]; rfl
def gD (rs:List Int) (s:Int) (w l:List Int):List Int:=w.filter fun t=>decide (rs.getD (t - 1).toNat 0<l.getD (t - 1).toNat 0 + s)
def pB:SpD:=fun ds q=>∃ ps rs a w l,ds=[aK ps rs,bV a,au w,au l]∧Tree ps rs∧(∀ t∈w,0<t∧t≤(ps.length:Int))∧w.length≤1000∧l.length=ps.length∧q (au (gD rs a.size w l)) []
def jR (rs:List Int) (s:Int) (l:List Int):D→Option D
 | .int t=>if decide (rs.getD (t - 1).toNat 0<l.getD (t - 1).toNat 0 + s)=true then some (.int t) else none
 | _=>none
theorem h_ (rs:List Int) (s:Int) (l:List Int):∀ w:List Int,(w.map D.int).filterMap (jR rs s l)=(gD rs s w l).map D.int
 | []=>rfl
 | t :: w=>by
  have ih:=h_ rs s l w
  unfold gD at *
  rw [List.map_cons,List.filterMap_cons,List.filter_cons]
  have e:jR rs s l (.int t)=if decide (rs.getD (t - 1).toNat 0<l.getD (t - 1).toNat 0 + s)=true then some (.int t) else none:=rfl
  rw [e]
  by_cases h:decide (rs.getD (t - 1).toNat 0<l.getD (t - 1).toNat 0 + s)=true
  ·rw [if_pos h,if_pos h]; simp only [List.map_cons]; rw [ih]
  ·rw [if_neg h,if_neg h]; simp only; rw [ih]
def av (as:List Ask) (k:Int):Ask:=as.getD k.toNat aS
end L2
namespace L2
open PySem PySem.Spec PyProof.Rows
section
variable {X:Cx}
end
end L2
namespace L2
open PySem
theorem bY {ps:List Int} {as:List Ask} (ha:AsksOk ps as) {k:Int} (h0 : 0≤k) (h1:k<(as.length:Int)):AskOk ps (av as k):=ha.ok _ (cB (k:=k.toNat) (by omega))
theorem kb (f:Int→Int):∀ l:List Int,(((l.map f).sum:Int):Rat)=(l.map fun k=>((f k:Int):Rat)).sum
 | []=>rfl
 | x :: l=>by rw [List.map_cons,List.map_cons,List.sum_cons,List.sum_cons,Rat.intCast_add,kb f l]
theorem dc {α:Type} (n j:Nat) (x : α):(List.replicate n x).getD j x=x:=by
 rw [List.getD_eq_getElem?_getD,List.getElem?_replicate]; split <;> rfl
theorem ly {ps rs:List Int} {as:List Ask} (hT:Tree ps rs) (ha:AsksOk ps as) {a b:List Int} (h:a.Perm b) (hb:∀ k∈b,0≤k∧k<(as.length:Int)):bN ps as a=bN ps as b:=by
 rw [kF hT ha fun k hk=>hb k (h.mem_iff.mp hk),kF hT ha hb]
 exact List.map_congr_left fun j _=>pN (h.map _)
def nR (as:List Ask) (ks:List Int):Int:=(ks.map fun k=>(as.getD k.toNat aS).worth).sum
theorem gy (as:List Ask):∀ ks:List Int,((nR as ks:Int):Rat)=bQ (fun a=>(a.worth:Rat)) as ks
 | []=>rfl
 | k :: ks=>by
  have:=gy as ks
  unfold nR bQ at *
  rw [List.map_cons,List.map_cons,List.sum_cons,List.sum_cons,Rat.intCast_add,this]
end L2
namespace L2
open PySem PySem.Spec PyProof.Rows
section
variable {X:Cx}
variable {ow:List Bool} {e e2:Expr} {ma mb:ME}
end
end L2
namespace L2
open PySem
end L2
namespace L2
open PySem PySem.Spec PyProof.Rows
section
variable {X:Cx}
end
end L2
namespace L2
open PySem
end L2
namespace L2
open PySem PySem.Spec PyProof.Rows
section
variable {κ:Type} [DecidableEq κ]
end
section
variable {P:Program} {w:World} {H:Hp} {h:Heap} {a:Addr}
end
section
variable {X:Cx} {pins:List (Addr×Obj)} {σ:St} {H:Hp} {s:Shared} {a:Addr} {y v:V} {u r:Value} {o:Option V} {A:Around} {E:Value→Shared→Prop}
end
section
variable {X:Cx} {pins:List (Addr×Obj)} {σ:St} {H:Hp} {s:Shared} {a:Addr} {kvs:List (Key×V)} {k:Key} {u:Value} {A:Around} {E:Value→Shared→Prop}
end
section
variable {X:Cx} {o i e value:Expr} {pos pos' tpos:Pos} {td ty tv:TE}
end
section
variable {X:Cx} {pos:Pos}
end
section
variable {X:Cx} {pins:List (Addr×Obj)} {σ:St} {H:Hp} {s:Shared} {a:Addr} {y d:V} {u r:Value} {o:Option V} {A:Around} {E:Value→Shared→Prop}
end
section
variable {X:Cx} {o e f:Expr} {apos cpos:Pos} {td ty tx:TE}
end
section
variable {X:Cx} {pins:List (Addr×Obj)} {σ:St} {H:Hp} {s:Shared} {a:Addr} {kvs:List (Key×V)} {A:Around} {E:Value→Shared→Prop}
end
section
variable {X:Cx} {pins:List (Addr×Obj)} {σ:St} {H:Hp} {s:Shared} {a:Addr} {y:V} {u:Value} {A:Around} {E:Value→Shared→Prop}
end
section
variable {C:Ctx} {ow:List Bool} {G:Hp} {ρ:DSt} {σ:St} {H:Hp} {pd:List (D×V)} {O:Own}
end
section
variable {X:Cx} {M:Md} {ow:List Bool} {a b c e:Expr} {ma mb mc:ME} {pos:Pos}
end
section
variable {C:Ctx} {ow:List Bool} {G:Hp} {ρ:DSt} {σ:St} {H:Hp} {pd:List (D×V)} {O:Own}
end
section
variable {X:Cx} {ow:List Bool} {a b e:Expr} {pos:Pos} {ma mb:MN0}
end
section
variable {X:Cx} {M:Md} {ow:List Bool} {i:Nat} {a b e:Expr} {pos:Pos} {mp:MPt} {mz:MN0} {ma:ME}
end
section
variable {X:Cx} {M:Md} {i:Nat} {pos:Pos} {mg:MG} {m:MS}
end
end L2
namespace L2
open PySem
end L2
namespace L2
open PySem PySem.Spec PyProof.Rows
section
variable {X:Cx}
end
section
variable {X:Cx} {pins:List (Addr×Obj)} {σ:St} {H:Hp} {s:Shared}
end
section
variable {X:Cx} {ow:List Bool} {pos:Pos}
end
section
open AutoSeq1 (wpAny_loadPart')
open MeetsSeq MeetsSeq2 MeetsSeq3
end
section
variable {prog:Program} {w:World} {A:Around} {E:Value→Shared→Prop} {s:Shared}
end
section
variable {X:Cx}
end
section
variable {X:Cx} {ow:List Bool} {pos p1 p2 p3 p4:Pos} {j1 j2 j3 j4:Nat}
end
end L2
namespace L2
open PySem
end L2
namespace L2
open PySem PySem.Spec PyProof.Rows
section
variable {X:Cx} {ow:List Bool} {a b:Expr} {ma mb:DSt→(Int→Prop)→Prop} {pos:Pos}
end
section
variable {C:Ctx} {ow:List Bool} {G G':Hp} {ρ:DSt} {σ:St} {H H':Hp} {pd:List (D×V)} {O O':Own}
end
section
variable {X:Cx} {ow:List Bool} {tg iter:Expr} {ifs:List Expr} {pos pos':Pos} {mi:MA} {mg:MG} {scope:Scope} {cl:List (Str×Addr)}
end
section
variable {X:Cx}
def mLRng2 (m:MA):ME:=fun ρ q=>m ρ fun ds ρ'=>match ds with
 | [.int i,.int j]=>(0≤i∧i≤j∧j≤1000)∧q (.lst (kD i (j - i).toNat)) ρ'
 | _=>False
variable {a b:Expr} {mr:MA} {pos:Pos}
end
def Itv (a:Addr) (n:Nat):It :=
 ⟨fun i H=>∃ xs x,H a=some (.lst xs)∧xs.length=n∧i<n∧xs[n - 1 - i]? = some x,fun i H x H'=>H'=H∧∀ xs,H a=some (.lst xs)→xs[n - 1 - i]? = some x,fun i _=>n≤i⟩
theorem pY {P:Program} {w:World} {K:PySem.W.Frag} {tg:Expr} (a it:Addr) (n:Nat):Turn P w K tg (Itv a n) [it] it (fun i h=>i≤n∧h.IsRevIter it a ((n:Int) - 1 - (i:Int))) where
 mem:=by simp
 obj:=fun i h st b hb=>by
  have e:b=it:=by simpa using hb
  subst e
  obtain ⟨_,o,e,c,d⟩:=st
  exact ⟨o,e,fun v z=>by rw [d] at z; cases z⟩
 keep:=fun i h h' st k=>⟨st.1,st.2.at fun o e=>k it (by simp) o e⟩
 item:=by
  intro X hP hw hK hc i pins s σ H E I hf st hg
  subst hP hw hK
  obtain ⟨xs,x,hq,hn,hi,hx⟩:=hg
  obtain ⟨its,rv,p,hz⟩:=I.list (SqL.of hq)
  obtain ⟨u,hu,ru⟩:=rv.get hx
  obtain ⟨f0,f1,f2,f3,f4,f5⟩:=hf it (by simp)
  have st2:=st.2
  rw [show (n:Int) - 1 - (i:Int)=((n - 1 - i:Nat):Int) by omega] at st2
  refine wpAny_pyNext_rev_item st2 p.isList (x:=u) (by simpa using hu) fun h' st' sb=>?_
  have I1:Inv X pins σ H { s with heap:=h' }:=I.turned (t':=s.toks) (fun b o hb e=>(sb.2 b hb).trans e) f0 f1 f3 f4 f5
  obtain ⟨o,e,c,d⟩:=id st'
  refine ⟨u,rfl,p8 (s:={ s with heap:=h' }) e c d (by decide) ⟨x,H,I1,ru,⟨rfl,fun ys hy=>by rw [hq] at hy; cases hy; exact hx⟩,⟨hi,?_⟩,fun b hb=>(hf b hb).1⟩⟩
  rw [show (n:Int) - 1 - ((i + 1:Nat):Int)=((n - 1 - i:Nat):Int) - 1 by omega]
  exact st'
 done:=by
  intro X hP hw hK hc i pins s σ H E I hf st hg
  subst hP hw hK
  have hg:n≤i:=hg
  have hg:i=n:=Nat.le_antisymm st.1 hg
  obtain ⟨f0,f1,f2,f3,f4,f5⟩:=hf it (by simp)
  have st2:=st.2
  rw [show (n:Int) - 1 - (i:Int) = -1 by omega] at st2
  exact wpAny_pyNext_rev_end (I.ok.hd hc) st2 fun h' eb=>⟨rfl,I.turned (t':=s.toks) (fun b o hb e=>eb b o hb e) f0 f1 f3 f4 f5⟩
 self:=fun _ _ _ _ _ st h=>wpAny_pyIter_revIter st.2 h
section
variable {X:Cx} {tg:Expr}
def iRev (ta:TA):TI:=fun σ H R=>ta σ H fun vs H1=>∃ a xs,vs=[.ref a]∧H1 a=some (.lst xs)∧R (Itv a xs.length) H1
theorem vL {l:Expr} {ta:TA} {p pos:Pos} (hg:Gl X "reversed") (hm:X.mg "reversed" = none) (ha:PA X [l] ta) (hs:starEach [l] X.env=[(false,eval l X.env)]:=by rfl):PI X tg (.Call (.Name "reversed" p) [l] [] pos) (iRev ta):=by
 refine ⟨fun pins s σ H R I h=>?_⟩
 refine Call_ (eB I hg hm (show bootBuiltins "reversed" = some (.type "reversed") by decide +kernel) (PyProof.Rows.callWith_type1 (thn (ha pos pins s σ H _ I h) fun us s1 ⟨vs,H1,I1,r1,q1⟩=>?_) hs rfl))
 obtain ⟨a,xs,e,hx,q⟩:=q1
 subst e
 obtain ⟨u,rfl,ru⟩:=gA r1
 cases ru
 obtain ⟨its,rv,p1,hz⟩:=I1.list (SqL.of hx)
 have hl:=rv.length
 refine call_reversed_list p1.isList ?_
 refine wpAny_pyIter_revIter (it:=s1.heap.objs.size) (l:=a) (i:=(its.toArray.size:Int) - 1) ⟨_,Heap.get?_push_size _ rfl,rfl,rfl⟩ ?_
 refine ⟨s1.heap.objs.size,[s1.heap.objs.size],_,_,H1,rfl,I1.kept (t':=s1.toks) fun b o e=>Heap.get?_push_of_some _ e,pY a _ xs.length,⟨Nat.zero_le _,_,Heap.get?_push_size _ rfl,rfl,?_⟩,fun b hb=>?_,q⟩
 ·have e1:its.toArray.size=xs.length:=by simp; omega
  show Data.fields #[.ref a,rawInt ((its.toArray.size:Int) - 1)]=Data.fields #[.ref a,rawInt ((xs.length:Int) - 1 - ((0:Nat):Int))]
  rw [e1]
  congr 3
  simp
 ·have e:b=s1.heap.objs.size:=by simpa using hb
  subst e
  exact I1.fpOk (Nat.le_refl _) (I1.hok.fresh (Nat.le_refl _))
theorem uS {G:Hp} {p:Addr} {xs:List V} {ds:List D} (h1:G p=some (.lst xs)) (h2:Reps G ds xs):nu (Itv p xs.length) G ds.reverse:=fun C ow G' ρ σ H pd i z r=>by
 have hp:=r.gh _ _ (z _ _ h1)
 have hl:=h2.length
 refine ⟨fun h=>by rw [List.length_reverse] at h; show xs.length≤i; omega,fun d e=>?_⟩
 have hi:i<ds.length:=by have:=(List.getElem?_eq_some_iff.mp e).1; rw [List.length_reverse] at this; exact this
 rw [List.getElem?_reverse hi] at e
 obtain ⟨v,e1,e2⟩:=eQ h2 e
 rw [← hl] at e1
 refine ⟨⟨xs,v,hp,rfl,by omega,e1⟩,fun x H' hy=>?_⟩
 obtain ⟨rfl,hy⟩:=hy
 have:=hy xs hp
 rw [e1] at this; cases this
 exact ⟨G',aU.refl _,r,Rep.mono z _ _ e2⟩
def miRev (m:MA):MA:=fun ρ q=>m ρ fun ds ρ'=>match ds with
 | [.lst ds]=>q ds.reverse ρ'
 | _=>False
variable {ow:List Bool} {a:Expr} {mr:MA} {pos:Pos}
theorem vJ {p:Pos} (hg:Gl X "reversed") (hm:X.mg "reversed" = none) (ha:QA X ow [a] mr) (hs:starEach [a] X.env=[(false,eval a X.env)]:=by rfl):QI X ow tg (.Call (.Name "reversed" p) [a] [] pos) (miRev mr):=by
 obtain ⟨t,p,s⟩:=ha
 refine ⟨_,vL hg hm p hs,fun C G ρ σ H pd q Q r hm k=>s C G ρ σ H pd _ _ r hm fun ds ρ' vs G' H' hq z kp r' p hn=>?_⟩
 split at hq
 ·obtain ⟨v,rfl,p1⟩:=bK p
  obtain ⟨a,xs,rfl,h1,h2⟩:=bq p1
  exact ⟨a,xs,rfl,r'.gh _ _ h1,k _ ρ' G' H' _ hq z kp r' (uS h1 h2)⟩
 ·exact hq.elim
end
section
variable {X:Cx}
open PySem.Builtin.Str (partsBetween occurrences)
variable {ow:List Bool} {e a b:Expr} {ma mb:ME}
end
section
variable {X:Cx} {tg:Expr}
variable {ow:List Bool} {e:Expr} {ma:ME}
end
end L2
namespace L2
open PySem PySem.Spec PyProof.Rows
section
variable {X:Cx}
end
end L2
namespace L2
open PySem
end L2
namespace L2
open PySem PySem.Spec PyProof.Rows
section
variable {prog:Program} {w:World} {A:Around} {E:Value→Shared→Prop} {s:Shared}
end
section
variable {X:Cx}
end
end L2
namespace L2
open PySem
end L2
namespace L2
open PySem PySem.Spec PyProof.Rows
section
variable {X:Cx} {ow:List Bool} {a b:Expr} {mex:MEX} {mb:ME} {pos:Pos}
end
section
variable {X:Cx} {pos p1 q1:Pos} {n1 n2:Nat} {k1 z:Int} {ow:List Bool}
end
section
variable {X:Cx} {ow:List Bool} {a b:Expr} {ma mb:ME} {pos:Pos}
end
section
variable {K:PySem.W.Frag} {mg:Str→Option Value} {n:Str} {st:Stmt} {ps:List Str} {f:Addr} {d:FuncData}
structure FT (K:PySem.W.Frag) (mg:Str→Option Value) (n:Str) (st:Stmt) (ps:List Str) (f:Addr) (d:FuncData):Prop where
 F:Fun K n n st f d
 b:gB K d ps []
 m:mg n=some (.ref f)
structure FH (K:PySem.W.Frag) (n:Str) (st:Stmt) (f:Addr) (d:FuncData):Prop where
 a:PySem.W.nsIn K mainGlobals n=some (some (.ref f))
 F:Fun K n n st f d
theorem aN {oc:Value} {od an:Option Addr} {osl:Array (Option Value)} {kV doc pm cdv ct:Value} (a:PySem.W.nsIn K mainGlobals n=some (some (.ref f))) (l:K.lookup f=some ⟨oc,od,.func (PySem.W.fnOf n n (eu st) (cC st) (ak st) .none kV doc pm an cdv ct),osl⟩)
 (c:PySem.W.codeIn K cdv n=true) (k:PySem.W.keepIn K (.ref f)=true):FH K n st f (PySem.W.fnOf n n (eu st) (cC st) (ak st) .none kV doc pm an cdv ct):=⟨a,vh l c k⟩
theorem FH.ft {h:Heap} (z:FH K n st f d) (X:K.In h) (G:h.Ns mainGlobals mg)
 (hb:∀ (kV doc pm:Value) (an:Option Addr) (cdv ct:Value) (us:List Value),us.length=ps.length→bindArgs (PySem.W.fnOf n n (eu st) (cC st) (ak st) .none kV doc pm an cdv ct) ⟨us,[]⟩=pure (ps.zip us)):FT K mg n st ps f d:=⟨z.F,z.F.binds hb,PySem.W.mg_of X G z.a⟩
theorem aO {N P:List Str} {sc:Scope} (a:sc.kind = .function:=by rfl) (b:sc.isCoroutine=false:=by rfl) (c:sc.isGenerator=false:=by rfl) (d:N.Nodup:=by decide +kernel) (e:N.take P.length=P:=by rfl)
 (g:∀ x∈P,sc.names.lookup x=some .local∨sc.names.lookup x=some .cell:=by decide +kernel) (h:∀ y∈sc.names,y.2≠.free:=by decide +kernel):FnScope N P sc:=⟨a,b,c,d,e,g,h⟩
end
section
variable {X:Cx} {ow:List Bool} {k j:Nat} {f:Addr} {fd:FuncData} {ps:List Str} {mu:List Bool} {sd:SpD} {sx:SpX} {x:Str} {st:Stmt} {ks:List AK} {e:Expr} {es:List Expr} {mr:MA} {pos p':Pos}
theorem ag (F:FnOk X.prog X.w X.K X.mg X.base CX0 k f fd ps (aW mu false sd)) (hr:Room j X.A) (t:FT X.K X.mg x st ps f fd) (ha:QAk X ow ks (e :: es) mr) (hj:k≤j:=by decide) (hg:Gl X x:=by rfl) (hmu:mu=ks.map AK.isM:=by rfl) (nd:(aF ks).Nodup:=by decide) (hw:∀ i∈aF ks,ow[i]? = some true:=by decide) (hdb:(x == ("__debug__":Str))=false:=by decide)
 (he:starEach (e :: es) X.env=(false,eval e X.env) :: starEach es X.env:=by rfl) (hpl:(backTo pos (starEach es X.env)).any (·.1)=false:=by rfl):QE X ow (.Call (.Name x p') (e :: es) [] pos) (mE ks sd mr):=r9 F (hr.mono hj) hg t.m t.F.kp t.b ha hmu nd hw hdb he hpl
theorem aI (F:FnOk X.prog X.w X.K X.mg X.base CX0 k f fd ps (aW mu true sd)) (hr:Room j X.A) (t:FT X.K X.mg x st ps f fd) (ha:QAk X ow ks (e :: es) mr) (hj:k≤j:=by decide) (hg:Gl X x:=by rfl) (hmu:mu=ks.map AK.isM:=by rfl) (nd:(aF ks).Nodup:=by decide) (hw:∀ i∈aF ks,ow[i]? = some true:=by decide) (hdb:(x == ("__debug__":Str))=false:=by decide)
 (he:starEach (e :: es) X.env=(false,eval e X.env) :: starEach es X.env:=by rfl) (hpl:(backTo pos (starEach es X.env)).any (·.1)=false:=by rfl):QF X ow (.Call (.Name x p') (e :: es) [] pos) (mE ks sd mr):=rW F (hr.mono hj) hg t.m t.F.kp t.b ha hmu nd hw hdb he hpl
end
section
variable {K:PySem.W.Frag} {C a N:Addr} {dd nd:Option Addr} {nm qn x:Str} {bs bm sub:List Value} {hd ab:Bool} {sn:List Str} {col:Option Bool} {k0 k1 k2 k3 k5 ini:Option Value} {no:Value} {es:Array DictEntry} {np:Nat} {nl:Array (Option Value)}
end
end L2
namespace L2
open PySem PySem.Spec PyProof.Rows PySem.W Att
section
variable {prog:Program} {w:World} {A:Around} {E:Value→Shared→Prop} {s:Shared}
theorem ke {r:Addr} {a b c:Int} {t u v:Tok} {n:Nat} {Q:List Value→Shared→Prop} (hh:A.handled=none) (hr:IsRange s.heap r a b c t u v) (hsmall:Builtin.Range.small a b c=true)
 (hn:Builtin.Range.rangeSize a b c=n) (hlen:n≤2 ^ 24)
 (h:∀ h' tk (ys:List Value),s.heap.objs.size≤h'.objs.size→(∀ b o,s.heap.get? b=some o→h'.get? b=some o)→ys.length=n→(∀ (j:Nat) v,ys[j]? = some v→∃ t,v=Value.int (a + j * c) t)→Q ys { s with heap:=h',toks:=tk }) :
 wpAny (model prog w) A (collect (.ref r)) Q E s:=by
 unfold collect
 refine wpAny_bind (wpAny_runValue (codeAny_builtin F.entry_proto_collect ?_))
 rw [Around.under_plainId F.plain_proto_collect _]
 show wpAny _ A.in1 (newList [] >>= fun l=>again (.builtin "list.__iadd__" ⟨[l,.ref r],[]⟩)) _ _ s
 refine wpAny_bind (wpAny_newObj_type ?_)
 refine wpAny_pure ⟨plainId_quiet F.plain_list_iadd _,codeAny_builtin F.entry_list_iadd ?_⟩
 rw [Around.under_plainId F.plain_list_iadd _]
 have hr':IsRange (s.heap.push (seqObj "list" #[] 0)) r a b c t u v:=Heap.get?_push_of_some _ hr
 have fin:∀ h' tk acc' c',(∀ b o,b≠s.heap.objs.size→(s.heap.push (seqObj "list" #[] 0)).get? b=some o→h'.get? b=some o)→h'.get? s.heap.objs.size=some { cls:=.type "list",dict:=none,data:=.seq acc' c',slots:=#[] } →
  ItemsOf (fun i v=>∃ t,v = .int (a + i * c) t) acc' n→wpAny (model prog w) A (do
   let o ← load s.heap.objs.size
   match o.data with
   | .seq xs _=>pure xs.toList
   | _=>unsupported "internal:collect") Q E { s with heap:=h',toks:=tk }:=fun h' tk acc' c' hk hS' hacc=>by
  refine wpAny_bind (wpAny_load hS' ?_)
  refine wpAny_pure (h h' tk acc'.toList (Nat.le_of_lt (Heap.lt_size hS')) (fun b o e=>hk b o (Nat.ne_of_lt (Heap.lt_size e)) (Heap.get?_push_of_some _ e)) (by simpa using hacc.1) fun j v hv=>?_)
  exact hacc.2 j v (by simpa using hv)
 have main := wpAny_extend_range (prog := prog) (w := w) (A := A) (s := { s with heap := s.heap.push (seqObj "list" #[] 0) }) (R := fun r s' => r = .ok (.ret (.ref s.heap.objs.size)) ∧ wpAny (model prog w) A (do
       let o ← load s.heap.objs.size
       match o.data with
       | .seq xs _=>pure xs.toList
       | _=>unsupported "internal:collect") Q E s') hh hr' hsmall hn hlen s.heap.objs.size (.ref s.heap.objs.size) 0 (Heap.get?_push_size _ rfl) fun h' tk acc' c' hk hS' hacc=>⟨rfl,fin h' tk acc' c' hk hS' hacc⟩
 refine wpAny_mono main (fun f s' q=>?_) fun e s' q=>by cases q.1
 cases f with
 | done f=>obtain ⟨e,q⟩:=q; cases e; exact q
 | again c'=>exact ⟨q.1,codeAny_mono q.2 fun r s'' q=>by obtain ⟨rfl,q⟩:=q; exact q⟩
theorem i4:∀ (ys:List Value) (a:Int),(∀ (j:Nat) v,ys[j]? = some v→∃ t,v=Value.int (a + j * 1) t)→IntsAre ys ((List.range ys.length).map fun (i:Nat)=>a + (i:Int))
 | [],_,_=>.nil
 | y :: ys,a,h=>by
  obtain ⟨t,rfl⟩:=h 0 y rfl
  have ih:=i4 ys (a + 1) fun j v e=>by
   obtain ⟨t,rfl⟩:=h (j + 1) v (by simpa using e)
   exact ⟨t,by congr 1; push_cast; omega⟩
  rw [List.length_cons,List.range_succ_eq_map,List.map_cons,List.map_map]
  have e:((List.range ys.length).map ((fun (i:Nat)=>a + (i:Int)) ∘ Nat.succ))=(List.range ys.length).map fun (i:Nat)=>a + 1 + (i:Int):=List.map_congr_left fun i _=>by show a + ((i + 1:Nat):Int)=_; omega
  rw [e]
  have e0:a + ((0:Nat):Int) * 1=a + ((0:Nat):Int):=by omega
  rw [e0]
  exact .cons _ t ih
variable {h₀:Heap} {L:Addr} {m:Str→Option Value} {news:List (Addr×Obj)}
theorem lB {kz:List Int} {f:Value} {kw:List (Str×Value)} {b:Bool} {r:Addr} {t u v:Tok} {n:Nat} {Q:Value→Shared→Prop} (F:Fr h₀ L s.heap m) (N:News h₀ L s.heap news) (hh:A.handled=none) (hr:IsRange s.heap r 0 n 1 t u v) (hlen:kz.length=n) (h64:n<64)
 (ha1:argsOk "sorted" ⟨[.ref r],kw⟩) (ha2:∀ x,argsOk "list.sort" ⟨[.ref x],kw⟩) (ht:∀ x,Builtin.«list.sort» ⟨[.ref x],kw⟩=ksk_tree x f b)
 (turn:∀ (i:Nat) (k:Int) (ti:Tok),kz[i]? = some k→∀ (h:Heap) (tk:Nat) (own:List (Addr×Obj)),Fr h₀ L h m→News h₀ L h (news++own) →
  wpAny (model prog w) A.in1.in1 (call f [.int i ti]) (KskEnd h₀ L m (news++own) k { s with heap:=h,toks:=tk }) (fun _ _=>False) { s with heap:=h,toks:=tk })
 (h:∀ D h' tk vs out c,Fr h₀ L h' m→News h₀ L h' ((D,seqObj "list" out c) :: news)→s.heap.objs.size≤D→IntsAre vs ((List.range n).map fun (i:Nat)=>(i:Int))→KskOut b kz vs out.toList→Q (.ref D) { s with heap:=h',toks:=tk }) :
 wpAny (model prog w) A (call (.builtin "sorted") [.ref r] kw) Q E s:=by
 refine call_function_entry_kw kind_sorted plain_sorted entry_sorted ha1 ?_
 unfold Builtin.«sorted»
 refine wpAny_bind (m:=checkCount "sorted" 1 1 _) (wpAny_pure ?_)
 have hn1:Builtin.Range.rangeSize 0 n 1=(n:Int):=by rw [rangeSize_one]; split <;> omega
 refine wpAny_bind (ke (n:=n) hh hr (small_one (by omega) (by omega) (by omega) (by omega)) hn1 (by omega) fun h1 tk1 ys hsz hk hyl hys=>?_)
 refine wpAny_bind (wpAny_newList ?_ (by rw [sizeLine_eq]; omega))
 have hi:IntsAre ys ((List.range n).map fun (i:Nat)=>(i:Int)):=by
  have:=i4 ys 0 hys
  rw [hyl] at this
  have e:((List.range n).map fun (i:Nat)=>(0:Int) + (i:Int))=(List.range n).map fun (i:Nat)=>(i:Int):=List.map_congr_left fun i _=>by omega
  rw [e] at this; exact this
 have hoL:(h1.push (seqObj "list" ys.toArray 0)).get? h1.objs.size=some (seqObj "list" ys.toArray 0):=Heap.get?_push_size _ rfl
 have keep:∀ b o,s.heap.get? b=some o→(h1.push (seqObj "list" ys.toArray 0)).get? b=some o:=fun b o q=>Heap.get?_push_of_some _ (hk b o q)
 have hL:L<h1.objs.size:=Heap.lt_size (hk _ _ F.ns.choose_spec.choose_spec.choose_spec.1)
 show wpAny _ _ _ _ _ { s with heap:=h1.push (seqObj "list" ys.toArray 0),toks:=tk1 }
 refine wpAny_bind (wpAny_holding (wpAny_call_entry_kw slot_list_sort ⟨_,hoL,rfl⟩ entry_list_sort ?body (ha2 _)))
 case body =>
  have ht':=ht h1.objs.size
  show wpAny (model prog w) A.in1.in1 (Builtin.«list.sort» ⟨[.ref h1.objs.size],kw⟩) _ _ _
  rw [ht']
  refine ksk_sort (s:={ s with heap:=h1.push (seqObj "list" ys.toArray 0),toks:=tk1 })
   (F.kept keep) (N.grown keep) hoL (Nat.ne_of_gt hL) (Heap.get?_none_of_le (Nat.le_trans F.above (Nat.le_of_lt hL)))
   (fun p hp=>Nat.ne_of_lt (Heap.lt_size (hk _ _ (N p hp).1))) (hlen.trans hyl.symm) (by omega) (fun i v k hv hkz h tk own Fh Nh=>?_) fun h' tk out c F' N' k'=>⟨_,rfl,?_⟩
  ·obtain ⟨ti,rfl⟩:=hys i v hv
   have e:(0:Int) + (i:Int) * 1=(i:Int):=by omega
   rw [e]
   exact turn i k ti hkz h tk own Fh Nh
  ·exact wpAny_pure ⟨_,rfl,h _ h' tk ys out c F' N' hsz hi k'⟩
end
structure TbS (H H':Hp):Prop where
 old:∀ a o,H a=some o→(∀ ps q,o≠.tbl ps q)→H' a=some o
 tab:∀ a ps q,H a=some (.tbl ps q)→∃ more,H' a=some (.tbl (ps++more) q)
 new:∀ a,H' a=none→H a=none
 frz:∀ a o,H' a=some o→H a=none→∃ ob u,o = .frz ob u
theorem TbS.refl {H:Hp}:TbS H H:=⟨fun _ _ e _=>e,fun _ ps _ e=>⟨#[],by rw [e]; simp⟩,fun _ e=>e,fun a o e n=>by rw [n] at e; cases e⟩
structure TabB (base:Heap) (mg:Str→Option Value) (c P:Addr) (q:Str):Prop where
 tm:TMk base P q
 code:CodeHd base c P
 blt:base.BuiltinsAt mg P
theorem pk {pos:Pos} {a b:Int} {c cv:Value} (l:List Value) (h:TriplesOk l):codeAmong pos (l++[rawInt a,rawInt b,c])=some cv→codeAmong pos l=some cv∨cv=c:=by
 fun_induction TriplesOk l with
 | case1 =>
  intro e
  simp only [List.nil_append,rawInt,codeAmong] at e
  split at e
  ·cases e; exact .inr rfl
  ·cases e
 | case2 a' t b' u x rest ih =>
  intro e
  simp only [List.cons_append,codeAmong] at e ⊢
  split at e
  ·rename_i hc; rw [if_pos hc]; exact .inl e
  ·rename_i hc; rw [if_neg hc]; exact ih h e
 | case3 l h1 h2=>exact h.elim
section
variable {X:Cx} {pins:List (Addr×Obj)} {σ:St} {H:Hp} {s:Shared} {args:Arguments} {body:Expr} {scope:Scope} {pos:Pos} {c P:Addr} {clos:List (Str×Addr)}
abbrev ki (X:Cx) (args:Arguments) (body:Expr) (scope:Scope) (clos:List (Str×Addr)) (cv ctv:Value):Obj:={ cls:=.type "function",data:=.func (kla_fn "<lambda>" (X.env.qual ++ "<lambda>") args body scope clos ((X.mg "__name__").getD .none) cv ctv) }
theorem vN {Q:Value→Shared→Prop} (I:Inv X pins σ H s) (hdf:defaultsOf args X.env=([],[])) (hcl:closureFor scope X.env=pure clos) (hcode:X.env.code = .ref c) (hB:TabB X.base X.mg c P (X.env.qual ++ "<lambda>"))
 (h:∀ f cv ctv H' s',Inv X ((f,ki X args body scope clos cv ctv) :: pins) σ H' s'→TbS H H'→(∃ c' oc vs t,cv = .ref c'∧H' c'=some (.frz oc (.own 0))∧oc.data = .fields vs∧vs[1]? = some (.str (X.env.qual ++ "<lambda>") t))→Q (.ref f) s') :
 wpAny (model X.prog X.w) X.A (eval (.Lambda args body scope pos) X.env) Q X.xe s:=by
 rw [arm_eval_Lambda,hdf]
 show wpAny _ _ (do let dv ← evalAll []; let kdv ← holding dv (evalAllOpt []); makeFunction "<lambda>" (X.env.qual ++ "<lambda>") args (.expr body) scope X.env dv kdv [] pos pos.line) _ _ s
 refine wpAny_bind (m:=evalAll []) (wpAny_pure ?_)
 refine wpAny_bind (wpAny_holding (m:=evalAllOpt []) (wpAny_pure ?_))
 obtain ⟨hM,hC,hB⟩:=hB
 obtain ⟨ps,hps⟩:=(I.ok.tb.un I.base) P _ hM
 obtain ⟨hP,hV⟩:=I.hok P _ hps
 have bP:X.base.get? P=none:=by
  cases e:X.base.get? P with
  | none=>rfl
  | some o =>
   obtain ⟨e1,n1⟩:=nofree e
   rw [show X.base.objs[P]? = _ from hM] at e1; cases e1
   exact absurd rfl n1
 have neP:∀ {b:Addr} {o:Obj},X.base.get? b=some o→b≠P:=fun e z=>by rw [z,bP] at e; cases e
 have hC':CodeHd s.heap c P:=hC.keeps I.bk
 have hg:s.heap.Ns mainGlobals X.mg:=I.ok.mod.glob.keeps I.bk
 have hgP:mainGlobals≠P:=by
  obtain ⟨o,es,ep,e,_⟩:=I.ok.mod.glob
  exact neP e
 have hb:s.heap.BuiltinsAt X.mg P:=by
  obtain ⟨bm,o,b1,b2,b3,b4,b5,b6⟩:=hB
  exact ⟨bm,o,b1,b2,b3,b4,I.bk _ _ b5,b6⟩
 have glob:X.env.globals=mainGlobals:=I.ok.glob
 have pinned:∀ {f:Addr} {o:Obj} {H':Hp} {s':Shared} {s1:Nat},Inv X pins σ H' s'→s'.heap.get? f=some o→H' f=none→s.heap.objs.size≤f→(∀ v,o.data≠.cell v)→Inv X ((f,o) :: pins) σ H' s':=fun {f o H' s' s1} J e n hf nc=>by
  refine J.pins_of fun p hp=>?_
  rcases List.mem_cons.mp hp with rfl | hp
  ·refine ⟨e,n,Nat.ne_of_gt (Nat.lt_of_lt_of_le I.lt hf),fun z=>?_,nc⟩
   obtain ⟨_,o',e',_⟩:=J.ok.funs.mem z
   exact absurd (Nat.lt_of_lt_of_le (Heap.lt_size e') (Nat.le_trans I.sz hf)) (Nat.lt_irrefl _)
  ·exact J.pin p (List.mem_append_right _ hp)
 cases hf:codeAmong pos ps.toList with
 | some cv =>
  refine kla_makeFunctionHit hcl glob hg hcode hC' hP hV.1 hf hb fun ctv h' tk hk hsz=>?_
  have J:Inv X pins σ H { s with heap:=h'.push (ki X args body scope clos cv ctv),toks:=tk }:=I.kept fun b o e=>Heap.get?_push_of_some _ (hk b o e)
  exact h _ cv ctv H _ (pinned (s1:=0) J (Heap.get?_push_size _ rfl) (I.hok.fresh hsz) hsz (fun v z=>by cases z)) TbS.refl (hV.2 pos cv hf)
 | none =>
  refine kla_makeFunction hcl glob hg hcode hC' hP hV.1 hf hgP hb fun c' ctv h' tk hx hge hlt hrec htab=>?_
  obtain ⟨c0,oc,vc,tq,hc0,hoc,hdc,hqc⟩:=hrec
  cases hc0
  have hne:c'≠P:=fun z=>absurd (Nat.lt_of_lt_of_le (Heap.lt_size hP) hge) (by rw [z]; exact Nat.lt_irrefl _)
  obtain ⟨H',hH'⟩:∃ H',H'=upd (upd H P (.tbl (ps++#[rawInt pos.line,rawInt pos.col,.ref c']) (X.env.qual ++ "<lambda>"))) c' (.frz oc (.own 0)):=⟨_,rfl⟩
  have atP:H' P=some (.tbl (ps++#[rawInt pos.line,rawInt pos.col,.ref c']) (X.env.qual ++ "<lambda>")):=by rw [hH',ax (Ne.symm hne),aM]
  have atC:H' c'=some (.frz oc (.own 0)):=by rw [hH',aM]
  have hcn:H c'=none:=I.hok.fresh hge
  have oth:∀ b,b≠P→b≠c'→H' b=H b:=fun b z1 z2=>by rw [hH',ax z2,ax z1]
  have neo:∀ {b u},H b=some u→b≠c':=fun e z=>by rw [z,hcn] at e; cases e
  have old:∀ a o,H a=some o→(∀ ps q,o≠.tbl ps q)→H' a=some o:=fun a o e n=>by
   rw [oth a (fun z=>by rw [z,hps] at e; cases e; exact n _ _ rfl) (neo e)]; exact e
  have hx2:∀ b o,b≠P→s.heap.get? b=some o→(h'.push (ki X args body scope clos (.ref c') ctv)).get? b=some o:=fun b o z e=>Heap.get?_push_of_some _ (hx b o z e)
  have hhsz:s.heap.objs.size≤h'.objs.size:=Nat.le_trans hge (Nat.le_of_lt hlt)
  have un:Un X.fs [] H H' s.heap (h'.push (ki X args body scope clos (.ref c') ctv)):={
   keep:=fun b o e n _ _=>hx2 b o (fun z=>by rw [z,hps] at n; cases n) e
   slot:=fun b o e n _ _=>⟨o.slots,hx2 b o (fun z=>by rw [z,hps] at n; cases n) e⟩
   free:=fun b o e n _=>by rw [oth b (fun z=>by rw [z,hps] at n; cases n) (Nat.ne_of_lt (Nat.lt_of_lt_of_le (Heap.lt_size e) hge))]; exact n
   there:=fun b o e _=>by
    by_cases z:b=P
    ·subst z; exact ⟨_,Heap.get?_push_of_some _ htab⟩
    ·exact ⟨o,hx2 b o z e⟩
   tups:=fun b xs e=>old b _ e fun _ _ z=>by cases z
   frzs:=fun b o u e=>old b _ e fun _ _ z=>by cases z
   tbls:=fun b qs q e=>by
    by_cases z:b=P
    ·subst z; rw [hps] at e; cases e; exact ⟨_,atP⟩
    ·exact ⟨#[],by rw [oth b z (neo e),e]; simp⟩ }
  have hok:HOk X.prog X.w H' (h'.push (ki X args body scope clos (.ref c') ctv)):=fun b u e=>by
   by_cases z:b=P
   ·subst z; rw [atP] at e; cases e
    refine ⟨Heap.get?_push_of_some _ htab,by simpa using TriplesOk_snoc pos.line pos.col (.ref c') ps.toList hV.1,fun pos' cv e=>?_⟩
    rcases pk ps.toList hV.1 (by simpa using e) with e | rfl
    ·obtain ⟨c2,o2,v2,t2,a1,a2,a3⟩:=hV.2 pos' cv e
     exact ⟨c2,o2,v2,t2,a1,old _ _ a2 (fun _ _ z=>by cases z),a3⟩
    ·exact ⟨c',oc,vc,tq,rfl,atC,hdc,hqc⟩
   ·by_cases z2:b=c'
    ·subst z2; rw [atC] at e; cases e
     exact ⟨Heap.get?_push_of_some _ hoc,_,Heap.get?_push_of_some _ hoc⟩
    ·rw [oth b z z2] at e
     refine (I.hok b u e).stay (fun d v hd q=>hx2 d v ?_ q) (fun d q=>old d _ q fun _ _ z=>by cases z) (fun d xs q=>old d _ q fun _ _ z=>by cases z) fun d ob u q=>old d _ q fun _ _ z=>by cases z
     rcases hd with rfl | hd
     ·exact z
     ·exact fun y=>by rw [y,hps] at hd; cases hd
  have J:Inv X pins σ H' { s with heap:=h'.push (ki X args body scope clos (.ref c') ctv),toks:=tk }:=I.un un hok
  refine h _ (.ref c') ctv H' _ (pinned (s1:=0) J (Heap.get?_push_size _ rfl) (by rw [oth _ (Nat.ne_of_gt (Nat.lt_of_lt_of_le (Heap.lt_size hP) hhsz)) (Nat.ne_of_gt hlt)]; exact I.hok.fresh hhsz) hhsz (fun v z=>by cases z)) ⟨old,un.tbls,fun a e=>?_,fun a o e n=>?_⟩ ⟨c',oc,vc,tq,rfl,atC,hdc,hqc⟩
  ·by_cases z:a=P
   ·rw [z,atP] at e; cases e
   ·by_cases z2:a=c'
    ·rw [z2]; exact hcn
    ·rw [oth a z z2] at e; exact e
  ·by_cases z:a=P
   ·rw [z,hps] at n; cases n
   ·by_cases z2:a=c'
    ·rw [z2,atC] at e; cases e; exact ⟨_,_,rfl⟩
    ·rw [oth a z z2,n] at e; cases e
end
section
variable {prog:Program} {w:World} {A:Around} {s:Shared} {X:Cx} {args:Arguments} {scope:Scope} {clos:List (Str×Addr)} {cv ctv:Value} {f cc p:Addr} {x y:Str} {p1 p2 p3 p4:Pos}
theorem oT {its:Array Value} {i:Nat} {ti:Tok} {k:Int} {tk0:Tok} (ho:s.heap.get? f=some (ki X args (.UnaryOp .USub (.Subscript (.Name y p1) (.Name x p2) p3) p4) scope clos cv ctv)) (hcd:s.heap.CodeRec cv (X.env.qual ++ "<lambda>"))
 (hce:s.heap.IsCell cc (some (.ref p))) (hl:s.heap.IsList p its) (hi:its[i]? = some (.int k tk0)) (hlim:s.heap.NoLimit) (hroom:A.depth<recursionLimit) (hi63:i<2 ^ 62)
 (hb:bindArgs (kla_fn "<lambda>" (X.env.qual ++ "<lambda>") args (.UnaryOp .USub (.Subscript (.Name y p1) (.Name x p2) p3) p4) scope clos ((X.mg "__name__").getD .none) cv ctv) ⟨[.int i ti],[]⟩=pure [(x,.int i ti)])
 (hk:scope.kind = .function) (hco:scope.isCoroutine=false) (hgen:scope.isGenerator=false) (hnc:∀ z∈scope.names,z.2≠.cell) (hx:scope.names.lookup x=some .local) (hy:scope.names.lookup y=some .free) (hyc:clos.lookup y=some cc)
 (dx:(x == ("__debug__":Str))=false) (dy:(y == ("__debug__":Str))=false) (ey:(y == ("__classdict__":Str))=false) :
 wpAny (model prog w) A (call (.ref f) [.int i ti]) (fun v s'=>∃ h' tk t',s' = { s with heap:=h',toks:=tk }∧v = .int (-k) t'∧∀ b o,s.heap.get? b=some o→h'.get? b=some o) (fun _ _=>False) s:=by
 refine wpAny_call ?_
 refine kla_callFunE hroom ho rfl hco hgen rfl hcd ?_
 rw [hb]
 refine wpAny_pure (wpAny_newFunctionEnv hnc (fun z hz=>by rw [List.mem_singleton.mp hz]; exact hx) (fun h₁ hns hsb=>⟨hlim.fresh _ hsb,?_⟩) hk)
 have hk₁:∀ b o,s.heap.get? b=some o→h₁.get? b=some o:=fun b o e=>hsb.extBut b o (Nat.ne_of_lt (Heap.lt_size e)) (Heap.get?_push_of_some _ e)
 refine kla_codeExpr ?_
 rw [arm_eval_UnaryOp]
 refine wpAny_bind ?_
 refine Subscript_ (wpAny_Name (wpAny_loadName_free hk hy hyc (hce.keeps hk₁) ?_ ey) dy)
 refine wpAny_Name (wpAny_loadName_local (v:=.int i ti) hk hx hns (by show ([(x,Value.int i ti)]:List (Str×Value)).reverse.lookup x=_; simp) ?_) dx
 refine item_listR (x:=.int k tk0) (let ⟨o,e,r⟩:=hl; ⟨o,hk₁ _ _ e,r⟩) (by omega) (by omega) (by simpa using hi) ?_ (by with_unfolding_all rfl)
 refine wpAny_bind (wpAny_standAt ?_)
 refine wpAny_holding ?_
 exact neg_int ⟨h₁,_,_,rfl,rfl,hk₁⟩
end
theorem j_ {p:Int×Value}:∀ {kz:List Int} {vs:List Value} {ns:List Int},IntsAre vs ns→p∈kz.zip vs→∃ (i:Nat) (z:Int) (t:Tok),kz[i]? = some p.1∧ns[i]? = some z∧p.2 = .int z t
 | [],_,_,_,h=>by cases h
 | _ :: _,_,_,.nil,h=>by cases h
 | k :: kz,_,_,.cons n t r,h=>by
  rw [List.zip_cons_cons] at h
  rcases List.mem_cons.mp h with rfl | h
  ·exact ⟨0,n,t,rfl,rfl,rfl⟩
  ·obtain ⟨i,z,t',a,b,c⟩:=j_ r h
   exact ⟨i + 1,z,t',by simpa using a,by simpa using b,c⟩
def qB:Value→Int
 | .int z _=>z
 | _=>0
theorem j6:∀ {kz:List Int} {vs:List Value} {ns:List Int},IntsAre vs ns→kz.length=ns.length→(kz.zip vs).map (fun p=>qB p.2)=ns
 | [],_,_,.nil,_=>rfl
 | [],_,_,.cons _ _ _,h=>by cases h
 | _ :: _,_,_,.nil,h=>by cases h
 | k :: kz,_,_,.cons n t r,h=>by
  rw [List.zip_cons_cons,List.map_cons,j6 r (by simpa using h)]
  rfl
theorem l9:∀ {vs:List Value},(∀ v∈vs,∃ z t,v=Value.int z t)→IntsAre vs (vs.map qB)
 | [],_=>.nil
 | v :: vs,h=>by
  obtain ⟨z,t,rfl⟩:=h v (.head _)
  exact .cons z t (l9 fun u hu=>h u (.tail _ hu))
structure SortK (n:Nat) (key:Int→Int) (out:List Int):Prop where
 perm:out.Perm ((List.range n).map fun (i:Nat)=>(i:Int))
 ord:out.Pairwise fun a b=>key a≤key b
theorem SortK.of {n:Nat} {key:Int→Int} {vs out:List Value} (hi:IntsAre vs ((List.range n).map fun (i:Nat)=>(i:Int))) (h:KskOut false ((List.range n).map fun (i:Nat)=>key (i:Int)) vs out):∃ os:List Int,IntsAre out os∧SortK n key os:=by
 obtain ⟨ps,hp,rfl,ho⟩:=h
 have hm:∀ q∈ps,∃ (i:Nat) (t:Tok),q.1=key (i:Int)∧q.2 = .int (i:Int) t:=fun q hq=>by
  obtain ⟨i,z,t,a,b,c⟩:=j_ hi (hp.mem_iff.mp hq)
  rw [List.getElem?_map,Option.map_eq_some_iff] at a b
  obtain ⟨i1,e1,a⟩:=a
  obtain ⟨i2,e2,b⟩:=b
  rw [e1] at e2; cases e2
  exact ⟨i1,t,a.symm,by rw [c,← b]⟩
 refine ⟨(ps.map Prod.snd).map qB,l9 fun v hv=>?_,?_,?_⟩
 ·obtain ⟨q,hq,rfl⟩:=List.mem_map.mp hv
  obtain ⟨i,t,_,e⟩:=hm q hq
  exact ⟨_,t,e⟩
 ·rw [List.map_map]
  have e:=j6 (kz:=(List.range n).map fun (i:Nat)=>key (i:Int)) hi (by simp)
  rw [← e]
  exact hp.map _
 ·rw [List.map_map,List.pairwise_map]
  refine List.Pairwise.imp_of_mem (fun {a b} ha hb hab=>?_) ho
  obtain ⟨i,t,e1,e2⟩:=hm a ha
  obtain ⟨j,u,e3,e4⟩:=hm b hb
  show key (qB a.2)≤key (qB b.2)
  rw [e2,e4]
  show key (i:Int)≤key (j:Int)
  rw [← e1,← e3]
  simpa using hab
section
variable {X:Cx} {pins:List (Addr×Obj)} {σ:St} {H:Hp} {s:Shared} {args:Arguments} {scope:Scope} {clos:List (Str×Addr)} {cv ctv:Value} {f cc p r:Addr} {x y:Str} {p1 p2 p3 p4:Pos} {n:Nat} {ns:List Int} {t u v:Tok} {Q:Value→Shared→Prop}
structure LamOk (X:Cx) (args:Arguments) (scope:Scope) (clos:List (Str×Addr)) (x y:Str) (body:Expr) (cc:Addr):Prop where
 bind:∀ (cv ctv:Value) (i:Nat) (ti:Tok),bindArgs (kla_fn "<lambda>" (X.env.qual ++ "<lambda>") args body scope clos ((X.mg "__name__").getD .none) cv ctv) ⟨[.int i ti],[]⟩=pure [(x,.int i ti)]
 kind:scope.kind = .function
 co:scope.isCoroutine=false
 gen:scope.isGenerator=false
 nc:∀ z∈scope.names,z.2≠.cell
 hx:scope.names.lookup x=some .local
 hy:scope.names.lookup y=some .free
 yc:clos.lookup y=some cc
 dx:(x == ("__debug__":Str))=false
 dy:(y == ("__debug__":Str))=false
 ey:(y == ("__classdict__":Str))=false
theorem nJ (I:Inv X pins σ H s) (hh:X.A.handled=none) (hroom:X.A.in1.in1.depth<recursionLimit) (hr:IsRange s.heap r 0 n 1 t u v) (hfn:s.heap.get? f=some (ki X args (.UnaryOp .USub (.Subscript (.Name y p1) (.Name x p2) p3) p4) scope clos cv ctv))
 (hcv:∃ c' oc vs t,cv = .ref c'∧H c'=some (.frz oc (.own 0))∧oc.data = .fields vs∧vs[1]? = some (.str (X.env.qual ++ "<lambda>") t)) (hce:s.heap.IsCell cc (some (.ref p))) (hcL:cc≠X.env.locals) (hl:SqL X.K H p (ns.map V.int)) (hn:n≤ns.length) (h64:n<64)
 (L:LamOk X args scope clos x y (.UnaryOp .USub (.Subscript (.Name y p1) (.Name x p2) p3) p4) cc)
 (h:∀ D out s',Inv X pins σ (upd H D (.lst (out.map V.int))) s'→H D=none→SortK n (fun z=>-(ns.getD z.toNat 0)) out→Q (.ref D) s') :
 wpAny (model X.prog X.w) X.A (call (.builtin "sorted") [.ref r] [(Str.ofString "key",.ref f)]) Q X.xe s:=by
 obtain ⟨m,hns,hloc⟩:=id I.loc
 obtain ⟨oL,esL,epL,hoL,hdL,hrL⟩:=id hns
 have neL:∀ {b:Addr} {o:Obj},s.heap.get? b=some o→(∀ es ep,o.data≠.dict es ep)→b≠X.env.locals:=fun e nd z=>by
  rw [z,hoL] at e; cases e; exact nd _ _ hdL
 have tL:∀ {b:Addr} {u:HO},H b=some u→b≠X.env.locals:=fun e z=>by rw [z,I.free] at e; cases e
 obtain ⟨its,rv,pl,hz⟩:=I.list hl
 have hil:=rv.length
 rw [List.length_map] at hil
 obtain ⟨ol,nl,el,ecl,edl,edd⟩:=id pl
 have pL:p≠X.env.locals:=neL el fun es ep z=>by rw [edd] at z; cases z
 have N0:News (jz s.heap) X.env.locals s.heap (jp s.heap X.env.locals X.env.locals):=fun q hq=>by
  obtain ⟨a,o⟩:=q
  have:=iw.mp hq
  exact ⟨this.2.2,this.1,io _ _⟩
 have inN:∀ {b:Addr} {o:Obj},s.heap.get? b=some o→b≠X.env.locals→(b,o)∈jp s.heap X.env.locals X.env.locals:=fun e z=>iw.mpr ⟨z,z,e⟩
 obtain ⟨c',oc,vc,tq,rfl,hc',hdc,hqc⟩:=hcv
 have hc1:=(I.hok c' _ hc').1
 refine lB (kz:=(List.range n).map fun (i:Nat)=>-(ns.getD (i:Int).toNat 0)) (f:=.ref f) (b:=false) (wX hns) N0 hh hr (by simp) h64 (ksk_s1 _ _) (fun x=>ksk_l1 _ _) (fun x=>ksk_t1 _ _) (fun i k ti hkz g tk own Fg Ng=>?_) fun D h' tk vs out c F' N' hD hi ko=>?_
 ·rw [List.getElem?_map,Option.map_eq_some_iff] at hkz
  obtain ⟨i',e1,rfl⟩:=hkz
  have hin:i<n∧i'=i:=by
   obtain ⟨h1,h2⟩:=List.getElem?_eq_some_iff.mp e1
   rw [List.length_range] at h1
   rw [List.getElem_range] at h2
   exact ⟨h1,h2.symm⟩
  obtain ⟨hin,ei⟩:=hin
  subst i'
  have get:∀ {b:Addr} {o:Obj},s.heap.get? b=some o→b≠X.env.locals→g.get? b=some o:=fun e z=>(Ng _ (List.mem_append_left _ (inN e z))).1
  have hni:ns[i]? = some ns[i]:=List.getElem?_eq_getElem (by omega)
  obtain ⟨w1,ew,rw1⟩:=rv.get (show (ns.map V.int)[i]? = some (.int ns[i]) by rw [List.getElem?_map,hni]; rfl)
  obtain ⟨t1,rfl⟩:=(show ∃ t,w1=Value.int ns[i] t from rw1)
  have egd:ns.getD ((i:Nat):Int).toNat 0=ns[i]:=by rw [Int.toNat_natCast,List.getD_eq_getElem?_getD,hni]; rfl
  rw [egd]
  have blt:∀ b o,X.base.get? b=some o→g.get? b=some o:=fun b o e=>get (I.bk b o e) (fun z=>absurd (Heap.lt_size e) (by rw [z]; exact Nat.not_lt.mpr (Nat.le_trans I.ok.bsz I.ok.above)))
  obtain ⟨oce,ece,ecd⟩:=hce
  refine wpAny_mono (oT (s:={ s with heap:=g,toks:=tk }) (X:=X) (args:=args) (scope:=scope) (clos:=clos) (cv:=.ref c') (ctv:=ctv) (f:=f) (cc:=cc) (p:=p) (x:=x) (y:=y) (p1:=p1) (p2:=p2) (p3:=p3) (p4:=p4) (its:=its.toArray) (i:=i) (ti:=ti) (k:=ns[i]) (tk0:=t1)
   (get hfn (neL hfn fun es ep z=>by cases z)) ⟨c',oc,vc,tq,rfl,get hc1 (tL hc'),hdc,hqc⟩ ⟨oce,get ece hcL,ecd⟩ ⟨ol,get el pL,ecl,nl,edd⟩ (by simpa using ew) (I.ok.mod.nolimit.keeps blt) hroom (by omega) (L.bind _ _ _ _) L.kind L.co L.gen L.nc L.hx L.hy L.yc L.dx L.dy L.ey) (fun v s' q=>?_) fun _ _ z=>z
  obtain ⟨h',tk',t',rfl,rfl,kp⟩:=q
  exact ⟨h',tk',t',rfl,rfl,Fg.kept kp,fun q hq=>⟨kp _ _ (Ng q hq).1,(Ng q hq).2⟩⟩
 ·obtain ⟨os,hos,hsk⟩:=SortK.of (key:=fun z=>-(ns.getD z.toNat 0)) hi ko
  have hDn:H D=none:=I.hok.fresh hD
  refine h D os _ ?_ hDn hsk
  have get:∀ {b:Addr} {o:Obj},s.heap.get? b=some o→b≠X.env.locals→h'.get? b=some o:=fun e z=>(N' _ (List.mem_cons_of_mem _ (inN e z))).1
  have hDo:=(N' _ (.head _)).1
  have neD:∀ {b:Addr} {o:Obj},s.heap.get? b=some o→b≠D:=fun e=>Nat.ne_of_lt (Nat.lt_of_lt_of_le (Heap.lt_size e) hD)
  have up:∀ {b u},H b=some u→upd H D (.lst (os.map V.int)) b=some u:=fun e=>by rw [ax (aH e hDn)]; exact e
  have hlo:os.length=n:=by have:=hsk.perm.length_eq; simpa using this
  refine I.step (g':=s.gens) (d':=s.drawn) (ch:=[]) (fun _ z=>nomatch z) (fun b o hL _ _ e _=>get e hL) (fun b o hL _ _ e _=>⟨o.slots,get e hL⟩) (fun b o _ e q=>by rw [ax (neD e)]; exact q) (fun b o _ e=>?_) (fun b xs e=>up e) (fun b o u e=>up e) (fun b ps q e=>⟨#[],by rw [up e]; simp⟩) (fun m' hm'=>?_) (fun b u e=>?_) I.bare
  ·by_cases z:b=X.env.locals
   ·obtain ⟨o',_,_,e',_⟩:=F'.ns; exact ⟨o',by rw [z]; exact e'⟩
   ·exact ⟨o,get e z⟩
  ·rw [hm'.eq_nsMap,← hns.eq_nsMap]; exact F'.ns
  ·by_cases z:b=D
   ·subst z; rw [aM] at e; cases e
    exact ⟨by rw [List.length_map,hlo]; exact Nat.le_trans (Nat.le_of_lt h64) (by decide),out.toList,c,e7 hos,by rw [Array.toArray_toList]; exact hDo⟩
   ·rw [ax z] at e
    exact (I.hok b u e).stay (fun d w hd q=>get q (hd.elim (fun y=>by rw [y]; exact tL e) fun y=>tL y)) (fun d q=>up q) (fun d xs q=>up q) fun d ob u q=>up q
end
theorem Inv.pinNew {X:Cx} {pins:List (Addr×Obj)} {σ:St} {H:Hp} {s:Shared} {f:Addr} {o:Obj} (J:Inv X pins σ H s) (e:s.heap.get? f=some o) (n:H f=none) (hf:X.s₀.heap.objs.size≤f) (hL:f≠X.env.locals) (nc:∀ v,o.data≠.cell v):Inv X ((f,o) :: pins) σ H s:=by
 refine J.pins_of fun p hp=>?_
 rcases List.mem_cons.mp hp with rfl | hp
 ·refine ⟨e,n,hL,fun z=>?_,nc⟩
  obtain ⟨_,o',e',_⟩:=J.ok.funs.mem z
  exact absurd (Nat.lt_of_lt_of_le (Heap.lt_size e') hf) (Nat.lt_irrefl _)
 ·exact J.pin p (List.mem_append_right _ hp)
def vC (K:PySem.W.Frag) (j:Nat) (te:TE):TE:=fun σ H Q=>te σ H fun v H1=>∃ n:Nat,v = .int n∧n<64∧∃ (p:Addr) (ns:List Int),σ[j]? = some (some (.ref p))∧SqL K H1 p (ns.map V.int)∧n≤ns.length ∧
 ∀ H2 out D,TbS H1 H2→SortK n (fun z=>-(ns.getD z.toNat 0)) out→H2 D=none→Q (.ref D) (upd H2 D (.lst (out.map V.int)))
theorem TbS.sq {K:PySem.W.Frag} {H H':Hp} {p:Addr} {xs:List V} (h:TbS H H') (s:SqL K H p xs):SqL K H' p xs:=by
 rcases s with (s | ⟨o,s⟩) | s
 ·exact .inl (.inl (h.old _ _ s fun _ _ z=>by cases z))
 ·exact .inl (.inr ⟨o,h.old _ _ s fun _ _ z=>by cases z⟩)
 ·exact .inr s
section
variable {X:Cx} {e:Expr} {te:TE} {x y:Str} {j:Nat} {c P:Addr} {args:Arguments} {scope:Scope} {p1 p2 p3 p4 q1 q2 q3 lp kp pos:Pos}
theorem ky {cc:Addr} (hnm:scope.names=[(x,.local),(y,.free)]) (h:X.env.cells.lookup y=some cc):closureFor scope X.env=pure [(y,cc)]:=by
 unfold closureFor
 rw [hnm]
 simp [cellOf,h]
theorem qy (hg1:Gl X "sorted") (hm1:X.mg "sorted" = none) (hg2:Gl X "range") (hm2:X.mg "range" = none) (he:PE X e te) (hj:X.N[j]? = some y) (hyk:X.env.kindOf y=some .cell) (hcode:X.env.code = .ref c)
 (hB:TabB X.base X.mg c P (X.env.qual ++ "<lambda>")) (hcalm:X.calm=true) (hroom:X.A.in1.in1.depth<recursionLimit) (hnm:scope.names=[(x,.local),(y,.free)]) (hkd:scope.kind = .function) (hco:scope.isCoroutine=false) (hge:scope.isGenerator=false)
 (hbind:∀ (cc:Addr) (cv ctv:Value) (i:Nat) (ti:Tok),bindArgs (kla_fn "<lambda>" (X.env.qual ++ "<lambda>") args (.UnaryOp .USub (.Subscript (.Name y p1) (.Name x p2) p3) p4) scope [(y,cc)] ((X.mg "__name__").getD .none) cv ctv) ⟨[.int i ti],[]⟩=pure [(x,.int i ti)])
 (hdf:defaultsOf args X.env=([],[])) (hxy:(y == x)=false) (dx:(x == ("__debug__":Str))=false) (dy:(y == ("__debug__":Str))=false) (ey:(y == ("__classdict__":Str))=false) (hs:starEach [e] X.env=[(false,eval e X.env)]:=by rfl) :
 PE X (.Call (.Name "sorted" q1) [.Call (.Name "range" q2) [e] [] q3] [⟨some "key",.Lambda args (.UnaryOp .USub (.Subscript (.Name y p1) (.Name x p2) p3) p4) scope lp,kp⟩] pos) (vC X.K j te):=by
 refine ⟨fun pins s σ H Q I h=>?_⟩
 refine wpAny_Call_Name_kw (eB I hg1 hm1 ff ?_)
 refine callWith_kw (rest:=[]) ?_
 show wpAny _ _ (spliced ((false,eval (.Call (.Name "range" q2) [e] [] q3) X.env) :: [])) _ _ s
 refine Calls.spliced_cons ?_
 refine Call_ (eB I hg2 hm2 boot_range (PyProof.Rows.callWith_type1 (rest:=[]) ?_ hs rfl))
 rw [hs]
 refine Calls.spliced_cons (thn (he pins s σ H _ I h) fun u1 s1 ⟨v1,H1,I1,r1,n,e1,h64,p,ns,ep,hq,hnl,hQ⟩=>Calls.spliced_nil ?_)
 subst e1
 obtain ⟨tn,rfl⟩:=r1
 refine call_range_1 ?_
 refine Calls.spliced_nil ?_
 show wpAny _ _ (evalAll [(do let v ← eval (.Lambda args (.UnaryOp .USub (.Subscript (.Name y p1) (.Name x p2) p3) p4) scope lp) X.env; standAt pos; pure v)]) (fun kvs s₂=>wpAny (model X.prog X.w) X.A (call (.builtin "sorted") [.ref s1.heap.objs.size] ([Str.ofString "key"].zip kvs)) (EP X pins σ Q) X.xe s₂) _ _
 have I2:Inv X pins σ H1 { s1 with heap:=s1.heap.push { cls:=.type "range",data:=.fields #[.int 0 s1.toks,.int n tn,.int 1 (s1.toks + 1)] },toks:=s1.toks + 1 + 1 }:=I1.kept fun b o e=>Heap.get?_push_of_some _ e
 have J:=I2.pinNew (Heap.get?_push_size s1.heap (o:={ cls:=.type "range",data:=.fields #[.int 0 s1.toks,.int n tn,.int 1 (s1.toks + 1)] }) rfl) (I1.hok.fresh (Nat.le_refl _)) I1.sz (Nat.ne_of_gt I1.lt) (fun v z=>by cases z)
 obtain ⟨cc,hcc⟩:=I.ok.has y (.inl hyk)
 unfold evalAll
 refine wpAny_bind (wpAny_bind ?_)
 refine vN J hdf (ky hnm hcc) hcode hB fun f cv ctv H' s' J2 tb hcv=>?_
 refine wpAny_bind (wpAny_standAt (wpAny_pure ?_))
 refine wpAny_bind (wpAny_holding ?_)
 unfold evalAll
 refine wpAny_pure (wpAny_pure ?_)
 obtain ⟨m,hns,hloc⟩:=id J2.loc
 obtain ⟨u,ru,lk⟩:=hloc j y (.ref p) hj ep (.inr (.inl hyk))
 obtain rfl:u = .ref p:=ru
 have hce:s'.heap.IsCell cc (some (.ref p)):=by
  rcases lk with ⟨z,_⟩ | ⟨_,c2,e2,z⟩
  ·rw [hyk] at z; cases z
  ·rw [hcc] at e2; cases e2; exact z
 refine nJ J2 (J2.ok.hd hcalm) hroom (J2.pin _ (List.mem_append_right _ (.tail _ (.head _)))).1 (J2.pin _ (List.mem_append_right _ (.head _))).1 hcv hce (J2.cne y cc hcc) (tb.sq hq) hnl h64 ⟨hbind cc,hkd,hco,hge,fun z hz=>?nc,by rw [hnm]; exact List.lookup_cons_self,by rw [hnm,List.lookup_cons,hxy]; exact List.lookup_cons_self,List.lookup_cons_self,dx,dy,ey⟩ fun D out s'' J3 hD sk=>?_
 case nc =>
  rw [hnm] at hz
  rcases List.mem_cons.mp hz with rfl | hz
  ·exact fun z=>by cases z
  ·rw [List.mem_singleton.mp hz]; exact fun z=>by cases z
 exact ⟨.ref D,_,J3.pins_of fun q hq=>J3.pin q (List.mem_append_right _ (.tail _ (.tail _ hq))),rfl,hQ H' out D tb sk hD⟩
end
end L2
namespace L2
open PySem PySem.Spec PyProof.Rows PySem.W
section
variable {C:Ctx} {ow:List Bool} {G:Hp} {ρ:DSt} {σ:St} {H H2:Hp} {pd:List (D×V)} {O:Own}
theorem RO.tbs (h:RO C ow G ρ σ H pd O) (t:TbS H H2):RO C ow G ρ σ H2 pd O:=by
 have gnt:∀ a o,G a=some o→NT o:=fun a o e ps q z=>by
  have:=h.ft a ps q (by rw [h.gh a o e,z])
  rw [e] at this; cases this
 have gh:aU G H2:=fun a o e=>t.old a o (h.gh a o e) (gnt a o e)
 have og:∀ a l,O a=some l→H2 a=H a:=fun a l e=>by
  obtain ⟨_,⟨xs,q⟩,_⟩:=h.og a l e
  rw [t.old a _ q (WrO.nt xs),q]
 refine ⟨h.len,gh,h.g0,h.gn,fun a l e=>?_,h.cok,fun a o e n nt=>t.old a o (h.fr a o e n nt) nt,fun a ps q e=>?_,fun a e=>h.al a (t.new a e),h.mp,fun i d e=>?_,?_,h.np⟩
 ·obtain ⟨q1,q2,q3⟩:=h.og a l e
  rw [og a l e]; exact ⟨q1,q2,q3⟩
 ·cases z:G a with
  | none=>rfl
  | some o =>
   rw [gh a o z] at e; cases e
   exact absurd rfl (gnt a _ z ps q)
 ·obtain ⟨v,h1,h2⟩:=h.sl i d e
  refine ⟨v,h1,?_⟩
  split at h2
  ·rename_i c; rw [if_pos c]; exact h2.keep (fun _ _ z=>z) fun a τ q=>⟨q,og a _ q⟩
  ·rename_i c; rw [if_neg c]; exact h2
 ·exact cu.keep (fun _ _ z=>z) (fun a j π _ q=>⟨q,og a _ q⟩) h.pn
end
def vW (j:Nat) (me:ME):ME:=fun ρ q=>me ρ fun d ρ1=>match d with
 | .int n=>0≤n∧n<64∧∃ ns:List Int,ρ1[j]? = some (some (.lst (ns.map D.int)))∧n≤(ns.length:Int)∧∀ out,SortK n.toNat (fun z=>-(ns.getD z.toNat 0)) out→q (.lst (out.map D.int)) ρ1
 | _=>False
section
variable {X:Cx} {ow:List Bool} {e:Expr} {me:ME} {x y:Str} {j:Nat} {c P:Addr} {args:Arguments} {scope:Scope} {p1 p2 p3 p4 q1 q2 q3 lp kp pos:Pos} {k:Nat}
theorem oH (hr:Room (k + 2) X.A) (hg1:Gl X "sorted") (hm1:X.mg "sorted" = none) (hg2:Gl X "range") (hm2:X.mg "range" = none) (he:QE X ow e me) (hj:X.N[j]? = some y) (hyk:X.env.kindOf y=some .cell) (hcode:X.env.code = .ref c)
 (hB:TabB X.base X.mg c P (X.env.qual ++ "<lambda>")) (hcalm:X.calm=true:=by rfl) (hnm:scope.names=[(x,.local),(y,.free)]:=by rfl) (hkd:scope.kind = .function:=by rfl) (hco:scope.isCoroutine=false:=by rfl) (hge:scope.isGenerator=false:=by rfl)
 (hbind:∀ (cc:Addr) (cv ctv:Value) (i:Nat) (ti:Tok),bindArgs (kla_fn "<lambda>" (X.env.qual ++ "<lambda>") args (.UnaryOp .USub (.Subscript (.Name y p1) (.Name x p2) p3) p4) scope [(y,cc)] ((X.mg "__name__").getD .none) cv ctv) ⟨[.int i ti],[]⟩=pure [(x,.int i ti)]:=by intros; rfl)
 (hdf:defaultsOf args X.env=([],[]):=by rfl) (hxy:(y == x)=false:=by decide) (dx:(x == ("__debug__":Str))=false:=by decide) (dy:(y == ("__debug__":Str))=false:=by decide) (ey:(y == ("__classdict__":Str))=false:=by decide) (hs:starEach [e] X.env=[(false,eval e X.env)]:=by rfl) (ho:ow[j]?≠some true:=by decide) :
 QE X ow (.Call (.Name "sorted" q1) [.Call (.Name "range" q2) [e] [] q3] [⟨some "key",.Lambda args (.UnaryOp .USub (.Subscript (.Name y p1) (.Name x p2) p3) p4) scope lp,kp⟩] pos) (vW j me):=by
 obtain ⟨t,p,s⟩:=he
 refine ⟨_,qy hg1 hm1 hg2 hm2 p hj hyk hcode hB hcalm ?_ hnm hkd hco hge hbind hdf hxy dx dy ey hs,fun C G ρ σ H pd q Q r hm kk=>?_⟩
 ·exact hr.in1.in1.depth
 refine s C G ρ σ H pd _ _ r hm fun d ρ1 v G1 H1 h1 z1 k1 r1 p1=>?_
 cases d with
 | int n =>
  obtain ⟨n0,n64,ns,e1,hn,hq⟩:=h1
  obtain ⟨O1,ro1⟩:=r1
  obtain ⟨w1,e2,e3⟩:=ro1.sl j _ e1
  rw [if_neg ho] at e3
  obtain ⟨pa,xs,rfl,g1,g2⟩:=bq e3
  rw [cZ g2] at g1
  refine ⟨n.toNat,by rw [aD p1]; congr 1; omega,by omega,pa,ns,e2,.inl (.inl (ro1.gh _ _ g1)),by omega,fun H2 out D tb sk hD=>?_⟩
  have ro2:=ro1.tbs tb
  obtain ⟨ro3,z3⟩:=ro2.new hD (.lst (out.map V.int))
  refine kk _ ρ1 _ _ _ (hq out sk) (z1.trans z3) k1 ⟨O1,ro3⟩ ?_
  exact fL aM (ga _)
 | _=>exact h1.elim
end
theorem Fun.okc {P:Program} {w:World} {K:PySem.W.Frag} {mg:Str→Option Value} {base:Heap} {x qual:Str} {st:Stmt} {f c:Addr} {fd:FuncData} {N ps:List Str} {k:Nat} {sp:Sp} (F:Fun K x qual st f fd) (hc:fd.code = .ref c) (S:FnScope N ps (ak st)) (len:∀ vs H Q E,sp vs H Q E→vs.length=ps.length)
 (hbody:∀ (A:Around) (outer:List Env) (s:Shared) (H:Hp) (vs:List V) (Q:VK) (E:XK),Room k (A.deeper (envOfC qual (ak st) s.heap.objs.size f (.ref c)))→sp vs H Q E →
  ∃ t,PSs (jr CX0 P w K mg base N qual (ak st) f (.ref c) A outer s H E).nox (cC st) t∧t { nx:=fun _ H'=>Q .non H',rt:=Q } (dZ N vs) H):FnOk P w K mg base CX0 (k + 1) f fd ps sp:=by
 obtain ⟨oc,od,kV,doc,pm,an,cdv,ct,osl,rfl,lk,hcd⟩:=F.ex
 have e:cdv = .ref c:=hc
 subst e
 refine t5 lk hcd S len fun A outer s H vs Q E hr hsp=>?_
 obtain ⟨t,h,q⟩:=hbody A outer s H vs Q E hr hsp
 exact ⟨t,h.nox,q⟩
theorem fnDc {P:Program} {w:World} {K:PySem.W.Frag} {mg:Str→Option Value} {base:Heap} {x qual:Str} {st:Stmt} {f:Addr} {fd:FuncData} {N ps:List Str} {k:Nat} {c:Addr} (F:Fun K x qual st f fd) (hc:fd.code = .ref c) (S:FnScope N ps (ak st)) (M:Md) (sd:SpD)
 (hl:∀ ds q,sd ds q→ds.length=ps.length) (ho:M.ow.take ps.length=M.mu) (hml:M.mu.length=ps.length)
 (hbody:∀ (A:Around) (outer:List Env) (s:Shared) (H:Hp) (E:XK),Room k (A.deeper (envOfC qual (ak st) s.heap.objs.size f (.ref c))) →
  ∃ m,QSs (jr CX0 P w K mg base N qual (ak st) f (.ref c) A outer s H E).nox M (cC st) m∧∀ ds q,sd ds q→m (jl M.mu q) (ds.map some++List.replicate (N.length - ps.length) none)) :
 FnOk P w K mg base CX0 (k + 1) f fd ps (aW M.mu M.fr sd):=by
 have hov:∀ i:Nat,i<M.mu.length→M.ow[i]? = M.mu[i]?:=fun i hi=>by rw [← ho,List.getElem?_take_of_lt (by omega)]
 have hlen:∀ vs H Q E,aW M.mu M.fr sd vs H Q E→vs.length=ps.length:=fun vs H Q E ⟨C,G,ds,q,_,_,⟨O,ro⟩,h1,_,_⟩=>by
  have:=ro.len; simp at this; rw [← this]; exact hl ds q h1
 refine F.okc hc S hlen fun A outer s H vs Q E hr hsp=>?_
 obtain ⟨m,⟨t,p,ss⟩,hm⟩:=hbody A outer s H E hr
 have hvl:=hlen vs H Q E hsp
 obtain ⟨C,G,ds,q,hnp,hmu,⟨O,ro⟩,hsd,hml2,kk⟩:=hsp
 refine ⟨t,p,?_⟩
 have hmo:gT C M.mu:=fun i v e=>by rw [hmu] at e; exact (jD e).1
 have r0:R C M.ow G (ds.map some++List.replicate (N.length - ps.length) none) (dZ N vs) H []:=by
  unfold dZ; rw [hvl]
  exact ⟨O,ro.grow _ fun i hi=>hov i (by omega)⟩
 refine ss C G _ _ H (jl M.mu q) _ hmo hnp r0 (hm ds q hsd) ⟨?_,fun _ _ _ _ h=>h.elim,fun _ _ _ _ h=>h.elim,?_⟩
 ·intro ρ σ G' H' h z ⟨O',r'⟩
  refine kk .non (cG M.mu.length ρ) (cG M.mu.length σ) .non G' H' (by rw [cQ]; exact h) z (cO _ _) (R.non ⟨O',r'.trim hmo hov⟩)
 ·intro d ρ σ v G' H' h z hr'
  refine kk d (cG M.mu.length ρ) (cG M.mu.length σ) v G' H' (by rw [cQ]; exact h) z (cO _ _) ?_
  unfold Ret at hr' ⊢
  split at hr'
  ·rename_i c; rw [if_pos c]; obtain ⟨O',r'⟩:=hr'; exact ⟨O',r'.trim hmo hov⟩
  ·rename_i c; rw [if_neg c]; obtain ⟨⟨O',r'⟩,p⟩:=hr'; exact ⟨⟨O',r'.trim hmo hov⟩,p⟩
def md (H:Hp):Prop:=∀ b,H b=none∨(∃ o xs,H b=some (.frz o (.lst xs)))∨∃ ps q,H b=some (.tbl ps q)
def kx (H:Hp):Hp:=fun a=>match H a with
 | some (.tbl _ _)=>none
 | o=>o
theorem sY {H:Hp} {a:Addr} {o:HO} (h:H a=some o) (n:NT o):kx H a=some o:=by
 unfold kx; rw [h]
 cases o <;> first | rfl | exact absurd rfl (n _ _)
theorem r_ {H:Hp} {a:Addr} {o:HO} (h:kx H a=some o):H a=some o:=by
 unfold kx at h
 split at h
 ·cases h
 ·exact h
def jK (K:PySem.W.Frag):Sp:=fun vs H Q _=>∃ (a:Addr) (ns:List Int),vs=[.ref a]∧md H∧SqL K H a (ns.map V.int)∧ns.length≤63∧∀ H',Q (.bl true) H'
theorem mS {K:PySem.W.Frag} {vs:List V} {H:Hp} {Q:VK} {E:XK} (h:jK K vs H Q E):aW [false] false (oN K) vs H Q E:=by
 obtain ⟨a,ns,rfl,hO,hS,hl,hq⟩:=h
 have main:∀ φ:Addr→Prop,lT K φ ns→Rep (kx H) (.scr φ ns) (.ref a)→aW [false] false (oN K) [.ref a] H Q E:=fun φ hφ r=>by
  refine ⟨⟨kx H,H,fun _=>none,[none],0⟩,kx H,[.scr φ ns],fun d _=>d = .bl true,rfl,rfl,⟨fun _=>none,rfl,fun _ _ e=>r_ e,aU.refl _,fun _ _ e=>.inl e,fun a l e=>by (first | cases e),fun a l π e=>by (first | cases e),fun _ _ e _ _=>e,(fun a ps q e=>by unfold kx; rw [e]),fun _ e=>e,fun i v e=>?_,?_,trivial,Nat.le_refl _⟩,⟨φ,ns,rfl,hφ,hl,rfl⟩,rfl,?_⟩
  ·cases i with
   | zero=>simp at e
   | succ i=>simp at e
  ·intro i d e
   cases i with
   | zero=>simp at e; subst e; exact ⟨_,rfl,by simpa using r⟩
   | succ i=>simp at e
  ·intro d ρ' σ' v G' H' hd _ _ hr
   subst hd
   unfold Ret at hr
   rw [if_neg (by decide)] at hr
   rw [cK hr.2]
   exact hq H'
 rcases hS with (h1 | ⟨o,h1⟩) | h1
 ·rcases hO a with z | ⟨o,xs,z⟩ | ⟨ps,q,z⟩ <;> (rw [h1] at z; cases z)
 ·exact main (fun _=>False) (fun _ _ z=>z.elim) (by rw [Rep]; exact ⟨a,rfl,.inl ⟨o,sY h1 fun _ _ z=>by cases z⟩⟩)
 ·exact main (fun b=>b=a) (fun b H' z=>by subst z; exact .inr h1) (by rw [Rep]; exact ⟨a,rfl,.inr rfl⟩)
theorem mM {P:Program} {w:World} {K:PySem.W.Frag} {mg mb:Str→Option Value} {CX:CXT} {k:Nat} {fa a c Pt:Addr} {tq:Str} {fd:FuncData} {x:Str} {sp:Sp} {s₁:Shared} {vs:List Value} {ns:List Int}
 (KX:K.In s₁.heap) (hns:s₁.heap.Ns mainGlobals mg) (hb:s₁.heap.Ns builtinsNs mb) (hbb:∀ x:Str,x ≠ "__name__" → mb x=bootBuiltins x) (hlim:s₁.heap.NoLimit) (hg:s₁.gens = #[])
 (ha:s₁.heap.get? a=some { cls:=.type "list",data:=.seq vs.toArray }) (hi:IntsAre vs ns) (hl:ns.length≤sizeLine) (hr:Room k callerA)
 (hT:CodeHd s₁.heap c Pt) (hPt:s₁.heap.get? Pt=some (tabObj #[])) (hblt:s₁.heap.BuiltinsAt mg Pt) (hKP:K.lookup Pt=none)
 (F:∀ base:Heap,K.In base→base.Ns mainGlobals mg→TabB base mg c Pt tq→FnOk P w K mg base CX k fa fd [x] sp) (hbind:∀ (s:Shared) (u:Value),BindsTo s fd ⟨[u],[]⟩ [(x,u)])
 (hsp:∀ H:Hp,md H→SqL K H a (ns.map V.int)→sp [.ref a] H (fun v _=>v = .bl true) fun _ _ _=>False)
 (hCX:∀ H e s',CX [] H s₁ (fun _ _ _=>False) e s'→False) :
 codeAny (model P w) callerA (.call (.ref fa) ⟨[.ref a],[]⟩) (fun r s'=>r = .ok (.ret (.bool true))∧OldK s₁.heap s'.heap∧s'.os=s₁.os∧AllBare s'.gens) s₁:=by
 have rv:=e7 hi
 have lenV:=hi.length
 have hne:Pt≠a:=fun z=>by rw [z,ha] at hPt; cases hPt
 have core:∀ H:Hp,md H→SqL K H a (ns.map V.int)→HOk P w H s₁.heap→H Pt=some (.tbl #[] tq)→(∀ b,H b≠none→b=a∨b=Pt)→(H a≠none→K.lookup a=none) →
  codeAny (model P w) callerA (.call (.ref fa) ⟨[.ref a],[]⟩) (fun r s'=>r = .ok (.ret (.bool true))∧OldK s₁.heap s'.heap∧s'.os=s₁.os∧AllBare s'.gens) s₁:=by
  intro H hO hS hok hP hA hK
  have base_of:∀ {b:Addr} {o:Obj},s₁.heap.get? b=some o→H b=none→(dP s₁.heap H).get? b=some o:=fun e n=>pU e n
  have noA:∀ {b:Addr} {o:Obj},s₁.heap.get? b=some o→(∀ xs n,o.data≠.seq xs n)→o.cls≠.none∨(∀ xs,o.data≠.fields xs)→H b=none:=fun {b o} e d1 d2=>by
   cases q:H b with
   | none=>rfl
   | some u =>
    rcases hA b (by rw [q]; simp) with z | z
    ·rw [z,ha] at e; cases e; exact absurd rfl (d1 _ _)
    ·rw [z,hPt] at e; cases e
     rcases d2 with d2 | d2
     ·exact absurd rfl d2
     ·exact absurd rfl (d2 _)
  have nsK:∀ {b:Addr} {m:Str→Option Value},s₁.heap.Ns b m→(dP s₁.heap H).Ns b m:=fun {b m} ⟨o,es,ep,e,d,r⟩=>⟨o,es,ep,base_of e (noA e (fun _ _ z=>by rw [d] at z; cases z) (.inr fun _ z=>by rw [d] at z; cases z)),d,r⟩
  have hKb:K.In (dP s₁.heap H):=fun b o e=>base_of (KX b o e) (by
   cases q:H b with
   | none=>rfl
   | some u =>
    rcases hA b (by rw [q]; simp) with z | z
    ·subst z; rw [hK (by rw [q]; simp)] at e; cases e
    ·rw [z,hKP] at e; cases e)
  have hM:Mod K mg (dP s₁.heap H):=⟨hKb,nsK hns,⟨mb,nsK hb,hbb⟩,let ⟨mc,h1,h2⟩:=hlim; ⟨mc,nsK h1,h2⟩⟩
  have e0:Env0 P w K mg (dP s₁.heap H) callerA [] s₁ H:=⟨rfl,hM,fun b o e=>rB e,Nat.le_of_eq (fg _ _),trivial,fun b hb=>absurd (show b∈([]:List Addr) from hb) (by simp),hok,.of_eq hg,TbM.hid⟩
  have tab:TabB (dP s₁.heap H) mg c Pt tq:=by
   refine ⟨TMk.hid (Heap.lt_size hPt) hP,?_,?_⟩
   ·obtain ⟨o,vs,file,tf,flags,tg,inF,text,tt,e,ec,ed,r⟩:=hT
    exact ⟨o,vs,file,tf,flags,tg,inF,text,tt,base_of e (noA e (fun _ _ z=>by rw [ed] at z; cases z) (.inl (by rw [ec]; intro z; cases z))),ec,ed,r⟩
   ·obtain ⟨bm,o,b1,b2,b3,b4,b5,b6,b7,b8⟩:=hblt
    exact ⟨bm,o,b1,b2,b3,b4,base_of b5 (noA b5 (fun _ _ z=>by rw [b8] at z; cases z) (.inl (by rw [b6]; intro z; cases z))),b6,b7,b8⟩
  refine codeAny_mono ((F _ hKb (nsK hns) tab).run callerA [] s₁ H ⟨[.ref a],[]⟩ [.ref a] [.ref a] _ _ hr e0 (hbind s₁ (.ref a)) (.cons rfl .nil) (hsp H hO hS)) fun r s' h=>?_
  cases r with
  | error e=>exact (hCX H e s' h).elim
  | ok fl =>
   cases fl with
   | next=>exact False.elim h
   | brk=>exact False.elim h
   | cont=>exact False.elim h
   | ret u =>
    obtain ⟨v,H',os,bare,un,hok',r',q⟩:=h
    have q':v = .bl true:=q
    subst q'
    obtain rfl:u=Value.bool true:=r'
    refine ⟨rfl,⟨fun b o e=>?_,fun b o e=>un.there b o e (by simp)⟩,os,bare⟩
    cases q:H b with
    | none=>exact .inl (un.keep b o e q (by intro z; exact absurd (show b∈([]:List Addr) from z) (by simp)) (by simp))
    | some u =>
     by_cases zP:b=Pt
     ·subst zP
      obtain ⟨more,z2⟩:=un.tbls b _ _ hP
      obtain ⟨e2,_⟩:=hok' b _ z2
      rw [hPt] at e; cases e
      exact .inr (.inl ⟨(hT.tab hPt).isCodeTable,rfl,#[],more,rfl,e2⟩)
     ·rcases hO b with z | ⟨ob,xs,z⟩ | ⟨ps,q2,z⟩
      ·rw [q] at z; cases z
      ·have z2:=un.frzs b ob _ z
       obtain ⟨e1,_⟩:=hok b _ z
       obtain ⟨e2,_⟩:=hok' b _ z2
       rw [e] at e1; cases e1
       exact .inl e2
      ·rcases hA b (by rw [q]; simp) with y | y
       ·subst y
        obtain ⟨e1,_⟩:=hok b _ z
        rw [ha] at e1; cases e1
       ·exact absurd y zP
 have tok:∀ {H:Hp},TbV H #[] tq:=⟨trivial,fun pos cv e=>by cases e⟩
 cases hk:K.lookup a with
 | some o =>
  have e:=KX a o hk
  rw [ha] at e
  cases e
  refine core (fun b=>if b=Pt then some (.tbl #[] tq) else none) (fun b=>?_) (.inr ⟨_,vs.toArray,_,hk,rfl,rfl,rfl,by rw [List.size_toArray,lenV]; exact hl,by simpa using rv⟩) (fun b u z=>?_) (if_pos rfl) (fun b z=>?_) fun z=>absurd (if_neg (Ne.symm hne)) z
  ·by_cases hb:b=Pt
   ·exact .inr (.inr ⟨_,_,if_pos hb⟩)
   ·exact .inl (if_neg hb)
  ·by_cases hb:b=Pt
   ·have z':=(if_pos hb).symm.trans z
    cases z'
    subst hb
    exact ⟨hPt,tok⟩
   ·have z':=(if_neg hb).symm.trans z
    cases z'
  ·by_cases hb:b=Pt
   ·exact .inr hb
   ·exact absurd (if_neg hb) z
 | none =>
  obtain ⟨H,hH⟩:∃ H:Hp,H=fun b=>if b=Pt then some (.tbl #[] tq) else if b=a then some (.frz { cls:=.type "list",data:=.seq vs.toArray } (.lst (ns.map V.int))) else none:=⟨_,rfl⟩
  have h1:H Pt=some (.tbl #[] tq):=by rw [hH]; exact if_pos rfl
  have h2:H a=some (.frz { cls:=.type "list",data:=.seq vs.toArray } (.lst (ns.map V.int))):=by rw [hH]; show (if a=Pt then _ else _)=_; rw [if_neg (Ne.symm hne),if_pos rfl]
  have h3:∀ b,b≠Pt→b≠a→H b=none:=fun b z1 z2=>by rw [hH]; show (if b=Pt then _ else _)=_; rw [if_neg z1,if_neg z2]
  refine core H (fun b=>?_) (.inl (.inr ⟨{ cls:=.type "list",data:=.seq vs.toArray },h2⟩)) (fun b u z=>?_) h1 (fun b z=>?_) fun _=>hk
  ·by_cases hb:b=Pt
   ·rw [hb]; exact .inr (.inr ⟨_,_,h1⟩)
   ·by_cases hb2:b=a
    ·rw [hb2]; exact .inr (.inl ⟨_,_,h2⟩)
    ·exact .inl (h3 b hb hb2)
  ·by_cases hb:b=Pt
   ·subst hb; rw [h1] at z; cases z; exact ⟨hPt,tok⟩
   ·by_cases hb2:b=a
    ·subst hb2; rw [h2] at z; cases z
     exact ⟨ha,by rw [List.length_map]; exact hl,vs,_,rv,ha⟩
    ·rw [h3 b hb hb2] at z; cases z
  ·by_cases hb:b=Pt
   ·exact .inr hb
   ·by_cases hb2:b=a
    ·exact .inl hb2
    ·exact absurd (h3 b hb hb2) z
theorem rp {l:PySem.W.OpenLaw} {n k:Nat} {q:Program} {loose:List Str} {XP:(Str→Option Value)→Heap→Prop} {YP:World→Heap→Prop} {d:DefRec} {K:Params→PySem.W.Frag} {sp:World→Sp} {x:Str} {c Pt:Addr} {tq:Str}
 (hn:l.most=some n) (hn2:n≤sizeLine) (hdf:d.params.defaults=[]) (hr:Room k callerA)
 (hY:∀ (w:World) (h:Heap),YP w h→(K w.params).In h∧h.get? Pt=some (tabObj #[]))
 (hcd0:∀ w:World,codeHdIn (K w.params) c Pt=true) (hKP:∀ w:World,(K w.params).lookup Pt=none)
 (F:∀ (w:World) (mg:Str→Option Value) (fa:Addr) (h:Heap),(K w.params).In h→h.Ns mainGlobals mg→mg d.name=some (.ref fa) →
  ∃ fd:FuncData,(∀ (s:Shared) (u:Value),BindsTo s fd ⟨[u],[]⟩ [(x,u)]) ∧
   ∀ base:Heap,(K w.params).In base→base.Ns mainGlobals mg→TabB base mg c Pt tq→FnOk l.prog w (K w.params) mg base CX0 k fa fd [x] (sp w))
 (hsp:∀ (w:World) (H:Hp) (a:Addr) (ns:List Int),ns.length≤n→md H→SqL (K w.params) H a (ns.map V.int)→sp w [.ref a] H (fun v _=>v = .bl true) fun _ _ _=>False)
 (hCX:∀ (H:Hp) (s:Shared) (e:Value) (s':Shared),CX0 [] H s (fun _ _ _=>False) e s'→False) :
 PySem.W.WalkO q loose XP YP l.row.toRowW d [] (fun f vs=>PySem.call f vs):=by
 refine Att.attach_call hn hdf fun w s₀ s₁ mg mb fa o pm cd doc a vs ns G Y ho hd hcd hmg hobj hints hlen hg=>?_
 obtain ⟨KX,t2⟩:=hY w _ Y
 obtain ⟨fd,hb,hF⟩:=F w mg fa _ KX G.T.g hmg
 have t1:=codeHd_of_K KX (hcd0 w)
 have hblt:s₁.heap.BuiltinsAt mg Pt:=by
  obtain ⟨bm,ob,b1,b2,b3,b4,b5,b6⟩:=G.T.bmain
  refine ⟨bm,ob,b1,b2,fun z=>?_,fun z=>?_,b3,b4,b5,b6⟩
  ·obtain ⟨o,es,ep,e,hd,_⟩:=G.T.g
   rw [z,e] at b3; cases b3; rw [hd] at b6; cases b6
  ·rw [z,t2] at b3; cases b3; cases b4
 exact mM KX G.T.g G.T.b G.T.builtins G.T.nolimit hg hobj hints (Nat.le_trans hlen hn2) hr t1 t2 hblt (hKP w) hF hb (fun H hO hS=>hsp w H a ns hlen hO hS) fun H e s'=>hCX H s₁ e s'
end L2
namespace L2
open PySem
def DvM (r:Rat) (M:Nat):Prop:=∃ k:Int,r * ((M:Int):Rat)=(k:Rat)
theorem DvM.add {r s:Rat} {M:Nat}:DvM r M→DvM s M→DvM (r + s) M
 | ⟨k,h⟩,⟨l,g⟩=>⟨k + l,by rw [Rat.add_mul,h,g,Rat.intCast_add]⟩
theorem DvM.sub {r s:Rat} {M:Nat}:DvM r M→DvM s M→DvM (r - s) M
 | ⟨k,h⟩,⟨l,g⟩=>⟨k - l,by rw [Rat.sub_eq_add_neg,Rat.add_mul,Rat.neg_mul,h,g,Rat.intCast_sub,Rat.sub_eq_add_neg]⟩
theorem DvM.mulI {r:Rat} {M:Nat} (i:Int):DvM r M→DvM ((i:Rat) * r) M
 | ⟨k,h⟩=>⟨i * k,by rw [Rat.mul_assoc,h,Rat.intCast_mul]⟩
theorem DvM.int (i:Int) (M:Nat):DvM (i:Rat) M:=⟨i * M,by rw [Rat.intCast_mul]⟩
theorem DvM.zero (M:Nat):DvM 0 M:=⟨0,by rw [Rat.zero_mul]; rfl⟩
theorem DvM.up {r:Rat} {M:Nat} (n:Nat):DvM r M→DvM r (M * n)
 | ⟨k,h⟩=>⟨k * n,by rw [Int.natCast_mul,Rat.intCast_mul,← Rat.mul_assoc,h,Rat.intCast_mul]⟩
theorem DvM.div {r:Rat} {M n:Nat} (hn : 0<n):DvM r M→DvM (r / ((n:Int):Rat)) (M * n)
 | ⟨k,h⟩=>⟨k,by
  have hz:((n:Int):Rat)≠0:=fun z=>by have:=Rat.intCast_eq_zero_iff.mp z; omega
  rw [Int.natCast_mul,Rat.intCast_mul,← h]
  generalize ((n:Int):Rat)=x at hz
  grind⟩
theorem DvM.sum {M:Nat}:∀ {rs:List Rat},(∀ r∈rs,DvM r M)→DvM rs.sum M
 | [],_=>DvM.zero M
 | r :: rs,h=>by rw [List.sum_cons]; exact (h r (.head _)).add (DvM.sum fun x hx=>h x (.tail _ hx))
theorem DvM.den {r:Rat} {M:Nat} (M0 : 0<M):DvM r M→r.den∣M
 | ⟨k,h⟩=>by
  have hz:((M:Int):Rat)≠0:=fun z=>by have:=Rat.intCast_eq_zero_iff.mp z; omega
  have e:r=Rat.divInt k M:=by
   rw [Rat.divInt_eq_div,← h]
   generalize ((M:Int):Rat)=x at hz
   grind
  rw [e,Rat.den_divInt,if_neg (by omega),Int.natAbs_natCast]
  refine Nat.div_dvd_of_dvd ?_
  have:=Int.gcd_dvd_left (M:Int) k
  exact Int.natCast_dvd_natCast.mp this
theorem fq {r:Rat} {M b m x:Nat} (h0 : 0≤r) (h1:r≤((b:Int):Rat)) (h:DvM r M) (M0 : 0<M) (hM:M<2 ^ m) (hb:b≤2 ^ x):Bt r (m + x):=by
 have hd:=Nat.le_of_dvd M0 (h.den M0)
 have hn:=qg h0
 have h2:=(Rat.le_iff r ((b:Int):Rat)).mp h1
 rw [Rat.num_intCast,Rat.den_intCast] at h2
 have h3:r.num.natAbs≤b * r.den:=by
  have:r.num≤((b * r.den:Nat):Int):=by rw [Int.natCast_mul]; omega
  omega
 have hx : 0<2 ^ x:=Nat.pow_pos (by decide)
 refine ⟨?_,?_⟩
 ·have h4:b * r.den≤2 ^ x * r.den:=Nat.mul_le_mul_right _ hb
  have h5 : 2 ^ x * r.den<2 ^ x * 2 ^ m:=Nat.mul_lt_mul_of_pos_left (by omega) hx
  rw [Nat.pow_add,Nat.mul_comm (2 ^ m)]
  omega
 ·rw [Nat.pow_add]
  have : 2 ^ m≤2 ^ m * 2 ^ x:=Nat.le_mul_of_pos_right _ hx
  omega
structure PrM (ps:List Int) (prs:List Rat) (M b:Nat):Prop where
 len:prs.length=ps.length
 ok:∀ r∈prs,0≤r∧r≤((b:Int):Rat)∧DvM r M
theorem PrM.zero (ps:List Int) (M b:Nat):PrM ps (List.replicate ps.length 0) M b:=⟨List.length_replicate,fun r hr=>by
 rw [List.eq_of_mem_replicate hr]
 exact ⟨by decide,Rat.intCast_nonneg.mpr (by omega),DvM.zero M⟩⟩
theorem li {b:Rat} (hb : 0≤b):∀ {rs:List Rat},(∀ r∈rs,0≤r∧r≤b)→0≤rs.sum∧rs.sum≤(rs.length:Rat) * b
 | [],_=>by rw [List.sum_nil,List.length_nil]; exact ⟨by decide,by rw [show ((0:Nat):Rat)=0 from rfl,Rat.zero_mul]; decide⟩
 | r :: rs,h=>by
  have ih:=li hb (rs:=rs) fun x hx=>h x (.tail _ hx)
  have h0:=h r (.head _)
  rw [List.sum_cons,List.length_cons]
  have e:((rs.length + 1:Nat):Rat)=(rs.length:Rat) + 1:=by rw [Rat.natCast_add]; rfl
  rw [e,Rat.add_mul,Rat.one_mul]
  constructor <;> grind
theorem nP {ps rs:List Int} {prs:List Rat} {a:Ask} {M b:Nat} (hT:Tree ps rs) (he:Ends2 ps a.one a.other) (hp:PrM ps prs M b):(∀ r∈(aq ps a).map (fun t=>prs.getD (t - 1).toNat 0),r∈prs)∧0≤bi ps a prs∧bi ps a prs≤(((46 * b:Nat):Int):Rat)∧DvM (bi ps a prs) M:=by
 have hm:∀ r∈(aq ps a).map (fun t=>prs.getD (t - 1).toNat 0),r∈prs:=fun r hr=>by
  obtain ⟨t,ht,rfl⟩:=List.mem_map.mp hr
  have:=bd hT he ht
  exact gq (by rw [hp.len]; omega)
 have hb:(0:Rat)≤((b:Int):Rat):=Rat.intCast_nonneg.mpr (by omega)
 have h1:=li hb fun r hr=>⟨(hp.ok r (hm r hr)).1,(hp.ok r (hm r hr)).2.1⟩
 refine ⟨hm,h1.1,?_,DvM.sum fun r hr=>(hp.ok r (hm r hr)).2.2⟩
 refine Rat.le_trans h1.2 ?_
 have hl:(aq ps a).length≤46:=dN hT he
 rw [List.length_map,Int.natCast_mul,Rat.intCast_mul]
 have hl':((aq ps a).length:Rat)≤((46:Nat):Rat):=Rat.natCast_le_natCast.mpr hl
 exact Rat.mul_le_mul_of_nonneg_right hl' hb
theorem sA {r s:Rat} (h:r≤s) (hs : 0≤s) : 0≤c_ r∧c_ r≤s:=by
 unfold c_; split
 ·exact ⟨Rat.le_of_lt (by assumption),h⟩
 ·exact ⟨by decide,hs⟩
theorem e_ {ps rs:List Int} {prs:List Rat} {a:Ask} {w:Int} {M b:Nat} (hT:Tree ps rs) (ha:AskOk ps a) (hw : 0≤w) (hp:PrM ps prs M b) : 0≤aB ps a w prs∧aB ps a w prs≤(((1000000000000:Nat):Int):Rat)∧DvM (aB ps a w prs) M:=by
 obtain ⟨_,h0,h1,h2⟩:=nP hT ha.ends hp
 have hw':(0:Rat)≤(w:Rat):=Rat.intCast_nonneg.mpr hw
 have hwp:(0:Rat)≤(w:Rat) * bi ps a prs:=Rat.mul_nonneg hw' h0
 have hwo:(a.worth:Rat)≤(((1000000000000:Nat):Int):Rat):=Rat.intCast_le_intCast.mpr (by have:=ha.w1; omega)
 have hb:=sA (r:=(a.worth:Rat) - (w:Rat) * bi ps a prs) (s:=(((1000000000000:Nat):Int):Rat)) (by grind) (by decide)
 refine ⟨hb.1,hb.2,?_⟩
 show DvM (c_ _) M
 unfold c_
 split
 ·exact (DvM.int a.worth M).sub (h2.mulI w)
 ·exact DvM.zero M
def o9:SpD:=fun ds q=>∃ ps rs a w prs,∃ M b:Nat,ds=[aK ps rs,bV a,.int w,dQs prs]∧Tree ps rs∧AskOk ps a∧0≤w∧w≤1000000∧PrM ps prs M b∧0<M∧M<2 ^ 400∧b≤2 ^ 60∧q (dQ (aB ps a w prs)) []
def bb (st:Rat) (prs:List Rat) (w:List Int):List Rat:=w.foldl (fun l t=>l.set (t - 1).toNat (l.getD (t - 1).toNat 0 + st)) prs
theorem kO (st:Rat) (prs:List Rat) (w:List Int) (t:Int):bb st prs (w++[t])=(bb st prs w).set (t - 1).toNat ((bb st prs w).getD (t - 1).toNat 0 + st):=by
 unfold bb; rw [List.foldl_append]; rfl
theorem PrM.raise {ps:List Int} {M X:Nat} {st:Rat} (h0 : 0≤st) (h1:st≤((X:Int):Rat)) (hd:DvM st M):∀ {w:List Int} {prs:List Rat} {b:Nat},(∀ t∈w,0<t∧t≤(ps.length:Int))→PrM ps prs M b→PrM ps (bb st prs w) M (b + w.length * X)
 | [],prs,b,_,h=>by rw [List.length_nil,Nat.zero_mul]; exact h
 | t :: w,prs,b,hw,h=>by
  have ht:=hw t (.head _)
  have hm:=h.ok _ (gq (rs:=prs) (k:=(t - 1).toNat) (by rw [h.len]; omega))
  have e:(((b + X:Nat):Int):Rat)=((b:Int):Rat) + ((X:Int):Rat):=by rw [Int.natCast_add,Rat.intCast_add]
  have hx:(0:Rat)≤((X:Int):Rat):=Rat.intCast_nonneg.mpr (by omega)
  have h':PrM ps (prs.set (t - 1).toNat (prs.getD (t - 1).toNat 0 + st)) M (b + X):=by
   refine ⟨by rw [List.length_set]; exact h.len,sZ (fun r hr=>?_) ?_⟩
   ·obtain ⟨a1,a2,a3⟩:=h.ok r hr
    exact ⟨a1,by rw [e]; grind,a3⟩
   ·exact ⟨Rat.add_nonneg hm.1 h0,by rw [e]; grind,hm.2.2.add hd⟩
  have:=PrM.raise h0 h1 hd (w:=w) (fun x hx=>hw x (.tail _ hx)) h'
  rw [List.length_cons,show b + (w.length + 1) * X=b + X + w.length * X by rw [Nat.add_mul]; omega]
  exact this
theorem PrM.up {ps:List Int} {prs:List Rat} {M b:Nat} (n:Nat) (h:PrM ps prs M b):PrM ps prs (M * n) b:=⟨h.len,fun r hr=>⟨(h.ok r hr).1,(h.ok r hr).2.1,(h.ok r hr).2.2.up n⟩⟩
theorem PrM.mono {ps:List Int} {prs:List Rat} {M b c:Nat} (h:PrM ps prs M b) (hb:b≤c):PrM ps prs M c:=⟨h.len,fun r hr=>⟨(h.ok r hr).1,Rat.le_trans (h.ok r hr).2.1 (Rat.intCast_le_intCast.mpr (by omega)),(h.ok r hr).2.2⟩⟩
def aG (ps:List Int) (a:Ask):List Int:=(aq ps a).filter fun x=>decide (bu ps x=cm ps a.one a.other)
def s9:SpD:=fun ds q=>∃ ps rs a prs st,∃ M b X:Nat,ds=[aK ps rs,bV a,dQs prs,dQ st]∧Tree ps rs∧Ends2 ps a.one a.other∧PrM ps prs M b∧0≤st∧st≤((X:Int):Rat)∧DvM st M∧0<M∧M<2 ^ 400∧b + 46 * X≤2 ^ 60∧q .non [some (dQs (bb st prs (aG ps a)))]
def fm:Option (Int×Int)→D
 | none=>.non
 | some (w,p)=>.tup [.int w,.int p]
def lD (ts:List (Option (Int×Int))):D:=.lst (ts.map fm)
def e5 (ts:List (Option (Int×Int))):Prop:=∀ w p,some (w,p)∈ts→0≤w∧w≤1000000∧1≤p∧p≤64
structure Pil where
 pile:List Int
 prs:List Rat
 rests:List Rat
def fu (ps:List Int) (as:List Ask) (S:Pil) (k:Int) (w p:Int):Pil :=
 if aB ps (av as k) w S.prs=0 then ⟨S.pile,S.prs,S.rests.set k.toNat (aB ps (av as k) w S.prs)⟩
 else ⟨S.pile++[k],bb (aB ps (av as k) w S.prs / (p:Rat)) S.prs (aG ps (av as k)),S.rests.set k.toNat (aB ps (av as k) w S.prs)⟩
def dE (ps:List Int) (as:List Ask) (ts:List (Option (Int×Int))) (S:Pil) (k:Int):Pil :=
 match ts.getD k.toNat none with
 | none=>S
 | some (w,p)=>fu ps as S k w p
def bB (ps:List Int) (as:List Ask) (ts:List (Option (Int×Int))) (o:List Int):Pil:=o.foldl (dE ps as ts) ⟨[],List.replicate ps.length 0,List.replicate as.length 0⟩
theorem fz (ps:List Int) (as:List Ask) (ts:List (Option (Int×Int))) (o:List Int) (k:Int):bB ps as ts (o++[k])=dE ps as ts (bB ps as ts o) k:=by
 unfold bB; rw [List.foldl_append]; rfl
structure PileI (ps:List Int) (as:List Ask) (S:Pil) (i:Nat):Prop where
 rl:S.rests.length=as.length
 pl:S.pile.length≤i
 pm:∀ k∈S.pile,0≤k∧k<(as.length:Int)
 pr:∃ M:Nat,0<M∧M≤64 ^ i∧PrM ps S.prs M (i * 46000000000000)
theorem pile0 (ps:List Int) (as:List Ask):PileI ps as ⟨[],List.replicate ps.length 0,List.replicate as.length 0⟩ 0:=⟨List.length_replicate,Nat.le_refl _,(fun k hk=>by cases hk),1,by decide,by decide,PrM.zero ps 1 _⟩
theorem fY {ps rs:List Int} (hT:Tree ps rs) {a:Ask} (he:Ends2 ps a.one a.other):(∀ t∈aG ps a,0<t∧t≤(ps.length:Int))∧(aG ps a).length≤46 :=
 ⟨fun t ht=>bd hT he (List.mem_filter.mp ht).1,Nat.le_trans (List.length_filter_le _ _) (dN hT he)⟩
theorem gb {r:Rat} {b:Rat} {p:Int} (h0 : 0≤r) (h1:r≤b) (hp : 1≤p) : 0≤r / (p:Rat)∧r / (p:Rat)≤b:=by
 have hq:(1:Rat)≤(p:Rat):=Rat.intCast_le_intCast.mpr hp
 have hq0:(0:Rat)<(p:Rat):=by grind
 have e:=Rat.div_mul_cancel (a:=r) (b:=(p:Rat)) (by grind)
 constructor
 ·exact Rat.le_of_mul_le_mul_right (c:=(p:Rat)) (by rw [e,Rat.zero_mul]; exact h0) hq0
 ·refine Rat.le_of_mul_le_mul_right (c:=(p:Rat)) ?_ hq0
  rw [e]
  have:b * 1≤b * (p:Rat):=Rat.mul_le_mul_of_nonneg_left hq (Rat.le_trans h0 h1)
  grind
theorem PileI.step {ps rs:List Int} {as:List Ask} {S:Pil} {i:Nat} {k w p:Int} (hT:Tree ps rs) (ha:AsksOk ps as) (h:PileI ps as S i) (k0 : 0≤k) (k1:k<(as.length:Int)) (hw : 0≤w∧w≤1000000∧1≤p∧p≤64):PileI ps as (fu ps as S k w p) (i + 1):=by
 obtain ⟨rl,pl,pm,M,M0,hM,hP⟩:=h
 have hok:=bY ha k0 k1
 obtain ⟨s0,s1,s2⟩:=e_ hT hok hw.1 hP
 have hM':M * p.toNat≤64 ^ (i + 1):=by rw [Nat.pow_succ]; exact Nat.mul_le_mul hM (by omega)
 have hM0' : 0<M * p.toNat:=Nat.mul_pos M0 (by omega)
 unfold fu
 split
 ·exact ⟨by rw [List.length_set]; exact rl,Nat.le_succ_of_le pl,pm,M * p.toNat,hM0',hM',(hP.up _).mono (Nat.mul_le_mul_right _ (Nat.le_succ i))⟩
 ·obtain ⟨t1,t2⟩:=fY hT hok.ends
  refine ⟨by rw [List.length_set]; exact rl,by rw [List.length_append]; exact Nat.succ_le_succ pl,fun z hz=>?_,M * p.toNat,hM0',hM',?_⟩
  ·rcases List.mem_append.mp hz with z1 | z1
   ·exact pm z z1
   ·rw [List.mem_singleton.mp z1]; exact ⟨k0,k1⟩
  ·obtain ⟨d0,d1⟩:=gb s0 s1 hw.2.2.1
   have hd:DvM (aB ps (av as k) w S.prs / (p:Rat)) (M * p.toNat):=by
    have:=s2.div (n:=p.toNat) (by omega)
    rw [show ((p.toNat:Nat):Int)=p by omega] at this
    exact this
   have hr:=PrM.raise (X:=1000000000000) d0 d1 hd t1 (hP.up p.toNat)
   refine PrM.mono hr ?_
   rw [Nat.add_mul]
   have:(aG ps (av as k)).length * 1000000000000≤46 * 1000000000000:=Nat.mul_le_mul_right _ t2
   exact Nat.add_le_add_left this _
theorem PileI.step' {ps rs:List Int} {as:List Ask} {S:Pil} {i:Nat} {k:Int} {ts:List (Option (Int×Int))} (hT:Tree ps rs) (ha:AsksOk ps as) (hts:e5 ts) (h:PileI ps as S i) (k0 : 0≤k) (k1:k<(as.length:Int)):PileI ps as (dE ps as ts S k) (i + 1):=by
 unfold dE
 split
 ·obtain ⟨rl,pl,pm,M,M0,hM,hP⟩:=h
  exact ⟨rl,Nat.le_succ_of_le pl,pm,M,M0,Nat.le_trans hM (Nat.pow_le_pow_right (by decide) (Nat.le_succ i)),hP.mono (Nat.mul_le_mul_right _ (Nat.le_succ i))⟩
 ·rename_i w p e
  refine h.step hT ha k0 k1 (hts w p ?_)
  rw [List.getD_eq_getElem?_getD] at e
  cases q:ts[k.toNat]? with
  | none=>rw [q] at e; cases e
  | some x=>rw [q] at e; cases e; exact List.mem_of_getElem? q
theorem g8 {ps rs:List Int} {as:List Ask} {ts:List (Option (Int×Int))} (hT:Tree ps rs) (ha:AsksOk ps as) (hts:e5 ts) {o:List Int} (ho:∀ k∈o,0≤k∧k<(as.length:Int)):∀ i:Nat,i≤o.length→PileI ps as (bB ps as ts (o.take i)) i
 | 0,_=>pile0 ps as
 | i + 1,h=>by
  have hi:i<o.length:=h
  have e:o.take (i + 1)=o.take i++[o[i]]:=(List.take_append_getElem hi).symm
  rw [e,fz]
  have hm:=ho _ (List.getElem_mem hi)
  exact (g8 hT ha hts ho i (Nat.le_of_lt hi)).step' hT ha hts hm.1 hm.2
def jG (ps e:List Int) (as:List Ask):List Int:=as.map fun a=>e.getD (cm ps a.one a.other).toNat 0
def metF (ps e:List Int):D→D
 | .tup [.int a,.int b,_,_]=>.int (e.getD (cm ps a b).toNat 0)
 | d=>d
theorem oo (ps e:List Int) (as:List Ask):(as.map bV).map (metF ps e)=(jG ps e as).map D.int:=by unfold jG; rw [List.map_map,List.map_map]; rfl
def eF (ps:List Int) (as:List Ask) (o:List Int):Prop:=∃ e,DepOk ps e ps.length∧SortK as.length (fun z=>-((jG ps e as).getD z.toNat 0)) o
theorem eF.mem {ps o:List Int} {as:List Ask}:eF ps as o→o.length=as.length∧∀ k∈o,0≤k∧k<(as.length:Int)
 | ⟨_,_,h⟩=>⟨by have:=h.perm.length_eq; simpa using this,fun k hk=>by
  obtain ⟨i,hi,rfl⟩:=List.mem_map.mp (h.perm.mem_iff.mp hk)
  have:=List.mem_range.mp hi
  omega⟩
def wK:SpD:=fun ds q=>∃ ps rs as,ds=[aK ps rs,be as]∧Tree ps rs∧AsksOk ps as∧∀ o,eF ps as o→q (au o) []
def xa:SpD:=fun ds q=>∃ ps rs as ts,ds=[aK ps rs,be as,lD ts]∧Tree ps rs∧AsksOk ps as∧ts.length=as.length∧e5 ts∧∀ o,eF ps as o→q (.tup [au (bB ps as ts o).pile,dQs (bB ps as ts o).prs,dQs (bB ps as ts o).rests]) []
structure KL where
 load:List Int
 keep:List Int
def eM (ps rs:List Int) (as:List Ask) (S:KL) (k:Int):KL :=
 if gD rs (av as k).size (aq ps (av as k)) S.load=[] then ⟨bG S.load (aq ps (av as k)) (av as k).size,S.keep++[k]⟩ else S
def bL (ps rs:List Int) (as:List Ask) (o:List Int):KL:=o.foldl (eM ps rs as) ⟨List.replicate ps.length 0,[]⟩
theorem fA (ps rs:List Int) (as:List Ask) (o:List Int) (k:Int):bL ps rs as (o++[k])=eM ps rs as (bL ps rs as o) k:=by
 unfold bL; rw [List.foldl_append]; rfl
theorem ii (ps rs:List Int) (as:List Ask) (o:List Int):∀ i:Nat,i≤o.length→(bL ps rs as (o.take i)).load.length=ps.length∧(bL ps rs as (o.take i)).keep.length≤i∧∀ k∈(bL ps rs as (o.take i)).keep,k∈o
 | 0,_=>⟨List.length_replicate,Nat.le_refl _,fun k hk=>by cases hk⟩
 | i + 1,h=>by
  have hi:i<o.length:=h
  have e:o.take (i + 1)=o.take i++[o[i]]:=(List.take_append_getElem hi).symm
  rw [e,fA]
  obtain ⟨h1,h2,h3⟩:=ii ps rs as o i (Nat.le_of_lt hi)
  unfold eM
  split
  ·refine ⟨by rw [bJ]; exact h1,by rw [List.length_append]; exact Nat.succ_le_succ h2,fun k hk=>?_⟩
   rcases List.mem_append.mp hk with z | z
   ·exact h3 k z
   ·rw [List.mem_singleton.mp z]; exact List.getElem_mem hi
  ·exact ⟨h1,Nat.le_succ_of_le h2,h3⟩
def lF:SpD:=fun ds q=>∃ ps rs a l,ds=[aK ps rs,bV a,au l]∧Tree ps rs∧Ends2 ps a.one a.other∧l.length=ps.length∧q (au (gD rs a.size (aq ps a) l)) []
def wB:SpD:=fun ds q=>∃ ps rs as p,ds=[aK ps rs,be as,au p]∧Tree ps rs∧AsksOk ps as∧p.length≤60∧(∀ k∈p,0≤k∧k<(as.length:Int))∧q (au (bc (bL ps rs as p.reverse).keep)) []
theorem RO.swap {C:Ctx} {ow:List Bool} {G:Hp} {ρ:DSt} {σ:St} {H:Hp} {pd:List (D×V)} {O:Own} {x y:D×V} (h:RO C ow G ρ σ H (x :: y :: pd) O) (hn:C.np≤pd.length):R C ow G ρ σ H (y :: x :: pd):=by
 refine ⟨lab (fun l π=>if l=2 * pd.length + 1 then (2 * (pd.length + 1) + 1,π) else if l=2 * (pd.length + 1) + 1 then (2 * pd.length + 1,π) else (l,π)) O,h.len,h.gh,h.g0,h.gn,?_,h.cok,h.fr,h.ft,h.al,h.mp,?_,⟨?_,?_,?_⟩,Nat.le_succ_of_le (Nat.le_succ_of_le hn)⟩
 ·intro a m e
  obtain ⟨l,π,e1,rfl⟩:=gr e
  obtain ⟨q1,q2,q3⟩:=h.og a _ e1
  refine ⟨q1,q2,?_⟩
  try dsimp only
  have key:(l=2 * pd.length + 1∨l=2 * (pd.length + 1) + 1)→C.H a=none:=fun z=>by
   rcases q3 with q3 | ⟨_,q3⟩
   ·exact q3
   ·rcases h.cok _ _ _ q3 with ⟨k,u,q4,q5⟩ | ⟨k,q4,_⟩
    ·simp only at q4; omega
    ·simp only at q4; omega
  split
  ·exact .inl (key (.inl (by assumption)))
  ·split
   ·exact .inl (key (.inr (by assumption)))
   ·exact q3
 ·intro j e q
  obtain ⟨u,h1,h2⟩:=h.sl j e q
  refine ⟨u,h1,?_⟩
  split at h2
  ·rename_i c; rw [if_pos c]; exact h2.keep (fun _ _ z=>z) fun a τ q=>⟨by rw [bM q,if_neg cD,if_neg cD],rfl⟩
  ·rename_i c; rw [if_neg c]; exact h2
 ·exact h.pn.2.1.keep (fun _ _ z=>z) fun a τ q=>⟨by rw [bM q,if_pos rfl]; rfl,rfl⟩
 ·exact h.pn.1.keep (fun _ _ z=>z) fun a τ q=>⟨by rw [bM q,if_neg (by rw [List.length_cons]; omega),if_pos (by rw [List.length_cons])],rfl⟩
 ·exact cu.keep (fun _ _ z=>z) (fun a j π hj q=>⟨by rw [bM q,if_neg (by omega),if_neg (by omega)],rfl⟩) h.pn.2.2
def mLate (i:Nat) (ma:ME):MA:=fun ρ q=>(∃ d,ρ[i]? = some (some d))∧ma ρ fun d2 ρ2=>match ρ2[i]? with
 | some (some d)=>q [d,d2] (ρ2.set i none)
 | _=>False
theorem oW {X:Cx} {M:Md} {e:Expr} {ma:ME} {pos:Pos} (i:Nat) {x:Str} (h:QM X M e ma) (ho:M.ow[i]? = some true:=by decide) (hu:M.mu[i]?≠some true:=by decide) (hN:X.N[i]? = some x:=by rfl) (hv:Vis X.env.scope x:=by first | exact Or.inl rfl | exact Or.inr (Or.inl rfl) | exact Or.inr (Or.inr rfl)) (hd:(x == ("__debug__":Str))=false:=by decide)
 (hcd:(x == ("__classdict__":Str))=false:=by decide) (hs:starEach [.Name x pos,e] X.env=(false,eval (.Name x pos) X.env) :: starEach [e] X.env:=by rfl) (hs2:starEach [e] X.env=[(false,eval e X.env)]:=by rfl):QMs X M [.Name x pos,e] (mLate i ma):=by
 obtain ⟨t2,p2,s2⟩:=h
 refine ⟨_,cq (eT hN hv hd hcd) (cq p2 eK hs2) hs,fun C G ρ σ H pd q Q hm r h k=>?_⟩
 obtain ⟨⟨d0,e0⟩,h⟩:=h
 obtain ⟨O,ro⟩:=r
 have hn:=ro.np
 obtain ⟨v,hv',_⟩:=ro.sl i d0 e0
 refine ⟨v,hv',s2 C G ρ σ H pd _ _ hm ⟨O,ro⟩ h fun d2 ρ2 v2 G2 H2 hq z r2=>?_⟩
 split at hq
 ·rename_i d e
  obtain ⟨O2,ro2⟩:=r2
  obtain ⟨v',h1,⟨O3,ro3⟩⟩:=ro2.move e ho (hm.no hu)
  rw [hv'] at h1; cases h1
  exact k [(d,v),(d2,v2)] _ G2 H2 hq z (ro3.swap hn) rfl
 ·exact hq.elim
def wl (ps:List Int) (s:Ask→Int) (bs:List Ask) (l:List Int):List Int:=bs.foldl (fun l b=>bG l (aq ps b) (s b)) l
def dg (ps:List Int) (s:Ask→Int) (j:Nat) (b:Ask):Int:=cnt ((j:Int) + 1) (aq ps b) (s b)
theorem lL (ps:List Int) (s:Ask→Int):∀ (bs:List Ask) (l:List Int),(wl ps s bs l).length=l.length
 | [],_=>rfl
 | b :: bs,l=>by
  show (wl ps s bs (bG l (aq ps b) (s b))).length=_
  rw [lL ps s bs,bJ]
theorem tS {ps rs:List Int} (hT:Tree ps rs) (s:Ask→Int) (j:Nat):∀ (bs:List Ask) (l:List Int),(∀ b∈bs,AskOk ps b)→l.length=ps.length→(wl ps s bs l).getD j 0=l.getD j 0 + (bs.map (dg ps s j)).sum
 | [],l,_,_=>by show l.getD j 0=l.getD j 0 + 0; omega
 | b :: bs,l,hb,hl=>by
  have ok:=hb b (.head _)
  have e:(bG l (aq ps b) (s b)).getD j 0=l.getD j 0 + dg ps s j b:=ev (cw hT ok.ends) fun x hx=>by have:=bd hT ok.ends hx; omega
  show (wl ps s bs (bG l (aq ps b) (s b))).getD j 0=_
  rw [tS hT s j bs _ (fun x hx=>hb x (.tail _ hx)) (by rw [bJ]; exact hl),e,List.map_cons,List.sum_cons]
  omega
theorem lY {ps rs:List Int} {prs:List Rat} (hT:Tree ps rs) (s:Ask→Int) (hl:prs.length=ps.length):∀ (bs:List Ask) (l:List Int),(∀ b∈bs,AskOk ps b)→l.length=ps.length →
 (aR (wl ps s bs l) prs).sum=(aR l prs).sum + (bs.map fun b=>((s b:Int):Rat) * bi ps b prs).sum
 | [],l,_,_=>by
  show (aR l prs).sum=(aR l prs).sum + 0
  rw [Rat.add_zero]
 | b :: bs,l,hb,h=>by
  have ok:=hb b (.head _)
  show (aR (wl ps s bs (bG l (aq ps b) (s b))) prs).sum=_
  rw [lY hT s hl bs _ (fun x hx=>hb x (.tail _ hx)) (by rw [bJ]; exact h),i7 _ prs _ l (by omega) fun t ht=>by have:=bd hT ok.ends ht; omega]
  rw [List.map_cons,List.sum_cons]
  unfold bi
  grind
theorem eU:∀ {l m:List Int} {prs:List Rat},(∀ j:Nat,l.getD j 0≤m.getD j 0)→l.length=m.length→(∀ p∈prs,0≤p)→(aR l prs).sum≤(aR m prs).sum
 | [],[],_,_,_,_=>Rat.le_refl
 | [],_ :: _,_,_,h,_=>by cases h
 | _ :: _,[],_,_,h,_=>by cases h
 | _ :: _,_ :: _,[],_,_,_=>Rat.le_refl
 | x :: l,y :: m,p :: prs,h,hl,hp=>by
  have ih:=eU (l:=l) (m:=m) (prs:=prs) (fun j=>h (j + 1)) (by simpa using hl) fun q hq=>hp q (.tail _ hq)
  have h0:x≤y:=h 0
  have:((x:Int):Rat) * p≤((y:Int):Rat) * p:=Rat.mul_le_mul_of_nonneg_right (Rat.intCast_le_intCast.mpr h0) (hp p (.head _))
  show (((x:Int):Rat) * p :: aR l prs).sum≤(((y:Int):Rat) * p :: aR m prs).sum
  rw [List.sum_cons,List.sum_cons]; grind
theorem dM (k:Int):∀ {n:Nat} {prs:List Rat},prs.length=n→(aR (List.replicate n k) prs).sum=(k:Rat) * prs.sum
 | 0,[],_=>by show (0:Rat)=_; rw [List.sum_nil,Rat.mul_zero]
 | n + 1,p :: prs,h=>by
  show ((k:Rat) * p :: aR (List.replicate n k) prs).sum=_
  rw [List.sum_cons,List.sum_cons,dM k (by simpa using h),Rat.mul_add]
theorem qK {f:Ask→Rat} (hf:∀ a,0≤f a):∀ {bs as:List Ask},bs.Sublist as→(bs.map f).sum≤(as.map f).sum:=fun h=>by
 induction h with
 | slnil=>exact Rat.le_refl
 | cons a _ ih=>rw [List.map_cons,List.sum_cons]; have:=hf a; grind
 | cons_cons a _ ih=>rw [List.map_cons,List.map_cons,List.sum_cons,List.sum_cons]; grind
def nE (ps rs:List Int) (bs:List Ask):Prop:=∀ j:Nat,j<ps.length→(bs.map (dg ps (·.size) j)).sum≤rs.getD j 0
theorem jy {f g:Ask→Int}:∀ {bs:List Ask},(∀ b∈bs,f b≤g b)→(bs.map f).sum≤(bs.map g).sum
 | [],_=>Int.le_refl _
 | b :: bs,h=>by
  have:=jy (bs:=bs) fun x hx=>h x (.tail _ hx)
  have:=h b (.head _)
  rw [List.map_cons,List.map_cons,List.sum_cons,List.sum_cons]; omega
theorem g9 (c:Int) (f:Ask→Int):∀ bs:List Ask,(bs.map fun b=>c * f b).sum=c * (bs.map f).sum
 | []=>by simp
 | b :: bs=>by rw [List.map_cons,List.map_cons,List.sum_cons,List.sum_cons,g9 c f bs,Int.mul_add]
theorem mK {f g:Ask→Rat}:∀ {bs:List Ask},(∀ b∈bs,f b≤g b)→(bs.map f).sum≤(bs.map g).sum
 | [],_=>Rat.le_refl
 | b :: bs,h=>by
  have:=mK (bs:=bs) fun x hx=>h x (.tail _ hx)
  have:=h b (.head _)
  rw [List.map_cons,List.map_cons,List.sum_cons,List.sum_cons]; grind
theorem gR (f g:Ask→Rat):∀ bs:List Ask,(bs.map fun b=>f b + g b).sum=(bs.map f).sum + (bs.map g).sum
 | []=>(Rat.add_zero 0).symm
 | b :: bs=>by rw [List.map_cons,List.map_cons,List.map_cons,List.sum_cons,List.sum_cons,List.sum_cons,gR f g bs]; grind
theorem tY {ps rs:List Int} {prs:List Rat} {bs:List Ask} {m:List Int} {s:Ask→Int} (hT:Tree ps rs) (hb:∀ b∈bs,AskOk ps b) (hl:prs.length=ps.length) (hp:∀ p∈prs,0≤p) (hm:m.length=ps.length)
 (h:∀ j:Nat,j<ps.length→(bs.map (dg ps s j)).sum≤m.getD j 0):(bs.map fun b=>((s b:Int):Rat) * bi ps b prs).sum≤(aR m prs).sum:=by
 have h1:=lY hT s hl bs (List.replicate ps.length 0) hb List.length_replicate
 rw [iW,Rat.zero_add] at h1
 rw [← h1]
 refine eU (fun j=>?_) (by rw [lL,List.length_replicate,hm]) hp
 by_cases hj:j<ps.length
 ·rw [tS hT s j bs _ hb List.length_replicate,dc]
  have:=h j hj; omega
 ·rw [List.getD_eq_getElem?_getD,List.getD_eq_getElem?_getD,List.getElem?_eq_none (by rw [lL,List.length_replicate]; omega),List.getElem?_eq_none (by omega)]
  exact Int.le_refl _
def cE (k:Int) (a:Ask):Bool:=decide (k<2 * a.size)
def cH (ps:List Int) (k:Int) (P U:List Rat) (a:Ask):Rat:=if cE k a=true then aB ps a 1 P else aB ps a a.size U
def fT (ps:List Int) (k:Int) (as:List Ask) (P U:List Rat):Rat:=P.sum + (k:Rat) * U.sum + (as.map (cH ps k P U)).sum
theorem sv {ps:List Int} {s:Ask→Int} {j:Nat} {b:Ask} (h : 0≤s b) : 0≤dg ps s j b:=by unfold dg cnt; split <;> omega
theorem beat2 {ps:List Int} {k:Int} {as bs:List Ask} {P U:List Rat} (hT:Tree ps (List.replicate ps.length k)) (ha:AsksOk ps as) (hs:bs.Sublist as) (hf:nE ps (List.replicate ps.length k) bs) (hP:P.length=ps.length) (hP0:∀ p∈P,0≤p) (hU:U.length=ps.length) (hU0:∀ p∈U,0≤p) :
 (bs.map fun b=>(b.worth:Rat)).sum≤fT ps k as P U:=by
 have hb:∀ b∈bs,AskOk ps b:=fun b h=>ha.ok b (hs.subset h)
 have hk:∀ j:Nat,j<ps.length→(List.replicate ps.length k).getD j 0=k:=fun j hj=>by rw [List.getD_eq_getElem?_getD,List.getElem?_replicate,if_pos hj]; rfl
 obtain ⟨s1,e1⟩:∃ s1:Ask→Int,s1=fun b=>if cE k b=true then 1 else 0:=⟨_,rfl⟩
 obtain ⟨s2,e2⟩:∃ s2:Ask→Int,s2=fun b=>if cE k b=true then 0 else b.size:=⟨_,rfl⟩
 have h1:=mK (bs:=bs) (f:=fun b=>(b.worth:Rat)) (g:=fun b=>cH ps k P U b + (((s1 b:Int):Rat) * bi ps b P + ((s2 b:Int):Rat) * bi ps b U)) fun b _=>by
  rw [e1,e2]
  unfold cH aB
  by_cases c:cE k b=true
  ·simp only [if_pos c]
   have:=(jH ((b.worth:Rat) - ((1:Int):Rat) * bi ps b P)).1
   have e0:((0:Int):Rat)=0:=rfl
   rw [e0]; grind
  ·simp only [if_neg c]
   have:=(jH ((b.worth:Rat) - ((b.size:Int):Rat) * bi ps b U)).1
   have e0:((0:Int):Rat)=0:=rfl
   rw [e0]; grind
 rw [gR,gR] at h1
 have h2:=qK (f:=cH ps k P U) (fun b=>by unfold cH; split <;> exact (jH _).2) hs
 have h3:=tY (s:=s1) (m:=List.replicate ps.length 1) hT hb hP hP0 List.length_replicate fun j hj=>by
  rw [List.getD_eq_getElem?_getD,List.getElem?_replicate,if_pos hj]
  show _≤(1:Int)
  have f1:=hf j hj
  rw [hk j hj] at f1
  have f2:=jy (bs:=bs) (f:=fun b=>(k + 1) * dg ps s1 j b) (g:=fun b=>2 * dg ps (·.size) j b) fun b hm=>by
   have ok:=hb b hm
   have:=ok.s0
   unfold dg cnt
   split
   ·rw [e1]
    show (k + 1) * (if cE k b=true then 1 else 0)≤2 * b.size
    by_cases c:cE k b=true
    ·rw [if_pos c]; have:k<2 * b.size:=of_decide_eq_true c; omega
    ·rw [if_neg c]; omega
   ·omega
  rw [g9,g9] at f2
  rcases Int.lt_or_le 1 (bs.map (dg ps s1 j)).sum with z | z
  ·exfalso
   have hk0 : 0≤k:=by
    have:=hT.room j k (by rw [List.getElem?_replicate,if_pos hj])
    omega
   have:(k + 1) * 2≤(k + 1) * (bs.map (dg ps s1 j)).sum:=Int.mul_le_mul_of_nonneg_left (by omega) (by omega)
   omega
  ·exact z
 have h4:=tY (s:=s2) (m:=List.replicate ps.length k) hT hb hU hU0 List.length_replicate fun j hj=>by
  refine Int.le_trans (jy fun b hm=>?_) (hf j hj)
  have ok:=hb b hm
  have:=ok.s0
  unfold dg cnt
  split
  ·rw [e2]
   show (if cE k b=true then 0 else b.size)≤b.size
   split <;> omega
  ·omega
 rw [dM 1 hP] at h3
 rw [dM k hU] at h4
 unfold fT
 have e0:((1:Int):Rat)=1:=rfl
 rw [e0,Rat.one_mul] at h3
 grind
structure BestE (ps rs:List Int) (as:List Ask) (n:Nat) (left:List Int) (w:Int):Prop where
 len:left.length=ps.length
 ex:∃ bs:List Ask,bs.Sublist (as.take n)∧w=(bs.map (·.worth)).sum∧∀ j:Nat,j<ps.length→left.getD j 0=rs.getD j 0 - (bs.map (dg ps (·.size) j)).sum∧0≤left.getD j 0
theorem ud {ps rs:List Int} (hT:Tree ps rs) (as:List Ask):BestE ps rs as 0 rs 0:=⟨hT.len.symm,[],List.nil_sublist _,rfl,fun j hj=>⟨by simp,by
 have hl:=hT.len
 have:=hT.room j (rs.getD j 0) (by rw [List.getD_eq_getElem?_getD,List.getElem?_eq_getElem (show j<rs.length by omega)]; rfl)
 omega⟩⟩
theorem BestE.up {ps rs:List Int} {as:List Ask} {n:Nat} {left:List Int} {w:Int} (h:BestE ps rs as n left w):BestE ps rs as (n + 1) left w:=by
 obtain ⟨h1,bs,h2,h3⟩:=h
 exact ⟨h1,bs,h2.trans (List.take_sublist_take_left (Nat.le_succ n)),h3⟩
def fk (w left:List Int) (s:Int):List Int:=w.filter fun t=>decide (left.getD (t - 1).toNat 0<s)
theorem BestE.step {ps rs:List Int} {as:List Ask} {n:Nat} {left:List Int} {w:Int} (hT:Tree ps rs) (ha:AsksOk ps as) (hn:n<as.length) (h:BestE ps rs as n left w) (hf:fk (aq ps (as.getD n aS)) left (as.getD n aS).size=[]) :
 BestE ps rs as (n + 1) (bG left (aq ps (as.getD n aS)) (-(as.getD n aS).size)) (w + (as.getD n aS).worth):=by
 obtain ⟨h1,bs,h2,h3,h4⟩:=h
 have hok:=ha.ok _ (cB (as:=as) (k:=n) hn)
 have et:as.take (n + 1)=as.take n++[as.getD n aS]:=by
  rw [List.take_add_one,List.getD_eq_getElem?_getD,List.getElem?_eq_getElem hn]; rfl
 refine ⟨by rw [bJ]; exact h1,bs++[as.getD n aS],by rw [et]; exact List.Sublist.append h2 (List.Sublist.refl _),by rw [h3,List.map_append,List.sum_append]; simp,fun j hj=>?_⟩
 obtain ⟨h5,h6⟩:=h4 j hj
 have e:(bG left (aq ps (as.getD n aS)) (-(as.getD n aS).size)).getD j 0=left.getD j 0 + cnt ((j:Int) + 1) (aq ps (as.getD n aS)) (-(as.getD n aS).size):=ev (cw hT hok.ends) fun x hx=>by have:=bd hT hok.ends hx; omega
 have ec:dg ps (·.size) j (as.getD n aS) = - cnt ((j:Int) + 1) (aq ps (as.getD n aS)) (-(as.getD n aS).size):=by unfold dg cnt; dsimp only; split <;> omega
 refine ⟨?_,?_⟩
 ·rw [e,h5,List.map_append,List.sum_append]
  simp only [List.map_cons,List.map_nil,List.sum_cons,List.sum_nil]
  rw [ec]; omega
 ·rw [e]
  unfold cnt
  split
  ·rename_i hm
   have hm:(j:Int) + 1∈aq ps (as.getD n aS):=by simpa using hm
   have:=(List.filter_eq_nil_iff.mp hf) _ hm
   rw [show ((j:Int) + 1 - 1).toNat=j by omega] at this
   have : ¬ left.getD j 0<(as.getD n aS).size:=by simpa using this
   omega
  ·omega
structure BestB (ps rs:List Int) (as:List Ask) (b:Int):Prop where
 ex:∃ bs:List Ask,bs.Sublist as∧b=(bs.map (·.worth)).sum∧nE ps rs bs
theorem BestE.b {ps rs:List Int} {as:List Ask} {n:Nat} {left:List Int} {w:Int} (h:BestE ps rs as n left w):BestB ps rs as w:=by
 obtain ⟨h1,bs,h2,h3,h4⟩:=h
 exact ⟨bs,h2.trans (List.take_sublist n as),h3,fun j hj=>by have:=h4 j hj; omega⟩
theorem iV (f:Ask→Int):∀ l:List Ask,(((l.map f).sum:Int):Rat)=(l.map fun k=>((f k:Int):Rat)).sum
 | []=>rfl
 | x :: l=>by rw [List.map_cons,List.map_cons,List.sum_cons,List.sum_cons,Rat.intCast_add,iV f l]
theorem BestB.le2 {ps:List Int} {k:Int} {as:List Ask} {b:Int} {P U:List Rat} (hT:Tree ps (List.replicate ps.length k)) (ha:AsksOk ps as) (hP:P.length=ps.length) (hP0:∀ p∈P,0≤p) (hU:U.length=ps.length) (hU0:∀ p∈U,0≤p):BestB ps (List.replicate ps.length k) as b→(b:Rat)≤fT ps k as P U
 | ⟨bs,h1,h2,h3⟩=>by rw [h2,iV]; exact beat2 hT ha h1 h3 hP hP0 hU hU0
end L2
namespace L2
open PySem PySem.Spec PyProof.Rows PySem.W
theorem RO.frz {C:Ctx} {ow:List Bool} {G:Hp} {ρ:DSt} {σ:St} {H:Hp} {pd:List (D×V)} {O:Own} (h:RO C ow G ρ σ H pd O) {i:Nat} {d:D} (e : ρ[i]? = some (some d)) (hi:ow[i]? = some true) (hm:∀ v,C.mu[i]?≠some (some v)) :
 ∃ G',aU G G'∧R C (bor [i] ow) G' ρ σ H pd:=by
 obtain ⟨v,hv,⟨O1,r1⟩⟩:=h.move e hi hm
 obtain ⟨G',s,⟨O2,r2⟩,p⟩:=r1.share h.np
 refine ⟨G',s,O2,h.len,r2.gh,r2.g0,r2.gn,r2.og,r2.cok,r2.fr,r2.ft,r2.al,r2.mp,fun j d' q=>?_,r2.pn,r2.np⟩
 by_cases hj:j=i
 ·subst hj
  rw [e] at q; cases q
  refine ⟨v,hv,?_⟩
  rw [if_neg (fun z=>by have:=(cA.mp z).2; simp at this)]
  exact p
 ·have q':(ρ.set i none)[j]? = some (some d'):=by rw [List.getElem?_set_ne (Ne.symm hj)]; exact q
  obtain ⟨u,h1,h2⟩:=r2.sl j d' q'
  refine ⟨u,h1,?_⟩
  by_cases c:ow[j]? = some true
  ·rw [if_pos c] at h2
   rw [if_pos (cA.mpr ⟨c,by simp; exact fun z=>hj z⟩)]; exact h2
  ·rw [if_neg c] at h2
   rw [if_neg (fun z=>c (cA.mp z).1)]; exact h2
theorem R.thaw {C:Ctx} {ow:List Bool} {G:Hp} {ρ:DSt} {σ:St} {H:Hp} {pd:List (D×V)} {i:Nat}:R C (bor [i] ow) G ρ σ H pd→R C ow G (ρ.set i none) σ H pd
 | ⟨O,r⟩=>⟨O,by rw [List.length_set]; exact r.len,r.gh,r.g0,r.gn,r.og,r.cok,r.fr,r.ft,r.al,r.mp,fun j d' q=>by
  rcases gk q with ⟨_,z⟩ | ⟨z,q'⟩
  ·cases z
  ·obtain ⟨u,h1,h2⟩:=r.sl j d' q'
   refine ⟨u,h1,?_⟩
   by_cases c:ow[j]? = some true
   ·rw [if_pos (cA.mpr ⟨c,by simp; exact fun y=>z y⟩)] at h2
    rw [if_pos c]; exact h2
   ·rw [if_neg (fun y=>c (cA.mp y).1)] at h2
    rw [if_neg c]; exact h2,r.pn,r.np⟩
def mFrz (i:Nat) (m:MS):MS:=fun n ρ=>(∃ d,ρ[i]? = some (some d))∧m { nx:=fun ρ'=>n.nx (ρ'.set i none),rt:=fun _ _=>False } ρ
theorem w_ {X:Cx} {M:Md} {st:Stmt} {m:MS} (i:Nat) (h:QS X ⟨M.mu,bor [i] M.ow,M.fr⟩ st m) (ho:M.ow[i]? = some true:=by decide) (hu:M.mu[i]?≠some true:=by decide):QS X M st (mFrz i m):=by
 obtain ⟨t,p,s⟩:=h
 refine ⟨t,p,fun C G ρ σ H n D hm hn r h k=>?_⟩
 obtain ⟨⟨d,e⟩,h⟩:=h
 obtain ⟨O,ro⟩:=r
 obtain ⟨G',sG,r2⟩:=ro.frz e ho (hm.no hu)
 exact s C G' ρ σ H _ D hm hn r2 h ⟨fun ρ' σ' G2 H2 hq z r3=>k.nx _ σ' G2 H2 hq (sG.trans z) r3.thaw,fun _ _ _ _ h=>h.elim,fun _ _ _ _ h=>h.elim,fun _ _ _ _ _ _ h=>h.elim⟩
theorem lG {X:Cx} {M:Md} {e:Expr} {ma:ME} {pos:Pos} {i:Nat} {x:Str} {apos cpos npos:Pos} (hN:X.N[i]? = some x) (he:QM X M e ma) (ho:M.ow[i]? = some true:=by decide)
 (hv:Vis X.env.scope x:=by first | exact Or.inl rfl | exact Or.inr (Or.inl rfl) | exact Or.inr (Or.inr rfl)) (hd:(x == ("__debug__":Str))=false:=by decide) (hcd:(x == ("__classdict__":Str))=false:=by decide)
 (hbase:attributeBase (.Name x npos) "append" X.env (eval (.Name x npos) X.env)=eval (.Name x npos) X.env:=by rfl)
 (hfew:((backTo cpos (starEach [e] X.env)).all (fun x=>!x.1)&&(backToKw cpos (keywordEach [] X.env)).all (fun x=>x.1.isSome)
  && decide ([e].length + ([]:List Keyword).length + (if ([]:List Keyword).isEmpty then 0 else 1)<30))=true:=by rfl)
 (hline:(apos.endLine == cpos.line)=true:=by rfl) (hst:starEach [e] X.env=[(false,eval e X.env)]:=by rfl)
 (hs:swapsWith (.Call (.Attribute (.Name x npos) "append" apos) [e] [] cpos) none pos.line X.env=pure false:=by rfl) :
 QS X M (.Expr (.Call (.Attribute (.Name x npos) "append" apos) [e] [] cpos) pos) (gP i ma):=by
 obtain ⟨t,p,s⟩:=he
 refine ⟨_,jq (tU PySem.F.plainAttrs_list PySem.F.slot_list_append PySem.F.type_list_append iI (eT hN hv hd hcd) (cq p eK hst) hbase hfew hline hst (by rfl)) hs,fun C G ρ σ H n D hm hn r h k=>?_⟩
 unfold gP at h
 split at h
 ·rename_i ds e1
  obtain ⟨O,ro⟩:=r
  obtain ⟨a,xs,h1,h2,_,_⟩:=ro.write e1 ho
  refine ⟨.ref a,h1,.inl ⟨rfl,xs,SqL.of h2⟩,?_⟩
  refine s C G ρ σ H [] _ _ hm ⟨O,ro⟩ h fun d ρ' v G' H' hq z r'=>?_
  split at hq
  ·rename_i ds' e2
   obtain ⟨O',r'⟩:=r'
   obtain ⟨O2,r2,s2,s3⟩:=r'.join i ds'.length (by rw [hn]; exact Nat.zero_le _)
   obtain ⟨a',xs',g1,g2,g3,g4⟩:=r2.write e2 ho
   rw [h1] at g1; cases g1
   have hl:=g3.length
   refine ⟨a,xs',v,rfl,rfl,g2,by rw [hl]; exact d4 (Nat.le_of_lt hq.1),?_⟩
   exact k.nx _ _ G' _ hq.2 z ⟨O2,g4 _ _ (g3.snoc (by simpa using s2))⟩
  ·exact hq.elim
 ·exact h.elim
end L2
namespace L2
open PySem
theorem l_ {ps rs w ua ub um:List Int} {a b m t:Int} (hT:Tree ps rs) (he:Ends2 ps a b) (h:Climb ps a b w m) (ha:Up ps a ua) (hb:Up ps b ub) (hm:Up ps m um):t∈bc w↔(t∈ua∨t∈ub)∧t ∉ um:=by
 have hp:=(aZ w).trans (h.perm hT he.a0 he.b0 he.a1 he.b1 ha hb hm)
 rw [hp.mem_iff,List.mem_filter,List.mem_append]; simp
theorem Up.sub_len {ps rs u v:List Int} {x y:Int} (hT:Tree ps rs) (hx:Up ps x u) (hy:Up ps y v) (y1:y≤ps.length) (hm:x∈v):u.length≤v.length:=by
 obtain ⟨u',g1,_,g3⟩:=hy.chain hT y1 hm hm (Int.le_refl _)
 rw [g1.det hx] at g3
 have hxl:=(hy.le hT y1 x hm).2
 have hn:u.Nodup:=(hx.dec hT (by omega)).imp fun h e=>by omega
 exact hn.length_le_of_subset g3
theorem wU {ps rs e:List Int} {a b:Ask} {t:Int} (hT:Tree ps rs) (hE:DepOk ps e ps.length) (ea:Ends2 ps a.one a.other) (eb:Ends2 ps b.one b.other) (ta:t∈aq ps a) (tb:t∈aq ps b)
 (hd:e.getD (cm ps a.one a.other).toNat 0≤e.getD (cm ps b.one b.other).toNat 0):∃ x∈aG ps b,x∈aq ps a:=by
 obtain ⟨wa,ca,qa⟩:=fc hT ea.a0 ea.b0 ea.a1 ea.b1
 obtain ⟨wb,cb,qb⟩:=fc hT eb.a0 eb.b0 eb.a1 eb.b1
 have la:=ca.low hT ea.a0 ea.b0 ea.a1 ea.b1
 have lb:=cb.low hT eb.a0 eb.b0 eb.a1 eb.b1
 obtain ⟨ua,hua⟩:=Up.all hT _ a.one rfl ea.a0 ea.a1
 obtain ⟨ub,hub⟩:=Up.all hT _ a.other rfl ea.b0 ea.b1
 have ha1:=ea.a1; have hb1:=eb.a1
 obtain ⟨um,hum⟩:=Up.all hT _ (cm ps a.one a.other) rfl la.1 (by omega)
 obtain ⟨vm,hvm⟩:=Up.all hT _ (cm ps b.one b.other) rfl lb.1 (by omega)
 have tm:=bd hT ea ta
 have ta':t∈bc wa:=by rw [← qa]; exact ta
 have tb':t∈bc wb:=by rw [← qb]; exact tb
 obtain ⟨x,hx,hxu⟩:∃ x∈aG ps b,∀ u,Up ps t u→x∈u:=by
  by_cases c:t∈aG ps b
  ·exact ⟨t,c,fun u hu=>hu.head⟩
  ·have c':t ∉ eL ps wb (cm ps b.one b.other):=fun z=>c (by unfold aG aq; rw [qb]; exact z)
   obtain ⟨x,h1,h2⟩:=jF hT eb cb tb' c'
   refine ⟨x,by unfold aG aq; rw [qb]; exact h1,fun u hu=>?_⟩
   cases hu with
   | zero=>omega
   | step _ hu=>exact .tail _ (h2 _ hu)
 refine ⟨x,hx,?_⟩
 have hxp:bu ps x=cm ps b.one b.other:=by simpa using (List.mem_filter.mp hx).2
 have hxw:=bd hT eb (List.mem_filter.mp hx).1
 obtain ⟨ux,hux⟩:=Up.all hT _ x rfl (by omega) hxw.2
 have lx:ux.length=vm.length + 1:=by
  cases hux with
  | zero=>omega
  | step _ hu=>rw [hxp] at hu; rw [hu.det hvm]; rfl
 have da:=hE.up _ _ la.1 (by omega) hum
 have db:=hE.up _ _ lb.1 (by omega) hvm
 show x∈kE ps a.one a.other
 rw [qa,l_ hT ea ca hua hub hum]
 refine ⟨?_,fun z=>?_⟩
 ·rcases ((l_ hT ea ca hua hub hum).mp ta').1 with z | z
  ·obtain ⟨u',g1,_,g3⟩:=hua.chain hT ea.a1 z z (Int.le_refl _)
   exact .inl (g3 _ (hxu _ g1))
  ·obtain ⟨u',g1,_,g3⟩:=hub.chain hT ea.b1 z z (Int.le_refl _)
   exact .inr (g3 _ (hxu _ g1))
 ·have:=hux.sub_len hT hum (by omega) z
  omega
theorem qz {ps rs:List Int} {a:Ask} (hT:Tree ps rs) (ea:Ends2 ps a.one a.other):(aG ps a).length=1∨(aG ps a).length=2:=by
 obtain ⟨wa,ca,qa⟩:=fc hT ea.a0 ea.b0 ea.a1 ea.b1
 have h:=qV hT ea ca
 have e:aG ps a=eL ps wa (cm ps a.one a.other):=by unfold aG aq eL; rw [qa]
 rw [← e] at h
 have:=ea.ne
 by_cases h1:a.one=cm ps a.one a.other <;> by_cases h2:a.other=cm ps a.one a.other
 ·exact absurd (h1.trans h2.symm) this
 ·rw [if_pos h1,if_neg h2] at h; exact .inl h
 ·rw [if_neg h1,if_pos h2] at h; exact .inl h
 ·rw [if_neg h1,if_neg h2] at h; exact .inr h
theorem fv {ps rs:List Int} {a:Ask} (hT:Tree ps rs) (ea:Ends2 ps a.one a.other):(aG ps a).Nodup:=(cw hT ea).filter _
theorem iG {l:List Rat} {i j:Nat} {x:Rat} (hi:i<l.length):(l.set i x).getD j 0=if j=i then x else l.getD j 0:=by
 rw [List.getD_eq_getElem?_getD,List.getD_eq_getElem?_getD]
 by_cases h:j=i
 ·subst h; rw [if_pos rfl,List.getElem?_set_self hi]; rfl
 ·rw [if_neg h,List.getElem?_set_ne (Ne.symm h)]
theorem iH (st:Rat):∀ (w:List Int) (y:List Rat),(bb st y w).length=y.length
 | [],_=>rfl
 | t :: w,y=>by
  show (bb st (y.set (t - 1).toNat (y.getD (t - 1).toNat 0 + st)) w).length=_
  rw [iH st w,List.length_set]
theorem j5 {st:Rat} {t:Int} (ht : 0<t):∀ {w:List Int} {y:List Rat},w.Nodup→(∀ x∈w,0<x∧x≤(y.length:Int))→(bb st y w).getD (t - 1).toNat 0=y.getD (t - 1).toNat 0 + if t∈w then st else 0
 | [],y,_,_=>by show _=_ + _; rw [if_neg (by simp),Rat.add_zero]; rfl
 | x :: w,y,hn,hw=>by
  have hx:=hw x (.head _)
  rw [List.nodup_cons] at hn
  show (bb st (y.set (x - 1).toNat (y.getD (x - 1).toNat 0 + st)) w).getD (t - 1).toNat 0=_
  rw [j5 ht hn.2 (fun z hz=>by rw [List.length_set]; exact hw z (.tail _ hz)),iG (by omega)]
  by_cases h:t=x
  ·subst h
   rw [if_pos rfl,if_neg hn.1,if_pos (.head _),Rat.add_zero]
  ·rw [if_neg (by omega)]
   by_cases c:t∈w
   ·rw [if_pos c,if_pos (.tail _ c)]
   ·rw [if_neg c,if_neg (fun z=>by rcases List.mem_cons.mp z with z | z <;> contradiction)]
theorem iQ {st:Rat}:∀ {w:List Int} {y:List Rat},(∀ x∈w,0<x∧x≤(y.length:Int))→(bb st y w).sum=y.sum + (w.length:Rat) * st
 | [],y,_=>by show y.sum=y.sum + ((0:Nat):Rat) * st; rw [show ((0:Nat):Rat)=0 from rfl,Rat.zero_mul,Rat.add_zero]
 | x :: w,y,hw=>by
  have hx:=hw x (.head _)
  show (bb st (y.set (x - 1).toNat (y.getD (x - 1).toNat 0 + st)) w).sum=_
  have hs:∀ {y:List Rat} {i:Nat} (z:Rat),i<y.length→(y.set i z).sum=y.sum + (z - y.getD i 0):=fun {y}=>by
   induction y with
   | nil=>intro i z h; cases h
   | cons a y ih =>
    intro i z h
    cases i with
    | zero=>show (z :: y).sum=(a :: y).sum + (z - a); rw [List.sum_cons,List.sum_cons]; grind
    | succ i =>
     show (a :: y.set i z).sum=(a :: y).sum + (z - y.getD i 0)
     rw [List.sum_cons,List.sum_cons,ih z (by simpa using h)]; grind
  rw [iQ (fun z hz=>by rw [List.length_set]; exact hw z (.tail _ hz)),hs _ (by omega),List.length_cons,show ((w.length + 1:Nat):Rat)=(w.length:Rat) + 1 by rw [Rat.natCast_add]; rfl]
  grind
def gi (w v:List Int):Rat:=((w.filter fun t=>v.contains t).length:Rat)
theorem lQ (w v:List Int) : 0≤gi w v:=Rat.natCast_nonneg
theorem iq {ps rs:List Int} {y:List Rat} {st:Rat} {v:List Int} {a:Ask} (hT:Tree ps rs) (ea:Ends2 ps a.one a.other) (hn:v.Nodup) (hv:∀ x∈v,0<x∧x≤(y.length:Int)) :
 bi ps a (bb st y v)=bi ps a y + gi (aq ps a) v * st:=by
 unfold bi gi
 have hw:∀ t∈aq ps a,0<t:=fun t ht=>(bd hT ea ht).1
 generalize aq ps a=w at hw
 induction w with
 | nil=>show (0:Rat)=0 + ((0:Nat):Rat) * st; rw [show ((0:Nat):Rat)=0 from rfl,Rat.zero_mul,Rat.add_zero]
 | cons t w ih =>
  rw [List.map_cons,List.map_cons,List.sum_cons,List.sum_cons,ih fun x hx=>hw x (.tail _ hx),j5 (hw t (.head _)) hn hv,List.filter_cons]
  by_cases c:t∈v
  ·rw [if_pos c,if_pos (by simpa using c),List.length_cons,show (((w.filter fun t=>v.contains t).length + 1:Nat):Rat)=((w.filter fun t=>v.contains t).length:Rat) + 1 by rw [Rat.natCast_add]; rfl]
   grind
  ·rw [if_neg c,if_neg (by simpa using c)]
   grind
theorem rL {w v:List Int} {x:Int} (h1:x∈v) (h2:x∈w) : 1≤gi w v:=by
 have : 0<(w.filter fun t=>v.contains t).length:=List.length_pos_of_mem (List.mem_filter.mpr ⟨h2,by simpa using h1⟩)
 have h:((1:Nat):Rat)≤((w.filter fun t=>v.contains t).length:Rat):=Rat.natCast_le_natCast.mpr this
 exact h
theorem qT {w v:List Int} (hn:w.Nodup) (hv:v.Nodup) (hs:∀ x∈v,x∈w):gi w v=(v.length:Rat):=by
 unfold gi
 have:(w.filter fun t=>v.contains t).Perm v:=(List.perm_ext_iff_of_nodup (hn.filter _) hv).mpr fun x=>by
  rw [List.mem_filter]
  constructor
  ·rintro ⟨_,h⟩; simpa using h
  ·intro h; exact ⟨hs x h,by simpa using h⟩
 rw [this.length_eq]
inductive Stk (ps:List Int) (as:List Ask) (ts:List (Option (Int×Int))):List Int→List Rat→Rat→Prop
 | nil:Stk ps as ts [] (List.replicate ps.length 0) 0
 | snoc {A:List Int} {y:List Rat} {s:Rat} {k w p:Int} (h:Stk ps as ts A y s) (k0 : 0≤k) (k1:k<(as.length:Int)) (ht:ts.getD k.toNat none=some (w,p)) (hs:aB ps (av as k) w y≠0) :
  Stk ps as ts (A++[k]) (bb (aB ps (av as k) w y / (p:Rat)) y (aG ps (av as k))) (s + aB ps (av as k) w y)
theorem Stk.len {ps:List Int} {as:List Ask} {ts:List (Option (Int×Int))} {A:List Int} {y:List Rat} {s:Rat} (h:Stk ps as ts A y s):y.length=ps.length:=by
 induction h with
 | nil=>exact List.length_replicate
 | snoc h _ _ _ _ ih=>rw [iH,ih]
def wtK (ts:List (Option (Int×Int))) (k:Int):Int:=match ts.getD k.toNat none with
 | some (w,_)=>w
 | none=>0
structure LiftH (ps rs:List Int) (as:List Ask) (ts:List (Option (Int×Int))):Prop where
 ok:∀ k w p,ts.getD k none=some (w,p)→0≤w∧1≤p
 pay:∀ (j:Int) (w p:Int) (K:List Int) (t:Int),0≤j→j<(as.length:Int)→ts.getD j.toNat none=some (w,p)→t∈aq ps (av as j)→(∀ k∈K,0≤k∧k<(as.length:Int)∧(ts.getD k.toNat none).isSome=true) →
  rs.getD (t - 1).toNat 0<(K.map (eE ps as t)).sum + (av as j).size→p≤(K.map fun k=>cnt t (aq ps (av as k)) (wtK ts k)).sum
def jw (ps:List Int) (as:List Ask) (ts:List (Option (Int×Int))) (y:List Rat) (K:List Int):Rat:=(K.map fun k=>((wtK ts k:Int):Rat) * bi ps (av as k) y).sum
structure LastI (ps:List Int) (as:List Ask) (ts:List (Option (Int×Int))) (e A:List Int) (S:KL):Prop where
 ld:∀ j:Nat,j<ps.length→S.load.getD j 0=(S.keep.map (eE ps as ((j:Int) + 1))).sum
 ll:S.load.length=ps.length
 ok:∀ k∈S.keep,0≤k∧k<(as.length:Int)∧(ts.getD k.toNat none).isSome=true
 dp:∀ k∈S.keep,∀ j∈A,e.getD (cm ps (av as k).one (av as k).other).toNat 0≤e.getD (cm ps (av as j).one (av as j).other).toNat 0
theorem gv {f g:Int→Rat}:∀ {K:List Int},(∀ k∈K,f k≤g k)→(K.map f).sum≤(K.map g).sum
 | [],_=>Rat.le_refl
 | k :: K,h=>by
  have:=gv (K:=K) fun x hx=>h x (.tail _ hx)
  have:=h k (.head _)
  rw [List.map_cons,List.map_cons,List.sum_cons,List.sum_cons]; grind
theorem kh (f g:Int→Rat):∀ K:List Int,(K.map fun k=>f k + g k).sum=(K.map f).sum + (K.map g).sum
 | []=>(Rat.add_zero 0).symm
 | k :: K=>by rw [List.map_cons,List.map_cons,List.map_cons,List.sum_cons,List.sum_cons,List.sum_cons,kh f g K]; grind
theorem kJ (c:Rat) (f:Int→Rat):∀ K:List Int,(K.map fun k=>f k * c).sum=(K.map f).sum * c
 | []=>(Rat.zero_mul c).symm
 | k :: K=>by rw [List.map_cons,List.map_cons,List.sum_cons,List.sum_cons,kJ c f K,Rat.add_mul]
theorem jZ {ps:List Int} {a:Ask} {w:Int} {y:List Rat} (h:aB ps a w y≠0) : 0<aB ps a w y∧aB ps a w y=(a.worth:Rat) - (w:Rat) * bi ps a y:=by
 unfold aB c_ at h ⊢
 split at h
 ·rename_i c; rw [if_pos c]; exact ⟨c,rfl⟩
 ·exact absurd rfl h
theorem Stk.lift {ps rs e:List Int} {as:List Ask} {ts:List (Option (Int×Int))} (hT:Tree ps rs) (ha:AsksOk ps as) (hE:DepOk ps e ps.length) (hL:LiftH ps rs as ts) {A:List Int} {y:List Rat} {s:Rat} (h:Stk ps as ts A y s) :
 ∀ S:KL,LastI ps as ts e A S→A.Pairwise (fun i j=>e.getD (cm ps (av as j).one (av as j).other).toNat 0≤e.getD (cm ps (av as i).one (av as i).other).toNat 0) →
  bQ (fun a=>(a.worth:Rat)) as S.keep + s≤bQ (fun a=>(a.worth:Rat)) as (A.reverse.foldl (eM ps rs as) S).keep + jw ps as ts y S.keep:=by
 induction h with
 | nil =>
  intro S hI _
  show _ + (0:Rat)≤bQ _ as S.keep + _
  have : 0≤jw ps as ts (List.replicate ps.length 0) S.keep:=gI fun x hx=>by
   obtain ⟨k,hk,rfl⟩:=List.mem_map.mp hx
   have h0 : 0≤bi ps (av as k) (List.replicate ps.length 0):=gI fun z hz=>by
    obtain ⟨t,_,rfl⟩:=List.mem_map.mp hz
    rw [dc]; decide
   obtain ⟨_,_,k2⟩:=hI.ok k hk
   refine Rat.mul_nonneg (Rat.intCast_nonneg.mpr ?_) h0
   unfold wtK
   split
   ·rename_i w p q; exact (hL.ok _ _ _ q).1
   ·omega
  grind
 | @snoc A y s j w p h k0 k1 ht hs ih =>
  intro S hI hA
  have hl:=h.len
  have hok:=bY ha k0 k1
  obtain ⟨hw0,hp1⟩:=hL.ok _ _ _ ht
  obtain ⟨r0,re⟩:=jZ hs
  generalize hr:aB ps (av as j) w y=r at r0 re hs
  have hpq:(1:Rat)≤(p:Rat):=Rat.intCast_le_intCast.mpr hp1
  have hst0 : 0≤r / (p:Rat):=(gb (Rat.le_of_lt r0) Rat.le_refl hp1).1
  have est:=Rat.div_mul_cancel (a:=r) (b:=(p:Rat)) (by grind)
  generalize hst:r / (p:Rat)=st at hst0 est
  rw [List.pairwise_append] at hA
  obtain ⟨hA1,_,hA2⟩:=hA
  have tp:=fY hT hok.ends
  have hrp:jw ps as ts (bb st y (aG ps (av as j))) S.keep=jw ps as ts y S.keep + (S.keep.map fun k=>((wtK ts k:Int):Rat) * gi (aq ps (av as k)) (aG ps (av as j))).sum * st:=by
   unfold jw
   rw [← kJ,← kh]
   refine congrArg List.sum (List.map_congr_left fun k hk=>?_)
   obtain ⟨a0,a1,_⟩:=hI.ok k hk
   rw [iq hT (bY ha a0 a1).ends (fv hT hok.ends) (fun x hx=>by rw [hl]; exact tp.1 x hx)]
   grind
  have hc0 : 0≤(S.keep.map fun k=>((wtK ts k:Int):Rat) * gi (aq ps (av as k)) (aG ps (av as j))).sum:=gI fun x hx=>by
   obtain ⟨k,hk,rfl⟩:=List.mem_map.mp hx
   refine Rat.mul_nonneg (Rat.intCast_nonneg.mpr ?_) (lQ _ _)
   unfold wtK
   split
   ·rename_i w p q; exact (hL.ok _ _ _ q).1
   ·omega
  rw [List.reverse_append,List.reverse_singleton,List.singleton_append,List.foldl_cons,hrp]
  generalize hcc:(S.keep.map fun k=>((wtK ts k:Int):Rat) * gi (aq ps (av as k)) (aG ps (av as j))).sum=cc at hc0
  by_cases ho:gD rs (av as j).size (aq ps (av as j)) S.load=[]
  ·have eS:eM ps rs as S j=⟨bG S.load (aq ps (av as j)) (av as j).size,S.keep++[j]⟩:=by unfold eM; rw [if_pos ho]
   rw [eS]
   have hI':LastI ps as ts e A ⟨bG S.load (aq ps (av as j)) (av as j).size,S.keep++[j]⟩:=by
    refine ⟨fun i hi=>?_,by rw [bJ]; exact hI.ll,fun k hk=>?_,fun k hk i hi=>?_⟩
    ·show (bG S.load (aq ps (av as j)) (av as j).size).getD i 0=_
     have ew:(bG S.load (aq ps (av as j)) (av as j).size).getD i 0=S.load.getD i 0 + cnt ((i:Int) + 1) (aq ps (av as j)) (av as j).size:=ev (cw hT hok.ends) fun x hx=>by rw [hI.ll]; exact bd hT hok.ends hx
     show _=((S.keep++[j]).map (eE ps as ((i:Int) + 1))).sum
     rw [ew,hI.ld i hi,List.map_append,List.sum_append]
     simp only [List.map_cons,List.map_nil,List.sum_cons,List.sum_nil,Int.add_zero]
     rfl
    ·rcases List.mem_append.mp hk with z | z
     ·exact hI.ok k z
     ·rw [List.mem_singleton.mp z]; exact ⟨k0,k1,by rw [ht]; rfl⟩
    ·rcases List.mem_append.mp hk with z | z
     ·exact hI.dp k z i (List.mem_append.mpr (.inl hi))
     ·rw [List.mem_singleton.mp z]; exact hA2 i hi j (List.mem_singleton.mpr rfl)
   have q:=ih _ hI' hA1
   have e1:bQ (fun a=>(a.worth:Rat)) as (S.keep++[j])=bQ (fun a=>(a.worth:Rat)) as S.keep + ((av as j).worth:Rat):=by
    unfold bQ; rw [List.map_append,List.sum_append,List.map_cons,List.map_nil,List.sum_cons,List.sum_nil,Rat.add_zero]; rfl
   have e2:jw ps as ts y (S.keep++[j])=jw ps as ts y S.keep + (w:Rat) * bi ps (av as j) y:=by
    unfold jw
    rw [List.map_append,List.sum_append,List.map_cons,List.map_nil,List.sum_cons,List.sum_nil,Rat.add_zero]
    unfold wtK; rw [ht]
   rw [e1,e2] at q
   have hp : 0≤cc * st:=Rat.mul_nonneg hc0 hst0
   grind
  ·have eS:eM ps rs as S j=S:=by unfold eM; rw [if_neg ho]
   rw [eS]
   have q:=ih S ⟨hI.ld,hI.ll,hI.ok,fun k hk i hi=>hI.dp k hk i (List.mem_append.mpr (.inl hi))⟩ hA1
   obtain ⟨t,htm⟩:=List.exists_mem_of_ne_nil _ ho
   obtain ⟨t1,t2⟩:=List.mem_filter.mp htm
   have t2:=of_decide_eq_true t2
   have tw:=bd hT hok.ends t1
   rw [hI.ld (t - 1).toNat (by omega),show (((t - 1).toNat:Nat):Int) + 1=t by omega] at t2
   have hpay:=hL.pay j w p S.keep t k0 k1 ht t1 hI.ok t2
   have h2:((S.keep.map fun k=>cnt t (aq ps (av as k)) (wtK ts k)).sum:Rat)≤cc:=by
    rw [← hcc,kb]
    refine gv fun k hk=>?_
    obtain ⟨a0,a1,a2⟩:=hI.ok k hk
    have hwk : 0≤wtK ts k:=by
     unfold wtK
     split
     ·rename_i w p q; exact (hL.ok _ _ _ q).1
     ·omega
    have hwk':(0:Rat)≤((wtK ts k:Int):Rat):=Rat.intCast_nonneg.mpr hwk
    unfold cnt
    split
    ·rename_i c
     have c:t∈aq ps (av as k):=by simpa using c
     obtain ⟨x,x1,x2⟩:=wU hT hE (bY ha a0 a1).ends hok.ends c t1 (hI.dp k hk j (List.mem_append.mpr (.inr (List.mem_singleton.mpr rfl))))
     have:=rL x1 x2
     have h3:((wtK ts k:Int):Rat) * 1≤((wtK ts k:Int):Rat) * gi (aq ps (av as k)) (aG ps (av as j)):=Rat.mul_le_mul_of_nonneg_left this hwk'
     grind
    ·exact Rat.mul_nonneg hwk' (lQ _ _)
   have h3:((p:Int):Rat)≤cc:=Rat.le_trans (Rat.intCast_le_intCast.mpr hpay) h2
   have h4:(p:Rat) * st≤cc * st:=Rat.mul_le_mul_of_nonneg_right h3 hst0
   grind
def spT (ps:List Int) (as:List Ask) (ts:List (Option (Int×Int))) (y:List Rat) (k:Int):Rat:=match ts.getD k.toNat none with
 | some (w,_)=>aB ps (av as k) w y
 | none=>0
structure CostH (ts:List (Option (Int×Int))) (Rm C:Rat):Prop where
 ok:∀ k w p,ts.getD k none=some (w,p)→0≤w∧1≤p
 co:∀ k w p,ts.getD k none=some (w,p)→∀ x n:Rat,0≤x→n=1∨n=2→c_ (x - (w:Rat) * (n * (x / (p:Rat)))) + Rm * (n * (x / (p:Rat)))≤C * x
structure PileJ (ps:List Int) (as:List Ask) (ts:List (Option (Int×Int))) (Rm C:Rat) (o:List Int) (S:Pil):Prop where
 st:Stk ps as ts S.pile S.prs S.rests.sum
 sub:S.pile.Sublist o
 tm:∀ k∈S.pile,(ts.getD k.toNat none).isSome=true
 zero:∀ k:Int,0≤k→k ∉ o→S.rests.getD k.toNat 0=0
 rl:S.rests.length=as.length
 cost:(o.map (spT ps as ts S.prs)).sum + Rm * S.prs.sum≤C * S.rests.sum
theorem vv {ps:List Int} {as:List Ask} {ts:List (Option (Int×Int))} {Rm C:Rat}:PileJ ps as ts Rm C [] ⟨[],List.replicate ps.length 0,List.replicate as.length 0⟩:=by
 have hz:∀ n:Nat,(List.replicate n (0:Rat)).sum=0:=fun n=>by
  induction n with
  | zero=>rfl
  | succ n ih=>rw [List.replicate_succ,List.sum_cons,ih,Rat.add_zero]
 refine ⟨?_,.slnil,fun _ h=>(by cases h),fun k _ _=>dc _ _ _,List.length_replicate,?_⟩
 ·show Stk ps as ts [] (List.replicate ps.length 0) (List.replicate as.length (0:Rat)).sum
  rw [hz]; exact .nil
 ·show (0:Rat) + Rm * (List.replicate ps.length (0:Rat)).sum≤C * (List.replicate as.length (0:Rat)).sum
  rw [hz,hz]; grind
theorem nK {x y:Rat} (h:x≤y):c_ x≤c_ y:=by unfold c_; split <;> split <;> grind
theorem ir:∀ {y:List Rat} {i:Nat} (z:Rat),i<y.length→(y.set i z).sum=y.sum + (z - y.getD i 0)
 | [],_,_,h=>by cases h
 | a :: y,0,z,_=>by show (z :: y).sum=(a :: y).sum + (z - a); rw [List.sum_cons,List.sum_cons]; grind
 | a :: y,i + 1,z,h=>by
  show (a :: y.set i z).sum=(a :: y).sum + (z - y.getD i 0)
  rw [List.sum_cons,List.sum_cons,ir z (by simpa using h)]; grind
theorem PileJ.step {ps rs:List Int} {as:List Ask} {ts:List (Option (Int×Int))} {Rm C:Rat} {o:List Int} {S:Pil} {k:Int} (hT:Tree ps rs) (ha:AsksOk ps as) (hC:CostH ts Rm C) (h:PileJ ps as ts Rm C o S) (k0 : 0≤k) (k1:k<(as.length:Int)) (hk:k ∉ o) (ho:∀ z∈o,0≤z∧z<(as.length:Int)) :
 PileJ ps as ts Rm C (o++[k]) (dE ps as ts S k):=by
 have hmap:∀ f:Int→Rat,((o++[k]).map f).sum=(o.map f).sum + f k:=fun f=>by rw [List.map_append,List.sum_append,List.map_cons,List.map_nil,List.sum_cons,List.sum_nil,Rat.add_zero]
 have hnm:∀ z:Int,z ∉ o++[k]→z ∉ o∧z≠k:=fun z hz=>⟨fun q=>hz (List.mem_append.mpr (.inl q)),fun q=>hz (List.mem_append.mpr (.inr (List.mem_singleton.mpr q)))⟩
 cases e:ts.getD k.toNat none with
 | none =>
  have e1:dE ps as ts S k=S:=by unfold dE; rw [e]
  rw [e1]
  refine ⟨h.st,h.sub.trans (List.sublist_append_left _ _),h.tm,fun z z0 hz=>h.zero z z0 (hnm z hz).1,h.rl,?_⟩
  rw [hmap]
  have:spT ps as ts S.prs k=0:=by unfold spT; rw [e]
  rw [this,Rat.add_zero]; exact h.cost
 | some wp =>
  obtain ⟨w,p⟩:=wp
  have e1:dE ps as ts S k=fu ps as S k w p:=by unfold dE; rw [e]
  rw [e1]
  obtain ⟨w0,p1⟩:=hC.ok _ _ _ e
  have hok:=bY ha k0 k1
  have esp:∀ y,spT ps as ts y k=aB ps (av as k) w y:=fun y=>by unfold spT; rw [e]
  have hz:=h.zero k k0 hk
  have hkl:k.toNat<S.rests.length:=by rw [h.rl]; omega
  have hs0:∀ (x:Rat) (z:Int),0≤z→z ∉ o++[k]→(S.rests.set k.toNat x).getD z.toNat 0=0:=fun x z z0 hzm=>by
   rw [iG hkl,if_neg (by have:=(hnm z hzm).2; omega)]
   exact h.zero z z0 (hnm z hzm).1
  unfold fu
  by_cases c:aB ps (av as k) w S.prs=0
  ·rw [if_pos c,c]
   have es:(S.rests.set k.toNat 0).sum=S.rests.sum:=by rw [ir _ hkl,hz]; grind
   refine ⟨by show Stk ps as ts S.pile S.prs (S.rests.set k.toNat 0).sum; rw [es]; exact h.st,h.sub.trans (List.sublist_append_left _ _),h.tm,hs0 0,by rw [List.length_set]; exact h.rl,?_⟩
   show _ + Rm * S.prs.sum≤C * (S.rests.set k.toNat 0).sum
   rw [es,hmap,esp,c,Rat.add_zero]; exact h.cost
  ·rw [if_neg c]
   obtain ⟨r0,re⟩:=jZ c
   have hst:=h.st
   have hl:=hst.len
   have tp:=fY hT hok.ends
   have hsn:=Stk.snoc hst k0 k1 e c
   have es:(S.rests.set k.toNat (aB ps (av as k) w S.prs)).sum=S.rests.sum + aB ps (av as k) w S.prs:=by rw [ir _ hkl,hz]; grind
   refine ⟨by show Stk ps as ts (S.pile++[k]) _ (S.rests.set k.toNat _).sum; rw [es]; exact hsn,List.Sublist.append h.sub (List.Sublist.refl _),fun z hz=>?_,hs0 _,by rw [List.length_set]; exact h.rl,?_⟩
   ·rcases List.mem_append.mp hz with q | q
    ·exact h.tm z q
    ·rw [List.mem_singleton.mp q,e]; rfl
   ·show ((o++[k]).map (spT ps as ts (bb _ S.prs _))).sum + Rm * (bb _ S.prs _).sum≤C * (S.rests.set k.toNat _).sum
    rw [es,hmap,esp]
    have hrp:∀ z:Int,0≤z→z<(as.length:Int)→bi ps (av as z) (bb (aB ps (av as k) w S.prs / (p:Rat)) S.prs (aG ps (av as k)))=bi ps (av as z) S.prs + gi (aq ps (av as z)) (aG ps (av as k)) * (aB ps (av as k) w S.prs / (p:Rat)):=fun z z0 z1 =>
     iq hT (bY ha z0 z1).ends (fv hT hok.ends) fun x hx=>by rw [hl]; exact tp.1 x hx
    have hco:=hC.co _ _ _ e (aB ps (av as k) w S.prs) ((aG ps (av as k)).length:Rat) (Rat.le_of_lt r0) (by
     rcases qz hT hok.ends with q | q
     ·rw [q]; exact .inl rfl
     ·rw [q]; exact .inr rfl)
    have hstp : 0≤aB ps (av as k) w S.prs / (p:Rat):=(gb (Rat.le_of_lt r0) Rat.le_refl p1).1
    have hown:aB ps (av as k) w (bb (aB ps (av as k) w S.prs / (p:Rat)) S.prs (aG ps (av as k)))=c_ (aB ps (av as k) w S.prs - (w:Rat) * (((aG ps (av as k)).length:Rat) * (aB ps (av as k) w S.prs / (p:Rat)))):=by
     show c_ (((av as k).worth:Rat) - (w:Rat) * bi ps (av as k) (bb (aB ps (av as k) w S.prs / (p:Rat)) S.prs (aG ps (av as k))))=_
     have ecs:gi (aq ps (av as k)) (aG ps (av as k))=((aG ps (av as k)).length:Rat):=qT (cw hT hok.ends) (fv hT hok.ends) fun x hx=>(List.mem_filter.mp hx).1
     rw [hrp k k0 k1,ecs]
     refine congrArg c_ ?_
     rw [Rat.mul_add]
     generalize (w:Rat) * (((aG ps (av as k)).length:Rat) * (aB ps (av as k) w S.prs / (p:Rat)))=u
     rw [re]; grind
    have hmon:(o.map (spT ps as ts (bb (aB ps (av as k) w S.prs / (p:Rat)) S.prs (aG ps (av as k))))).sum≤(o.map (spT ps as ts S.prs)).sum:=gv fun z hz=>by
     have zb:=ho z hz
     unfold spT
     split
     ·rename_i w2 p2 e2
      have w20:(0:Rat)≤(w2:Rat):=Rat.intCast_nonneg.mpr (hC.ok _ _ _ e2).1
      unfold aB
      refine nK ?_
      have h1:=hrp z zb.1 zb.2
      unfold aB at h1
      rw [h1]
      have hstp':=hstp
      unfold aB at hstp'
      have h2 : 0≤gi (aq ps (av as z)) (aG ps (av as k)) * (c_ ((av as k).worth - (w:Rat) * bi ps (av as k) S.prs) / (p:Rat)):=Rat.mul_nonneg (lQ _ _) hstp'
      have h3:=Rat.mul_nonneg w20 h2
      rw [Rat.mul_add]; grind
     ·exact Rat.le_refl
    rw [hown,iQ (fun x hx=>by rw [hl]; exact tp.1 x hx)]
    have:=h.cost
    generalize aB ps (av as k) w S.prs / (p:Rat)=st at *
    grind
theorem t4 {ps rs:List Int} {as:List Ask} {ts:List (Option (Int×Int))} {Rm C:Rat} {o:List Int} (hT:Tree ps rs) (ha:AsksOk ps as) (hC:CostH ts Rm C) (ho:∀ z∈o,0≤z∧z<(as.length:Int)) (hn:o.Nodup):∀ i:Nat,i≤o.length→PileJ ps as ts Rm C (o.take i) (bB ps as ts (o.take i))
 | 0,_=>vv
 | i + 1,h=>by
  have hi:i<o.length:=h
  have e:o.take (i + 1)=o.take i++[o[i]]:=(List.take_append_getElem hi).symm
  rw [e,fz]
  have hm:=ho _ (List.getElem_mem hi)
  refine (t4 hT ha hC ho hn i (Nat.le_of_lt hi)).step hT ha hC hm.1 hm.2 (fun z=>?_) fun z hz=>ho z (List.mem_of_mem_take hz)
  have hn2:(o.take i++[o[i]]).Nodup:=by rw [← e]; exact hn.sublist (List.take_sublist _ _)
  exact (List.nodup_append.mp hn2).2.2 _ z _ (List.mem_singleton.mpr rfl) rfl
structure LastF (ps rs:List Int) (as:List Ask) (q:List Int) (S:KL):Prop where
 ll:S.load.length=ps.length
 ld:∀ j:Nat,j<ps.length→S.load.getD j 0=(S.keep.map (eE ps as ((j:Int) + 1))).sum
 ft:∀ j:Nat,j<ps.length→S.load.getD j 0≤rs.getD j 0
 sub:S.keep.Sublist q
theorem tT {ps rs:List Int} {as:List Ask} {q:List Int} (hT:Tree ps rs) (ha:AsksOk ps as) (hq:∀ z∈q,0≤z∧z<(as.length:Int)):∀ i:Nat,i≤q.length→LastF ps rs as (q.take i) (bL ps rs as (q.take i))
 | 0,_=>by
  refine ⟨List.length_replicate,fun j _=>dc _ _ _,fun j hj=>?_,.slnil⟩
  show (List.replicate ps.length 0).getD j 0≤_
  rw [dc]
  have hl:=hT.len
  have:=hT.room j (rs.getD j 0) (by rw [List.getD_eq_getElem?_getD,List.getElem?_eq_getElem (show j<rs.length by omega)]; rfl)
  omega
 | i + 1,h=>by
  have hi:i<q.length:=h
  have e:q.take (i + 1)=q.take i++[q[i]]:=(List.take_append_getElem hi).symm
  have ih:=tT hT ha hq i (Nat.le_of_lt hi)
  have hm:=hq _ (List.getElem_mem hi)
  rw [e,fA]
  generalize bL ps rs as (q.take i)=S at ih ⊢
  generalize q[i]=k at hm
  have hok:=bY ha hm.1 hm.2
  unfold eM
  split
  ·rename_i c
   have ew:∀ j:Nat,(bG S.load (aq ps (av as k)) (av as k).size).getD j 0=S.load.getD j 0 + cnt ((j:Int) + 1) (aq ps (av as k)) (av as k).size:=fun j=>ev (cw hT hok.ends) fun x hx=>by rw [ih.ll]; exact bd hT hok.ends hx
   refine ⟨by rw [bJ]; exact ih.ll,fun j hj=>?_,fun j hj=>?_,List.Sublist.append ih.sub (List.Sublist.refl _)⟩
   ·show (bG S.load _ _).getD j 0=((S.keep++[k]).map (eE ps as ((j:Int) + 1))).sum
    rw [ew,ih.ld j hj,List.map_append,List.sum_append]
    simp only [List.map_cons,List.map_nil,List.sum_cons,List.sum_nil,Int.add_zero]
    rfl
   ·show (bG S.load _ _).getD j 0≤_
    rw [ew]
    have:=ih.ft j hj
    unfold cnt
    split
    ·rename_i hm2
     have hm2:(j:Int) + 1∈aq ps (av as k):=by simpa using hm2
     have:=(List.filter_eq_nil_iff.mp c) _ hm2
     rw [show ((j:Int) + 1 - 1).toNat=j by omega] at this
     have : ¬ rs.getD j 0<S.load.getD j 0 + (av as k).size:=by simpa using this
     omega
    ·omega
  ·exact ⟨ih.ll,ih.ld,ih.ft,ih.sub.trans (List.sublist_append_left _ _)⟩
theorem rN {ks:List Int} (h:ks.Nodup):(bc ks).Pairwise (· < ·):=by
 have h1:=cV ks
 have h2:(bc ks).Pairwise (·≠·):=(aZ ks).nodup_iff.mpr h
 exact (List.pairwise_and_iff.mpr ⟨h1,h2⟩).imp fun ⟨a,b⟩=>by omega
structure KeptOk (ps rs:List Int) (as:List Ask) (ks:List Int):Prop where
 k:KeepOk as.length ks
 ft:∀ j:Nat,j<ps.length→(bN ps as ks).getD j 0≤rs.getD j 0
theorem sP {ps rs:List Int} {as:List Ask} {q:List Int} (hT:Tree ps rs) (ha:AsksOk ps as) (hq:∀ z∈q,0≤z∧z<(as.length:Int)) (hn:q.Nodup):KeptOk ps rs as (bc (bL ps rs as q).keep)∧(bL ps rs as q).keep.Sublist q:=by
 have h:=tT hT ha hq q.length (Nat.le_refl _)
 rw [List.take_length] at h
 have hb:∀ z∈(bL ps rs as q).keep,0≤z∧z<(as.length:Int):=fun z hz=>hq z (h.sub.subset hz)
 refine ⟨⟨⟨rN (hn.sublist h.sub),fun k hk=>hb k ((aZ _).mem_iff.mp hk)⟩,fun j hj=>?_⟩,h.sub⟩
 rw [ly hT ha (aZ _) hb,ic hT ha hj _ hb,← h.ld j hj]
 exact h.ft j hj
theorem KeptOk.first {ps rs:List Int} {as:List Ask} {ks:List Int} (h:KeptOk ps rs as ks):fD (bN ps as ks) rs = .non:=by
 have:gX (bN ps as ks) rs=[]:=by
  unfold gX
  rw [List.filter_eq_nil_iff.mpr fun j hj=>?_,List.map_nil]
  have:=List.mem_range.mp hj
  rw [dh] at this
  have:=h.ft j this
  intro z
  have:=of_decide_eq_true z
  omega
 unfold fD; rw [this]
theorem eF.ord {ps o:List Int} {as:List Ask} (h:eF ps as o):o.Nodup∧o.Perm ((List.range as.length).map fun (i:Nat)=>(i:Int))∧∃ e,DepOk ps e ps.length∧o.Pairwise (fun i j=>e.getD (cm ps (av as j).one (av as j).other).toNat 0≤e.getD (cm ps (av as i).one (av as i).other).toNat 0):=by
 have hm:=h.mem.2
 obtain ⟨e,h1,h2⟩:=h
 have hr:((List.range as.length).map fun (i:Nat)=>(i:Int)).Nodup:=List.Pairwise.map _ (fun a b h e=>h (Int.ofNat.inj e)) List.nodup_range
 refine ⟨h2.perm.nodup_iff.mpr hr,h2.perm,e,h1,?_⟩
 have key:∀ k:Int,0≤k→k<(as.length:Int)→(jG ps e as).getD k.toNat 0=e.getD (cm ps (av as k).one (av as k).other).toNat 0:=fun k k0 k1=>by
  unfold jG av
  rw [List.getD_eq_getElem?_getD,List.getElem?_map,List.getD_eq_getElem?_getD (l:=as),List.getElem?_eq_getElem (show k.toNat<as.length by omega)]; rfl
 refine List.Pairwise.imp_of_mem (fun {a b} ha hb hab=>?_) h2.ord
 have a1:=hm a ha; have b1:=hm b hb
 have hab : -((jG ps e as).getD a.toNat 0)≤-((jG ps e as).getD b.toNat 0):=hab
 rw [key a a1.1 a1.2,key b b1.1 b1.2] at hab
 omega
theorem sH {o:List Int} {n:Nat} (f:Int→Rat) (h:o.Perm ((List.range n).map fun (i:Nat)=>(i:Int))):(o.map f).sum=((List.range n).map fun (i:Nat)=>f (i:Int)).sum:=by
 rw [i3 (h.map f),List.map_map]; rfl
structure PileR (ps rs:List Int) (as:List Ask) (ts:List (Option (Int×Int))) (Rm C:Rat) (S:Pil):Prop where
 keep:KeptOk ps rs as (bc (bL ps rs as S.pile.reverse).keep)
 tm:∀ k∈bc (bL ps rs as S.pile.reverse).keep,(ts.getD k.toNat none).isSome=true
 worth:S.rests.sum≤((bW as (bc (bL ps rs as S.pile.reverse).keep):Int):Rat)
 cost:((List.range as.length).map fun (i:Nat)=>spT ps as ts S.prs (i:Int)).sum + Rm * S.prs.sum≤C * S.rests.sum
theorem qY {ps rs:List Int} {as:List Ask} {ts:List (Option (Int×Int))} {Rm C:Rat} {o:List Int} (hT:Tree ps rs) (ha:AsksOk ps as) (hL:LiftH ps rs as ts) (hC:CostH ts Rm C) (ho:eF ps as o):PileR ps rs as ts Rm C (bB ps as ts o):=by
 have hm:=ho.mem.2
 obtain ⟨h1,h2,e,h3,h4⟩:=ho.ord
 have hJ:=t4 hT ha hC hm h1 o.length (Nat.le_refl _)
 rw [List.take_length] at hJ
 have hq:∀ z∈(bB ps as ts o).pile.reverse,0≤z∧z<(as.length:Int):=fun z hz=>hm z (hJ.sub.subset (List.mem_reverse.mp hz))
 have hk:=sP hT ha hq ((List.reverse_perm _).nodup_iff.mpr (h1.sublist hJ.sub))
 refine ⟨hk.1,fun k hk'=>hJ.tm k (List.mem_reverse.mp (hk.2.subset ((aZ _).mem_iff.mp hk'))),?_,by rw [← sH _ h2]; exact hJ.cost⟩
 have hl:=hJ.st.lift hT ha h3 hL ⟨List.replicate ps.length 0,[]⟩ ⟨fun j _=>dc _ _ _,List.length_replicate,fun k h=>(by cases h),fun k h=>(by cases h)⟩ (h4.sublist hJ.sub)
 have ew:((bW as (bc (bL ps rs as (bB ps as ts o).pile.reverse).keep):Int):Rat)=bQ (fun a=>(a.worth:Rat)) as (bL ps rs as (bB ps as ts o).pile.reverse).keep:=by
  rw [← nj (aZ _)]; exact gy as _
 rw [ew]
 have e0:bQ (fun a=>(a.worth:Rat)) as ([]:List Int)=0:=rfl
 have e1:jw ps as ts (bB ps as ts o).prs []=0:=rfl
 simp only [e0,e1,Rat.zero_add,Rat.add_zero] at hl
 exact hl
theorem kK {α:Type} (d : α):∀ (l:List α) (off:Int) (ks:List Int),ks.Pairwise (· < ·)→(∀ k∈ks,off≤k∧k<off + (l.length:Int))→(ks.map fun k=>l.getD (k - off).toNat d).Sublist l
 | [],off,ks,_,h=>by
  cases ks with
  | nil=>exact .slnil
  | cons k ks=>have:=h k (.head _); simp at this; omega
 | a :: l,off,ks,hp,h=>by
  have key:∀ ks:List Int,ks.Pairwise (· < ·)→(∀ k∈ks,off + 1≤k∧k<off + ((a :: l).length:Int))→(ks.map fun k=>(a :: l).getD (k - off).toNat d).Sublist l:=fun ks hp h=>by
   have:=kK d l (off + 1) ks hp fun k hk=>by have:=h k hk; rw [List.length_cons] at this; omega
   refine Eq.subst (motive:=fun z=>z.Sublist l) (List.map_congr_left fun k hk=>?_) this
   have:=h k hk
   rw [show (k - off).toNat=(k - (off + 1)).toNat + 1 by omega]; rfl
  cases ks with
  | nil=>exact List.nil_sublist _
  | cons k ks =>
   rw [List.pairwise_cons] at hp
   have hk:=h k (.head _)
   by_cases e:k=off
   ·rw [List.map_cons,show (k - off).toNat=0 by omega]
    exact (key ks hp.2 fun x hx=>by have:=hp.1 x hx; have:=h x (.tail _ hx); omega).cons_cons a
   ·refine (key (k :: ks) (List.pairwise_cons.mpr hp) fun x hx=>?_).cons a
    have:=h x hx
    rcases List.mem_cons.mp hx with q | q
    ·subst q; omega
    ·have:=hp.1 x q; omega
theorem KeepOk.asks {as:List Ask} {ks:List Int} (h:KeepOk as.length ks):(ks.map (av as)).Sublist as:=by
 have:=kK aS as 0 ks h.up fun k hk=>by have:=h.lo k hk; omega
 refine Eq.subst (motive:=fun z=>z.Sublist as) (List.map_congr_left fun k _=>?_) this
 unfold av; rw [Int.sub_zero]
theorem KeptOk.fit {ps rs:List Int} {as:List Ask} {ks:List Int} (hT:Tree ps rs) (ha:AsksOk ps as) (h:KeptOk ps rs as ks):nE ps rs (ks.map (av as)):=fun j hj=>by
 have:=h.ft j hj
 rw [ic hT ha hj ks h.k.lo] at this
 rw [List.map_map]; exact this
structure BestT (ps rs:List Int) (as:List Ask) (b:Int):Prop where
 ex:BestB ps rs as b
 all:∀ bs:List Ask,bs.Sublist as→nE ps rs bs→(bs.map (·.worth)).sum≤b
structure CovE (ps rs:List Int) (as:List Ask) (i:Nat) (es:List (List Int×Int)) (b:Int):Prop where
 all:∀ bs:List Ask,bs.Sublist (as.take i)→nE ps rs bs→(bs.map (·.worth)).sum≤b∧∃ e∈es,e.2=(bs.map (·.worth)).sum∧e.1.length=ps.length∧∀ j:Nat,j<ps.length→e.1.getD j 0=rs.getD j 0 - (bs.map (dg ps (·.size) j)).sum
theorem cov0 {ps rs:List Int} (hT:Tree ps rs) (as:List Ask):CovE ps rs as 0 [(rs,0)] 0:=⟨fun bs hs _=>by
 rw [List.take_zero,List.sublist_nil] at hs
 subst hs
 exact ⟨Int.le_refl _,_,.head _,rfl,hT.len.symm,fun j _=>by show rs.getD j 0=rs.getD j 0 - 0; omega⟩⟩
theorem CovE.step {ps rs:List Int} {as:List Ask} {i:Nat} {es ms:List (List Int×Int)} {b b':Int} (hT:Tree ps rs) (ha:AsksOk ps as) (hi:i<as.length) (h:CovE ps rs as i es b) (hb:b≤b')
 (hm:∀ e∈es,fk (aq ps (as.getD i aS)) e.1 (as.getD i aS).size=[]→(bG e.1 (aq ps (as.getD i aS)) (-(as.getD i aS).size),e.2 + (as.getD i aS).worth)∈ms∧e.2 + (as.getD i aS).worth≤b'):CovE ps rs as (i + 1) (es++ms) b':=by
 have hok:=ha.ok _ (cB (as:=as) (k:=i) hi)
 have et:as.take (i + 1)=as.take i++[as.getD i aS]:=by
  rw [List.take_add_one,List.getD_eq_getElem?_getD,List.getElem?_eq_getElem hi]; rfl
 refine ⟨fun bs hs hf=>?_⟩
 rw [et,List.sublist_append_iff] at hs
 obtain ⟨l1,l2,rfl,h1,h2⟩:=hs
 have hl2:l2=[]∨l2=[as.getD i aS]:=by
  cases h2 with
  | cons _ h=>exact .inl (List.sublist_nil.mp h)
  | cons_cons _ h=>rw [List.sublist_nil.mp h]; exact .inr rfl
 rcases hl2 with rfl | rfl
 ·rw [List.append_nil] at hf ⊢
  obtain ⟨g1,e,g2,g3⟩:=h.all l1 h1 hf
  exact ⟨by omega,e,List.mem_append.mpr (.inl g2),g3⟩
 ·generalize as.getD i aS=a at *
  have hsum:∀ j:Nat,((l1++[a]).map (dg ps (·.size) j)).sum=(l1.map (dg ps (·.size) j)).sum + dg ps (·.size) j a:=fun j=>by rw [List.map_append,List.sum_append]; simp
  have s0:=hok.s0
  have hf1:nE ps rs l1:=fun j hj=>by
   have:=hf j hj
   rw [hsum] at this
   have:=sv (ps:=ps) (s:=(·.size)) (j:=j) (b:=a) (show 0≤a.size by omega)
   omega
  obtain ⟨g1,e,g2,g3,g4,g5⟩:=h.all l1 h1 hf1
  have hfit:fk (aq ps a) e.1 a.size=[]:=by
   unfold fk
   rw [List.filter_eq_nil_iff]
   intro t ht z
   have z:=of_decide_eq_true z
   have tw:=bd hT hok.ends ht
   have q1:=g5 (t - 1).toNat (by omega)
   have q2:=hf (t - 1).toNat (by omega)
   rw [hsum] at q2
   have q3:dg ps (·.size) (t - 1).toNat a=a.size:=by
    unfold dg cnt
    rw [show (((t - 1).toNat:Nat):Int) + 1=t by omega,if_pos (by simpa using ht)]
   omega
  obtain ⟨m1,m2⟩:=hm e g2 hfit
  have ew:((l1++[a]).map (·.worth)).sum=(l1.map (·.worth)).sum + a.worth:=by rw [List.map_append,List.sum_append]; simp
  refine ⟨by rw [ew,← g3]; exact m2,_,List.mem_append.mpr (.inr m1),by rw [ew,← g3],by rw [bJ]; exact g4,fun j hj=>?_⟩
  have e2:(bG e.1 (aq ps a) (-a.size)).getD j 0=e.1.getD j 0 + cnt ((j:Int) + 1) (aq ps a) (-a.size):=ev (cw hT hok.ends) fun x hx=>by rw [g4]; exact bd hT hok.ends hx
  have ec:dg ps (·.size) j a = - cnt ((j:Int) + 1) (aq ps a) (-a.size):=by unfold dg cnt; dsimp only; split <;> omega
  show (bG e.1 (aq ps a) (-a.size)).getD j 0=_
  rw [e2,g5 j hj,hsum,ec]; omega
theorem BestT.kept {ps rs:List Int} {as:List Ask} {ks:List Int} {b:Int} (hT:Tree ps rs) (ha:AsksOk ps as) (h:BestT ps rs as b) (hk:KeptOk ps rs as ks):bW as ks≤b:=by
 have:=h.all _ hk.k.asks (hk.fit hT ha)
 rw [List.map_map] at this
 exact this
theorem jJ {n j:Nat} {k:Int} (hj:j<n):(List.replicate n k).getD j 0=k:=by rw [List.getD_eq_getElem?_getD,List.getElem?_replicate,if_pos hj]; rfl
def alT (k:Int) (as:List Ask):List (Option (Int×Int)):=List.replicate as.length (some (1,k))
def bR (k:Int) (as:List Ask):List (Option (Int×Int)):=as.map fun a=>if cE k a=true then some (1,1) else none
def dC (k:Int) (as:List Ask):List (Option (Int×Int)):=as.map fun a=>if cE k a=true then none else some (a.size,k - a.size)
theorem gZ {k:Int} {as:List Ask} {j:Nat}:(alT k as).getD j none=if j<as.length then some (1,k) else none:=by
 unfold alT; rw [List.getD_eq_getElem?_getD,List.getElem?_replicate]; split <;> rfl
theorem e8 (f:Ask→Option (Int×Int)) {as:List Ask} {j:Nat}:(as.map f).getD j none=if j<as.length then f (as.getD j aS) else none:=by
 rw [List.getD_eq_getElem?_getD,List.getElem?_map]
 split
 ·rename_i h; rw [List.getD_eq_getElem?_getD,List.getElem?_eq_getElem h]; rfl
 ·rename_i h; rw [List.getElem?_eq_none (by omega)]; rfl
theorem gO {f g:Int→Int}:∀ {K:List Int},(∀ k∈K,f k≤g k)→(K.map f).sum≤(K.map g).sum
 | [],_=>Int.le_refl _
 | k :: K,h=>by
  have:=gO (K:=K) fun x hx=>h x (.tail _ hx)
  have:=h k (.head _)
  rw [List.map_cons,List.map_cons,List.sum_cons,List.sum_cons]; omega
theorem kL (c:Int) (f:Int→Int):∀ K:List Int,(K.map fun k=>c * f k).sum=c * (K.map f).sum
 | []=>by simp
 | k :: K=>by rw [List.map_cons,List.map_cons,List.sum_cons,List.sum_cons,kL c f K,Int.mul_add]
theorem al_lift {ps:List Int} {k:Int} {as:List Ask} (hT:Tree ps (List.replicate ps.length k)) (k1 : 1≤k) (ha:AsksOk ps as) (h1:∀ a∈as,a.size=1):LiftH ps (List.replicate ps.length k) as (alT k as):=by
 refine ⟨fun j w p h=>?_,fun j w p K t j0 j1 h ht hK hl=>?_⟩
 ·rw [gZ] at h
  split at h <;> cases h
  exact ⟨by decide,k1⟩
 ·rw [gZ,if_pos (by omega)] at h
  cases h
  have hok:=bY ha j0 j1
  have tw:=bd hT hok.ends ht
  have sz:∀ z:Int,0≤z→z<(as.length:Int)→(av as z).size=1:=fun z z0 z1=>h1 _ (cB (k:=z.toNat) (by omega))
  rw [jJ (by omega),sz j j0 j1] at hl
  have:(K.map (eE ps as t)).sum≤(K.map fun k'=>cnt t (aq ps (av as k')) (wtK (alT k as) k')).sum:=gO fun z hz=>by
   obtain ⟨z0,z1,_⟩:=hK z hz
   have e:wtK (alT k as) z=1:=by unfold wtK; rw [gZ,if_pos (by omega)]
   rw [e]
   show cnt t (aq ps (av as z)) (av as z).size≤_
   rw [sz z z0 z1]; exact Int.le_refl _
  omega
def shQ (k:Int):Rat:=if k≤2 then 2 else 3 - 2 / (k:Rat)
theorem al_cost {k:Int} {as:List Ask} (k1 : 1≤k):CostH (alT k as) (k:Rat) (shQ k):=by
 refine ⟨fun j w p h=>?_,fun j w p h x n x0 hn=>?_⟩
 ·rw [gZ] at h
  split at h <;> cases h
  exact ⟨by decide,k1⟩
 ·rw [gZ] at h
  split at h <;> cases h
  have kq:(1:Rat)≤(k:Rat):=Rat.intCast_le_intCast.mpr k1
  have ez:=Rat.div_mul_cancel (a:=x) (b:=(k:Rat)) (by grind)
  have z0:=(gb x0 Rat.le_refl k1).1
  generalize x / (k:Rat)=z at ez z0
  rw [show ((1:Int):Rat)=1 from rfl,Rat.one_mul]
  have hx:x=z * (k:Rat):=ez.symm
  have hzx:z≤x:=by
   have:z * 1≤z * (k:Rat):=Rat.mul_le_mul_of_nonneg_left kq z0
   grind
  have hkn:(k:Rat) * (n * z)=n * x:=by grind
  rw [hkn]
  unfold shQ
  split
  ·rename_i h2
   have:k=1∨k=2:=by omega
   unfold c_
   rcases this with rfl | rfl
   ·rw [show ((1:Int):Rat)=1 from rfl] at hx
    rcases hn with rfl | rfl <;> split <;> grind
   ·rw [show ((2:Int):Rat)=2 from rfl] at hx
    rcases hn with rfl | rfl <;> split <;> grind
  ·rename_i h2
   have k3:(3:Rat)≤(k:Rat):=Rat.intCast_le_intCast.mpr (show (3:Int)≤k by omega)
   have e2:(2:Rat) / (k:Rat) * x=2 * z:=by
    have:=Rat.div_mul_cancel (a:=(2:Rat)) (b:=(k:Rat)) (by grind)
    rw [hx]; grind
   have hz3 : 3 * z≤x:=by
    have:z * 3≤z * (k:Rat):=Rat.mul_le_mul_of_nonneg_left k3 z0
    grind
   have e3:(3 - 2 / (k:Rat)) * x=3 * x - 2 * z:=by rw [← e2]; grind
   rw [e3]
   unfold c_
   rcases hn with rfl | rfl <;> split <;> grind
theorem mR {ps:List Int} {k:Int} {as:List Ask} (hT:Tree ps (List.replicate ps.length k)) (ha:AsksOk ps as) (hs:∀ a∈as,a.size≤k):LiftH ps (List.replicate ps.length k) as (bR k as):=by
 have key:∀ (j:Nat) (w p:Int),(bR k as).getD j none=some (w,p)→w=1∧p=1:=fun j w p h=>by
  unfold bR at h
  rw [e8] at h
  split at h
  ·split at h <;> cases h; exact ⟨rfl,rfl⟩
  ·cases h
 refine ⟨fun j w p h=>?_,fun j w p K t j0 j1 h ht hK hl=>?_⟩
 ·obtain ⟨rfl,rfl⟩:=key j w p h; decide
 ·obtain ⟨rfl,rfl⟩:=key _ w p h
  have hok:=bY ha j0 j1
  have tw:=bd hT hok.ends ht
  have:=hs _ (cB (as:=as) (k:=j.toNat) (by omega))
  have:(av as j).size≤k:=this
  rw [jJ (by omega)] at hl
  have h2:(K.map (eE ps as t)).sum≤(K.map fun k'=>1000000 * cnt t (aq ps (av as k')) (wtK (bR k as) k')).sum:=gO fun z hz=>by
   obtain ⟨z0,z1,zs⟩:=hK z hz
   have zok:=bY ha z0 z1
   have e:wtK (bR k as) z=1:=by
    unfold wtK
    cases q:(bR k as).getD z.toNat none with
    | none=>rw [q] at zs; cases zs
    | some wp=>obtain ⟨w,p⟩:=wp; exact (key _ _ _ q).1
   rw [e]
   show cnt t (aq ps (av as z)) (av as z).size≤_
   have:=zok.s1
   unfold cnt; split <;> omega
  rw [kL] at h2
  omega
theorem mN {k:Int} {as:List Ask}:CostH (bR k as) 1 2:=by
 have key:∀ (j:Nat) (w p:Int),(bR k as).getD j none=some (w,p)→w=1∧p=1:=fun j w p h=>by
  unfold bR at h
  rw [e8] at h
  split at h
  ·split at h <;> cases h; exact ⟨rfl,rfl⟩
  ·cases h
 refine ⟨fun j w p h=>?_,fun j w p h x n x0 hn=>?_⟩
 ·obtain ⟨rfl,rfl⟩:=key j w p h; decide
 ·obtain ⟨rfl,rfl⟩:=key _ w p h
  have e:x / ((1:Int):Rat)=x:=by rw [show ((1:Int):Rat)=1 from rfl]; grind
  rw [e,show ((1:Int):Rat)=1 from rfl]
  unfold c_
  rcases hn with rfl | rfl <;> split <;> grind
theorem fb {ps:List Int} {k:Int} {as:List Ask} (ha:AsksOk ps as) (j:Nat) (w p:Int) (h:(dC k as).getD j none=some (w,p)):j<as.length∧w=(as.getD j aS).size∧p=k - w∧2 * w≤k∧1≤w:=by
 unfold dC at h
 rw [e8] at h
 split at h
 ·rename_i hj
  split at h
  ·cases h
  ·rename_i c
   cases h
   have c' : ¬ k<2 * (as.getD j aS).size:=fun z=>c (decide_eq_true z)
   exact ⟨hj,rfl,rfl,by omega,(ha.ok _ (cB (k:=j) hj)).s0⟩
 ·cases h
theorem pC {ps:List Int} {k:Int} {as:List Ask} (hT:Tree ps (List.replicate ps.length k)) (ha:AsksOk ps as):LiftH ps (List.replicate ps.length k) as (dC k as):=by
 refine ⟨fun j w p h=>?_,fun j w p K t j0 j1 h ht hK hl=>?_⟩
 ·have:=fb ha j w p h; omega
 ·obtain ⟨_,hw,hp,_,_⟩:=fb ha _ w p h
  have hok:=bY ha j0 j1
  have tw:=bd hT hok.ends ht
  rw [jJ (by omega)] at hl
  have hw:w=(av as j).size:=hw
  have h2:(K.map (eE ps as t)).sum≤(K.map fun k'=>cnt t (aq ps (av as k')) (wtK (dC k as) k')).sum:=gO fun z hz=>by
   obtain ⟨z0,z1,zs⟩:=hK z hz
   have e:wtK (dC k as) z=(av as z).size:=by
    unfold wtK
    cases q:(dC k as).getD z.toNat none with
    | none=>rw [q] at zs; cases zs
    | some wp=>obtain ⟨w,p⟩:=wp; exact (fb ha _ _ _ q).2.1
   rw [e]; exact Int.le_refl _
  omega
theorem pO {ps:List Int} {k:Int} {as:List Ask} (ha:AsksOk ps as):CostH (dC k as) (k:Rat) 4:=by
 refine ⟨fun j w p h=>?_,fun j w p h x n x0 hn=>?_⟩
 ·have:=fb ha j w p h; omega
 ·obtain ⟨_,_,hp,h2,w1⟩:=fb ha _ w p h
  have p1 : 1≤p:=by omega
  have pq:(1:Rat)≤(p:Rat):=Rat.intCast_le_intCast.mpr p1
  have wq:(w:Rat)≤(p:Rat):=Rat.intCast_le_intCast.mpr (show w≤p by omega)
  have w0:(0:Rat)≤(w:Rat):=Rat.intCast_nonneg.mpr (by omega)
  have ek:(k:Rat)=(p:Rat) + (w:Rat):=by rw [← Rat.intCast_add,show p + w=k by omega]
  have ez:=Rat.div_mul_cancel (a:=x) (b:=(p:Rat)) (by grind)
  have z0:=(gb x0 Rat.le_refl p1).1
  generalize x / (p:Rat)=z at ez z0
  have h3:z * (w:Rat)≤z * (p:Rat):=Rat.mul_le_mul_of_nonneg_left wq z0
  have h4 : 0≤z * (w:Rat):=Rat.mul_nonneg z0 w0
  rw [ek]
  have e1:((p:Rat) + (w:Rat)) * (n * z)=n * (z * (p:Rat) + z * (w:Rat)):=by grind
  have e2:(w:Rat) * (n * z)=n * (z * (w:Rat)):=by grind
  rw [e1,e2,← ez]
  generalize z * (p:Rat)=u at *
  generalize z * (w:Rat)=v at *
  unfold c_
  rcases hn with rfl | rfl <;> split <;> grind
theorem rA (f:Ask→Rat) (as:List Ask):((List.range as.length).map fun (i:Nat)=>f (av as (i:Int))).sum=(as.map f).sum:=by
 rw [rz f as]; unfold bQ; rw [List.map_map]; rfl
theorem mW {ps:List Int} {k:Int} {as:List Ask} {S V:Pil} (hS:PileR ps (List.replicate ps.length k) as (bR k as) 1 2 S) (hV:PileR ps (List.replicate ps.length k) as (dC k as) (k:Rat) 4 V):fT ps k as S.prs V.prs≤2 * S.rests.sum + 4 * V.rests.sum:=by
 have h1:=hS.cost
 have h2:=hV.cost
 have e:(as.map (cH ps k S.prs V.prs)).sum=((List.range as.length).map fun (i:Nat)=>spT ps as (bR k as) S.prs (i:Int)).sum + ((List.range as.length).map fun (i:Nat)=>spT ps as (dC k as) V.prs (i:Int)).sum:=by
  rw [← rA]
  have key:∀ l:List Nat,(∀ i∈l,i<as.length)→(l.map fun (i:Nat)=>cH ps k S.prs V.prs (av as (i:Int))).sum=(l.map fun (i:Nat)=>spT ps as (bR k as) S.prs (i:Int)).sum + (l.map fun (i:Nat)=>spT ps as (dC k as) V.prs (i:Int)).sum:=fun l=>by
   induction l with
   | nil=>intro _; exact (Rat.add_zero 0).symm
   | cons i l ih =>
    intro h
    have hi:=h i (.head _)
    have:cH ps k S.prs V.prs (av as (i:Int))=spT ps as (bR k as) S.prs (i:Int) + spT ps as (dC k as) V.prs (i:Int):=by
     unfold spT bR dC cH
     rw [e8,e8,if_pos (show ((i:Nat):Int).toNat<as.length by omega),if_pos (show ((i:Nat):Int).toNat<as.length by omega)]
     show (if cE k (av as (i:Int))=true then _ else _)=_
     have ea:as.getD ((i:Nat):Int).toNat aS=av as (i:Int):=rfl
     rw [ea]
     by_cases c:cE k (av as (i:Int))=true
     ·simp only [if_pos c]; rw [Rat.add_zero]
     ·simp only [if_neg c]; rw [Rat.zero_add]
    rw [List.map_cons,List.map_cons,List.map_cons,List.sum_cons,List.sum_cons,List.sum_cons,ih fun x hx=>h x (.tail _ hx),this]
    grind
  exact key _ fun i hi=>List.mem_range.mp hi
 unfold fT
 rw [e]
 grind
structure PrK (ps:List Int) (prs:List Rat):Prop where
 ex:∃ M b:Nat,PrM ps prs M b∧0<M∧M<2 ^ 400∧b≤2 ^ 60
theorem PrK.len {ps:List Int} {prs:List Rat}:PrK ps prs→prs.length=ps.length
 | ⟨_,_,h,_⟩=>h.len
theorem PrK.nn {ps:List Int} {prs:List Rat}:PrK ps prs→∀ r∈prs,0≤r
 | ⟨_,_,h,_⟩=>fun r hr=>(h.ok r hr).1
theorem pH {ps rs:List Int} {as:List Ask} {o:List Int} {ts:List (Option (Int×Int))} (hT:Tree ps rs) (ha:AsksOk ps as) (ho:eF ps as o) (ht:e5 ts):PrK ps (bB ps as ts o).prs:=by
 obtain ⟨hol,hor⟩:=ho.mem
 have hP:=g8 hT ha ht hor o.length (Nat.le_refl _)
 rw [List.take_length] at hP
 obtain ⟨M1,M10,M11,hM1⟩:=hP.pr
 have hal:=ha.len
 have p64 : 64 ^ o.length<2 ^ 400:=Nat.lt_of_le_of_lt (Nat.pow_le_pow_right (n:=64) (by decide) (show o.length≤30 by omega)) (by decide)
 exact ⟨M1,_,hM1,M10,Nat.lt_of_le_of_lt M11 p64,Nat.le_trans (Nat.mul_le_mul_right _ (show o.length≤30 by omega)) (by decide)⟩
end L2
namespace K37
open PySem L2
def top (i:Nat):Stmt:=PySem.Challenge.pw_treeasks_k37_whole_a_sixth_of_the_bound.main.body.getD i (.Pass ⟨0,0,0,0⟩)
abbrev qx:Stmt:=top 10
abbrev qv:Stmt:=top 11
abbrev s_q0:Stmt:=top 12
abbrev oO:Stmt:=top 13
abbrev s_q4:Stmt:=top 17
abbrev s_q9:Stmt:=top 18
abbrev oK:Stmt:=top 19
abbrev qc:Stmt:=top 20
abbrev oE:Stmt:=top 21
abbrev qE:Stmt:=top 26
abbrev s_q5:Stmt:=top 27
abbrev p6:Stmt:=top 29
abbrev pz:Stmt:=top 30
abbrev ph:Stmt:=top 31
abbrev qD:Stmt:=top 32
abbrev o6:Stmt:=top 33
abbrev nV:Stmt:=top 34
abbrev nO:Stmt:=top 35
abbrev s_q6:Stmt:=top 37
abbrev p_:Stmt:=top 38
abbrev oD:Stmt:=top 39
abbrev rf:Stmt:=top 40
abbrev pw:Stmt:=top 41
abbrev nS:Stmt:=top 42
abbrev qH:Stmt:=top 44
abbrev s_q2:Stmt:=top 45
abbrev nZ:Stmt:=top 46
abbrev s_q7:Stmt:=top 48
abbrev oy:Stmt:=top 49
abbrev oG:Stmt:=top 50
abbrev pG:Stmt:=top 51
abbrev oX:Stmt:=top 52
abbrev qZ:Stmt:=top 53
abbrev o_:Stmt:=top 54
abbrev rj:Stmt:=top 55
abbrev oC:Stmt:=top 58
abbrev s_q8:Stmt:=top 59
abbrev s_q3:Stmt:=top 60
abbrev qJ:Stmt:=top 61
abbrev pK:Stmt:=top 62
abbrev s_q1:Stmt:=top 63
abbrev ou:Stmt:=top 65
abbrev q9:Stmt:=top 66
abbrev om:Stmt:=top 67
abbrev o5:Stmt:=top 68
abbrev p9:Stmt:=top 69
abbrev oJ:Stmt:=top 71
abbrev nQ:Stmt:=top 72
abbrev qd:Stmt:=top 73
abbrev qo:Stmt:=top 74
abbrev pS:Stmt:=top 75
abbrev o7:Stmt:=top 76
abbrev oQ:Stmt:=top 77
abbrev n_:Stmt:=top 78
abbrev oV:Stmt:=top 79
abbrev qp:Stmt:=top 80
abbrev qw:Stmt:=top 81
abbrev oS:Stmt:=top 82
set_option genInjectivity false in
structure Adr where
 f_q34:Addr
 d_q34:FuncData
 f_q18:Addr
 d_q18:FuncData
 f_q0:Addr
 d_q0:FuncData
 f_q13:Addr
 d_q13:FuncData
 f_q4:Addr
 d_q4:FuncData
 f_q9:Addr
 d_q9:FuncData
 f_q47:Addr
 d_q47:FuncData
 f_q32:Addr
 d_q32:FuncData
 f_q30:Addr
 d_q30:FuncData
 f_q48:Addr
 d_q48:FuncData
 f_q5:Addr
 d_q5:FuncData
 f_q31:Addr
 d_q31:FuncData
 f_q64:Addr
 d_q64:FuncData
 f_q60:Addr
 d_q60:FuncData
 f_q61:Addr
 d_q61:FuncData
 f_q54:Addr
 d_q54:FuncData
 f_q55:Addr
 d_q55:FuncData
 f_q62:Addr
 d_q62:FuncData
 f_q6:Addr
 d_q6:FuncData
 f_q57:Addr
 d_q57:FuncData
 f_q16:Addr
 d_q16:FuncData
 f_q56:Addr
 d_q56:FuncData
 f_q20:Addr
 d_q20:FuncData
 f_q11:Addr
 d_q11:FuncData
 f_q33:Addr
 d_q33:FuncData
 f_q2:Addr
 d_q2:FuncData
 f_q35:Addr
 d_q35:FuncData
 f_q7:Addr
 d_q7:FuncData
 f_q53:Addr
 d_q53:FuncData
 f_q25:Addr
 d_q25:FuncData
 f_q42:Addr
 d_q42:FuncData
 f_q26:Addr
 d_q26:FuncData
 f_q59:Addr
 d_q59:FuncData
 f_q17:Addr
 d_q17:FuncData
 f_q36:Addr
 d_q36:FuncData
 f_q12:Addr
 d_q12:FuncData
 f_q8:Addr
 d_q8:FuncData
 f_q3:Addr
 d_q3:FuncData
 f_q21:Addr
 d_q21:FuncData
 f_q43:Addr
 d_q43:FuncData
 f_q1:Addr
 d_q1:FuncData
 f_q10:Addr
 d_q10:FuncData
 f_q39:Addr
 d_q39:FuncData
 f_q19:Addr
 d_q19:FuncData
 f_q15:Addr
 d_q15:FuncData
 f_q14:Addr
 d_q14:FuncData
 f_q22:Addr
 d_q22:FuncData
 f_q51:Addr
 d_q51:FuncData
 f_q52:Addr
 d_q52:FuncData
 f_q40:Addr
 d_q40:FuncData
 f_q49:Addr
 d_q49:FuncData
 f_q63:Addr
 d_q63:FuncData
 f_q24:Addr
 d_q24:FuncData
 f_q58:Addr
 d_q58:FuncData
 f_q23:Addr
 d_q23:FuncData
 f_q50:Addr
 d_q50:FuncData
 f_q41:Addr
 d_q41:FuncData
 f_law:Addr
 d_law:FuncData
 tc:Addr
 tP:Addr
abbrev tqS:Str:=("deepest_first" ++ ".<locals>.") ++ "<lambda>"
set_option genInjectivity false in
structure Txt (K:PySem.W.Frag) (mg:Str→Option Value) (A:Adr):Prop where
 t_q34:FT K mg "is_whole" qx ["thing"] A.f_q34 A.d_q34
 t_q18:FT K mg "is_between" qv ["thing","least","most"] A.f_q18 A.d_q18
 t_q0:FT K mg "greatest_common" s_q0 ["number","bottom"] A.f_q0 A.d_q0
 t_q13:FT K mg "is_fraction" oO ["thing"] A.f_q13 A.d_q13
 t_q4:FT K mg "has_two_lists" s_q4 ["thing"] A.f_q4 A.d_q4
 t_q9:FT K mg "look_at_tree" s_q9 ["thing"] A.f_q9 A.d_q9
 t_q47:FT K mg "depths" oK ["tree"] A.f_q47 A.d_q47
 t_q32:FT K mg "is_place" qc ["tree","thing"] A.f_q32 A.d_q32
 t_q30:FT K mg "are_ends" oE ["tree","one","other"] A.f_q30 A.d_q30
 t_q48:FT K mg "is_ask" qE ["tree","thing"] A.f_q48 A.d_q48
 t_q5:FT K mg "look_at_asks" s_q5 ["tree","thing"] A.f_q5 A.d_q5
 t_q31:FT K mg "fraction" p6 ["top","bottom"] A.f_q31 A.d_q31
 t_q64:FT K mg "plus" pz ["one","other"] A.f_q64 A.d_q64
 t_q60:FT K mg "minus" ph ["one","other"] A.f_q60 A.d_q60
 t_q61:FT K mg "times" qD ["one","other"] A.f_q61 A.d_q61
 t_q54:FT K mg "parted" o6 ["one","other"] A.f_q54 A.d_q54
 t_q55:FT K mg "sum_of" nV ["some"] A.f_q55 A.d_q55
 t_q62:FT K mg "under" nO ["one","other"] A.f_q62 A.d_q62
 t_q6:FT K mg "look_at_ends" s_q6 ["tree","one","other"] A.f_q6 A.d_q6
 t_q57:FT K mg "climb" p_ ["tree","one","other"] A.f_q57 A.d_q57
 t_q16:FT K mg "way_between" oD ["tree","one","other"] A.f_q16 A.d_q16
 t_q56:FT K mg "way_of" rf ["tree","ask"] A.f_q56 A.d_q56
 t_q20:FT K mg "meeting_of" pw ["tree","one","other"] A.f_q20 A.d_q20
 t_q11:FT K mg "tops_between" nS ["tree","one","other"] A.f_q11 A.d_q11
 t_q33:FT K mg "is_price" qH ["thing"] A.f_q33 A.d_q33
 t_q2:FT K mg "look_at_prices" s_q2 ["tree","thing"] A.f_q2 A.d_q2
 t_q35:FT K mg "spare_of" nZ ["tree","ask","weight","prices"] A.f_q35 A.d_q35
 t_q7:FT K mg "look_at_keep" s_q7 ["tree","asks","thing"] A.f_q7 A.d_q7
 t_q53:FT K mg "lay_on" oy ["ask","way","load"] A.f_q53 A.d_q53
 t_q25:FT K mg "load_with" oG ["tree","ask","load"] A.f_q25 A.d_q25
 t_q42:FT K mg "over_on" pG ["tree","ask","way","load"] A.f_q42 A.d_q42
 t_q26:FT K mg "over_with" oX ["tree","ask","load"] A.f_q26 A.d_q26
 t_q59:FT K mg "loads" qZ ["tree","asks","keep"] A.f_q59 A.d_q59
 t_q17:FT K mg "first_over" o_ ["tree","asks","keep"] A.f_q17 A.d_q17
 t_q36:FT K mg "worth_of" rj ["tree","asks","keep"] A.f_q36 A.d_q36
 t_q12:FT K mg "common_room" oC ["tree"] A.f_q12 A.d_q12
 t_q8:FT K mg "look_at_most" s_q8 ["asks","most"] A.f_q8 A.d_q8
 t_q3:FT K mg "deepest_first" s_q3 ["tree","asks"] A.f_q3 A.d_q3
 t_q21:FT K mg "raise_tops" qJ ["tree","ask","prices","step"] A.f_q21 A.d_q21
 t_q43:FT K mg "pile_up" pK ["tree","asks","terms"] A.f_q43 A.d_q43
 t_q1:FT K mg "keep_from_last" s_q1 ["tree","asks","pile"] A.f_q1 A.d_q1
 t_q10:FT K mg "room_for_all" ou ["tree","asks"] A.f_q10 A.d_q10
 t_q39:FT K mg "is_wide" q9 ["room","ask"] A.f_q39 A.d_q39
 t_q19:FT K mg "keep_mixed" om ["tree","asks"] A.f_q19 A.d_q19
 t_q15:FT K mg "mixed_spare" o5 ["tree","room","ask","pieces","units"] A.f_q15 A.d_q15
 t_q14:FT K mg "mixed_bound" p9 ["tree","asks","pieces","units"] A.f_q14 A.d_q14
 t_q22:FT K mg "_law_cell_at" oJ ["_law_script","_law_k"] A.f_q22 A.d_q22
 t_q51:FT K mg "_law_pool" nQ ["_law_script","_law_k"] A.f_q51 A.d_q51
 t_q52:FT K mg "_law_take" qd ["_law_pool_here","_law_many"] A.f_q52 A.d_q52
 t_q40:FT K mg "_law_alike" qo ["_law_pool_here","_law_most"] A.f_q40 A.d_q40
 t_q49:FT K mg "_law_asks" pS ["_law_pool_here","_law_tree","_law_least","_law_most","_law_sizes"] A.f_q49 A.d_q49
 t_q63:FT K mg "_law_up" o7 ["_law_tree","_law_place"] A.f_q63 A.d_q63
 t_q24:FT K mg "_law_meeting" oQ ["_law_tree","_law_one","_law_other"] A.f_q24 A.d_q24
 t_q58:FT K mg "_law_way" n_ ["_law_tree","_law_one","_law_other"] A.f_q58 A.d_q58
 t_q23:FT K mg "_law_fitting" oV ["_law_tree","_law_asks_here"] A.f_q23 A.d_q23
 t_q50:FT K mg "_law_best" qp ["_law_tree","_law_asks_here"] A.f_q50 A.d_q50
 t_q41:FT K mg "_law_right" qw ["_law_tree","_law_asks_here","_law_best_here"] A.f_q41 A.d_q41
 t_law:FT K mg "law" oS ["_law_script"] A.f_law A.d_law
 z_bool:mg "bool" = none
 z_enumerate:mg "enumerate" = none
 z_int:mg "int" = none
 z_isinstance:mg "isinstance" = none
 z_len:mg "len" = none
 z_list:mg "list" = none
 z_max:mg "max" = none
 z_min:mg "min" = none
 z_range:mg "range" = none
 z_reversed:mg "reversed" = none
 z_sorted:mg "sorted" = none
 z_sum:mg "sum" = none
 z_tuple:mg "tuple" = none
 c_MOST_TIES:∃ t,mg "MOST_TIES" = some (.int 23 t)
 c_MOST_ROOM:∃ t,mg "MOST_ROOM" = some (.int 1000000 t)
 c_MOST_ASKS:∃ t,mg "MOST_ASKS" = some (.int 30 t)
 c_MOST_SIZE:∃ t,mg "MOST_SIZE" = some (.int 1000000 t)
 c_MOST_WORTH:∃ t,mg "MOST_WORTH" = some (.int 1000000000000 t)
 c_MOST_COMMON_ROOM:∃ t,mg "MOST_COMMON_ROOM" = some (.int 60 t)
 hc:A.d_q3.code = .ref A.tc
theorem wd:FnScope ["thing"] ["thing"] (ak qx):=aO
theorem u9:FnScope ["thing","least","most"] ["thing","least","most"] (ak qv):=aO
theorem sc_q0:FnScope ["number","bottom"] ["number","bottom"] (ak s_q0):=aO
theorem vf:FnScope ["thing","top","bottom"] ["thing"] (ak oO):=aO
theorem sc_q4:FnScope ["thing","parents","rooms"] ["thing"] (ak s_q4):=aO
theorem sc_q9:FnScope ["thing","parents","rooms","number","parent","room"] ["thing"] (ak s_q9):=aO
theorem uO:FnScope ["tree","found","parent"] ["tree"] (ak oK):=aO
theorem wn:FnScope ["tree","thing"] ["tree","thing"] (ak qc):=aO
theorem vR:FnScope ["tree","one","other"] ["tree","one","other"] (ak oE):=aO
theorem xm:FnScope ["tree","thing","one","other","size","worth"] ["tree","thing"] (ak qE):=aO
theorem sc_q5:FnScope ["tree","thing","number","ask"] ["tree","thing"] (ak s_q5):=aO
theorem uz:FnScope ["top","bottom","common"] ["top","bottom"] (ak p6):=aO
theorem vn:FnScope ["one","other"] ["one","other"] (ak pz):=aO
theorem w6:FnScope ["one","other"] ["one","other"] (ak ph):=aO
theorem uu:FnScope ["one","other"] ["one","other"] (ak qD):=aO
theorem wj:FnScope ["one","other"] ["one","other"] (ak o6):=aO
theorem wN:FnScope ["some","bottom","one"] ["some"] (ak nV):=aO
theorem u6:FnScope ["one","other"] ["one","other"] (ak nO):=aO
theorem sc_q6:FnScope ["tree","one","other"] ["tree","one","other"] (ak s_q6):=aO
theorem wM:FnScope ["tree","one","other","way","low"] ["tree","one","other"] (ak p_):=aO
theorem xq:FnScope ["tree","one","other","way","meeting"] ["tree","one","other"] (ak oD):=aO
theorem wF:FnScope ["tree","ask"] ["tree","ask"] (ak rf):=aO
theorem wQ:FnScope ["tree","one","other","way","meeting"] ["tree","one","other"] (ak pw):=aO
theorem uA:FnScope ["tree","one","other","way","meeting"] ["tree","one","other"] (ak nS):=aO
theorem wT:FnScope ["thing"] ["thing"] (ak qH):=aO
theorem sc_q2:FnScope ["tree","thing","ties","number","price"] ["tree","thing"] (ak s_q2):=aO
theorem vj:FnScope ["tree","ask","weight","prices","paid","spare"] ["tree","ask","weight","prices"] (ak nZ):=aO
theorem sc_q7:FnScope ["tree","asks","thing","least","place","number"] ["tree","asks","thing"] (ak s_q7):=aO
theorem uT:FnScope ["ask","way","load","tie"] ["ask","way","load"] (ak oy):=aO
theorem w4:FnScope ["tree","ask","load","found"] ["tree","ask","load"] (ak oG):=aO
theorem wc:FnScope ["tree","ask","way","load"] ["tree","ask","way","load"] (ak pG):=aO
theorem wV:FnScope ["tree","ask","load"] ["tree","ask","load"] (ak oX):=aO
theorem wm:FnScope ["tree","asks","keep","found","number"] ["tree","asks","keep"] (ak qZ):=aO
theorem vD:FnScope ["tree","asks","keep","number","load"] ["tree","asks","keep"] (ak o_):=aO
theorem uI:FnScope ["tree","asks","keep"] ["tree","asks","keep"] (ak rj):=aO
theorem uC:FnScope ["tree","room"] ["tree"] (ak oC):=aO
theorem sc_q8:FnScope ["asks","most","number","ask"] ["asks","most"] (ak s_q8):=aO
theorem sc_q3:FnScope ["tree","asks","deep","met"] ["tree","asks"] (ak s_q3):=aO
theorem uG:FnScope ["tree","ask","prices","step","tie"] ["tree","ask","prices","step"] (ak qJ):=aO
theorem ul:FnScope ["tree","asks","terms","prices","rests","pile","number","weight","part"] ["tree","asks","terms"] (ak pK):=aO
theorem sc_q1:FnScope ["tree","asks","pile","load","keep","number"] ["tree","asks","pile"] (ak s_q1):=aO
theorem wA:FnScope ["tree","asks","room"] ["tree","asks"] (ak ou):=aO
theorem vz:FnScope ["room","ask"] ["room","ask"] (ak q9):=aO
theorem wL:FnScope ["tree","asks","room","wide_terms","narrow_terms","wide","pieces","wide_rests","narrow","units","narrow_rests"] ["tree","asks"] (ak om):=aO
theorem wf:FnScope ["tree","room","ask","pieces","units"] ["tree","room","ask","pieces","units"] (ak o5):=aO
theorem vk:FnScope ["tree","asks","pieces","units","room","spared"] ["tree","asks","pieces","units"] (ak p9):=aO
theorem vU:FnScope ["_law_script","_law_k"] ["_law_script","_law_k"] (ak oJ):=aO
theorem vw:FnScope ["_law_script","_law_k","_law_cell","_law_mixed"] ["_law_script","_law_k"] (ak nQ):=aO
theorem vG:FnScope ["_law_pool_here","_law_many","_law_found","_law_made","_law_turn"] ["_law_pool_here","_law_many"] (ak qd):=aO
theorem wH:FnScope ["_law_pool_here","_law_most","_law_way_here","_law_parents","_law_k"] ["_law_pool_here","_law_most"] (ak qo):=aO
theorem wR:FnScope ["_law_pool_here","_law_tree","_law_least","_law_most","_law_sizes","_law_places","_law_asks_here","_law_k","_law_one","_law_other","_law_size","_law_worth"] ["_law_pool_here","_law_tree","_law_least","_law_most","_law_sizes"] (ak pS):=aO
theorem vo:FnScope ["_law_tree","_law_place","_law_found"] ["_law_tree","_law_place"] (ak o7):=aO
theorem ww:FnScope ["_law_tree","_law_one","_law_other","_law_there"] ["_law_tree","_law_one","_law_other"] (ak oQ):=aO
theorem uR:FnScope ["_law_tree","_law_one","_law_other","_law_above","_law_both"] ["_law_tree","_law_one","_law_other"] (ak n_):=aO
theorem wy:FnScope ["_law_tree","_law_asks_here"] ["_law_tree","_law_asks_here"] (ak oV):=aO
theorem uw:FnScope ["_law_tree","_law_asks_here","_law_ways","_law_best_here","_law_some","_law_k","_law_more","_law_left","_law_worth","_law_less","_law_tie"] ["_law_tree","_law_asks_here"] (ak qp):=aO
theorem uB:FnScope ["_law_tree","_law_asks_here","_law_best_here","_law_wide","_law_narrow","_law_pieces","_law_units","_law_keep","_law_one","_law_other","_law_top","_law_bottom"] ["_law_tree","_law_asks_here","_law_best_here"] (ak qw):=aO
theorem u8:FnScope ["_law_script","_law_k","_law_pool_here","_law_tree","_law_asks_here","_law_small"] ["_law_script"] (ak oS):=aO
section
variable {P:Program} {w:World} {K:PySem.W.Frag} {mg:Str→Option Value} {base:Heap} {A:Adr}
theorem ix (T:Txt K mg A) (hB:TabB base mg A.tc A.tP tqS):FnOk P w K mg base CX0 1 A.f_q34 A.d_q34 ["thing"] (aW [false] false (sC)):=by
 have S:=wd
 refine fnD T.t_q34.F S ⟨[false],[false],false⟩ _ ?hl rfl rfl fun cdv Ar outer s H E hr=>⟨_,(af (aJ (de (dJ rfl T.z_isinstance a7 (aa 0) (cN (v:=.ty "int") rfl T.z_int qL rfl)) (eJ (wG (dJ rfl T.z_isinstance a7 (aa 0) (cN (v:=.ty "bool") rfl T.z_bool rQ rfl))))))),fun ds q h=>?_⟩
 case hl=>intro ds q h; obtain ⟨d,rfl,_⟩:=h; rfl
 obtain ⟨d,rfl,hs,q0⟩:=h
 cases d <;> first | exact q0 | cases hs
theorem gu (T:Txt K mg A) (hB:TabB base mg A.tc A.tP tqS):FnOk P w K mg base CX0 2 A.f_q18 A.d_q18 ["thing","least","most"] (aW [false,false,false] false (mP)):=by
 have S:=u9
 refine fnD T.t_q18.F S ⟨[false,false,false],[false,false,false],false⟩ _ ?hl rfl rfl fun cdv Ar outer s H E hr=>⟨_,(af (aJ (de (ag (ix T hB) hr T.t_q34 (ah (aa 0) aj)) (eJ (km gz gz dB dB (aa 1) (aa 0) (aa 2)))))),fun ds q h=>?_⟩
 case hl=>intro ds q h; obtain ⟨d,lo,hi,rfl,_⟩:=h; rfl
 obtain ⟨d,lo,hi,rfl,hs,q0⟩:=h
 refine ⟨d,rfl,hs,?_⟩
 cases d
 case int i =>
  refine (cj (c:=decide (lo≤i)=true) (fun c=>?_) (fun c=>?_))
  ·have:btw lo hi (.int i)=decide (i≤hi):=by show (decide (lo≤i)&&decide (i≤hi))=_; rw [c,Bool.true_and]
   rw [this] at q0; exact q0
  ·have:btw lo hi (.int i)=false:=by show (decide (lo≤i)&&decide (i≤hi))=_; rw [Bool.eq_false_iff.mpr c,Bool.false_and]
   rw [this] at q0; exact q0
 all_goals first | exact q0 | cases hs
theorem ok_q4 (T:Txt K mg A) (hB:TabB base mg A.tc A.tP tqS):FnOk P w K mg base CX0 1 A.f_q4 A.d_q4 ["thing"] (aW [false] false (uH)):=by
 have S:=sc_q4
 refine fnD T.t_q4.F S ⟨[false],[false,false,false],false⟩ _ ?hl rfl rfl fun cdv Ar outer s H E hr=>⟨_,(ad (a_ (QW.qt (fW (bv (bf (dJ rfl T.z_isinstance a7 (aa 0) (cN (v:=.ty "tuple") rfl T.z_tuple il rfl)))) (d6 (aX (du hr.units) dNe (aE az dz rfl T.z_len bj (ae (aa 0) ao)) ac (aQ _))))) (af (aJ dW)) aL)
  (ad (d8 (aa 0) (ci rfl (aA (ay (i:=1) S.nd rfl (Or.inl rfl)) (aA (ay (i:=2) S.nd rfl (Or.inl rfl)) bC)) (am (am aV))))
  (ad (a_ (QW.qt (fW (bv (bf (dJ rfl T.z_isinstance a7 (aa 1) (cN (v:=.ty "list") rfl T.z_list dH rfl)))) (d6 (bv (bf (dJ rfl T.z_isinstance a7 (aa 2) (cN (v:=.ty "list") rfl T.z_list dH rfl))))))) (af (aJ dW)) aL)
  (af (aJ (de (dt (gt hr.units) dEq (aE az dz rfl T.z_len bj (ae (aa 1) ao)) (aE az dz rfl T.z_len bj (ae (aa 2) ao)) (aQ _)) (eJ (km gz gz dB dB ac (aE az dz rfl T.z_len bj (ae (aa 1) ao)) (dU (i:=23) rfl T.c_MOST_TIES))))))))),fun ds q h=>?_⟩
 case hl=>intro ds q h; obtain ⟨ps,rs,rfl,_⟩:=h; rfl
 obtain ⟨ps,rs,rfl,hT,q0⟩:=h
 have l1:((ps.map D.int).length:Int)=ps.length:=by rw [List.length_map]
 have l2:((rs.map D.int).length:Int)=rs.length:=by rw [List.length_map]
 have h1:=hT.len
 have h2:=hT.lo
 have h3:=hT.hi
 refine (cj (c:=decide (((ps.map D.int).length:Int)=((rs.map D.int).length:Int))=true) (fun c=>?_) (fun c=>?_))
 ·refine (cj (c:=decide ((1:Int)≤((ps.map D.int).length:Int))=true) (fun c=>?_) (fun c=>?_))
  ·show q (.bl (decide (((ps.map D.int).length:Int)≤23))) []
   rw [decide_eq_true (by omega)]; exact q0
  ·exact absurd (decide_eq_true (by omega)) c
 ·exact absurd (decide_eq_true (by omega)) c
theorem l4 (T:Txt K mg A) (hB:TabB base mg A.tc A.tP tqS):FnOk P w K mg base CX0 3 A.f_q9 A.d_q9 ["thing"] (aW [false] false (uL)):=by
 have S:=sc_q9
 refine fnD T.t_q9.F S ⟨[false],[false,false,false,false,false,false],false⟩ _ ?hl rfl rfl fun cdv Ar outer s H E hr=>⟨_,(ad (a_ (bv (bf (ag (ok_q4 T hB) hr T.t_q4 (ah (aa 0) aj)))) (af bn) aL)
  (ad (d8 (aa 0) (ci rfl (aA (ay (i:=1) S.nd rfl (Or.inl rfl)) (aA (ay (i:=2) S.nd rfl (Or.inl rfl)) bC)) (am (am aV))))
  (ad (bz PassesOwn.never rfl (d5 rfl T.z_enumerate (ae (aa 1) ao)) (ci rfl (aA (ay (i:=3) S.nd rfl (Or.inl rfl)) (aA (ay (i:=4) S.nd rfl (Or.inl rfl)) bC)) (am (am aV))) (af (a_ (bv (bf (ag (gu T hB) hr T.t_q18 (ah (aa 4) (ah ac (ah (aa 3) aj)))))) (af bn) aL)))
  (af (bz PassesOwn.never rfl (d5 rfl T.z_enumerate (ae (aa 2) ao)) (ci rfl (aA (ay (i:=3) S.nd rfl (Or.inl rfl)) (aA (ay (i:=5) S.nd rfl (Or.inl rfl)) bC)) (am (am aV))) (af (a_ (bv (bf (ag (gu T hB) hr T.t_q18 (ah (aa 5) (ah ac (ah (dU (i:=1000000) rfl T.c_MOST_ROOM) aj)))))) (af bn) aL))))))),fun ds q h=>?_⟩
 case hl=>intro ds q h; obtain ⟨ps,rs,rfl,_⟩:=h; rfl
 obtain ⟨ps,rs,rfl,hT,q0⟩:=h
 refine ⟨ps,rs,rfl,hT,?_⟩
 refine ⟨fun _ ρ=>∃ v1 v2 v3,ρ=[some (aK ps rs),some (au ps),some (au rs),v1,v2,v3],⟨_,_,_,rfl⟩,?_,?_⟩
 ·rintro i d ρ hd ⟨v1,v2,v3,rfl⟩
  obtain ⟨d',h1,rfl⟩:=dF hd
  obtain ⟨z,hz,rfl⟩:=dn h1
  have hb:=hT.par i z hz
  refine ⟨.int z,0,(i:Int),rfl,rfl,?_⟩
  rw [d_ hb.1 hb.2]
  exact ⟨_,_,_,rfl⟩
 ·rintro ρ ⟨v1,v2,v3,rfl⟩
  refine ⟨fun _ ρ=>∃ v1 v2 v3,ρ=[some (aK ps rs),some (au ps),some (au rs),v1,v2,v3],⟨_,_,_,rfl⟩,?_,?_⟩
  ·rintro i d ρ hd ⟨v1,v2,v3,rfl⟩
   obtain ⟨d',h1,rfl⟩:=dF hd
   obtain ⟨z,hz,rfl⟩:=dn h1
   have hb:=hT.room i z hz
   refine ⟨.int z,1,1000000,rfl,rfl,?_⟩
   rw [d_ hb.1 hb.2]
   exact ⟨_,_,_,rfl⟩
  ·rintro ρ ⟨v1,v2,v3,rfl⟩
   exact q0
theorem wZ (T:Txt K mg A) (hB:TabB base mg A.tc A.tP tqS):FnOk P w K mg base CX0 4 A.f_q47 A.d_q47 ["tree"] (aW [false] true (pP)):=by
 have S:=uO
 refine fnD T.t_q47.F S ⟨[false],[false,true,false],true⟩ _ ?hl rfl rfl fun cdv Ar outer s H E hr=>⟨_,(ad (bI (ag (l4 T hB) hr T.t_q9 (ah (aa 0) aj)))
  (ad (bO (i:=1) S.nd rfl (Or.inl rfl) (eh (ae ac ao)))
  (ad (bz PassesOwn.never rfl (a6 (ap ai dIx (aa 0) ac (fun _ _=>rfl))) (ay (i:=2) S.nd rfl (Or.inl rfl)) (af (cJ (i:=1) rfl (QF.bor [1] (QE.qf (aw bh dI (ap ai dIx (aa 1) (aa 2) (fun _ _=>rfl)) ac))))))
  (af (br (cn 1)))))),fun ds q h=>?_⟩
 case hl=>intro ds q h; obtain ⟨ps,rs,rfl,_⟩:=h; rfl
 obtain ⟨ps,rs,rfl,hT,q0⟩:=h
 have hi:=hT.hi
 refine ⟨ps,rs,rfl,hT,?_⟩
 refine ⟨rfl,?_⟩
 refine ⟨fun i ρ=>∃ (e:List Int) (v:Option D),ρ=[some (aK ps rs),some (au e),v]∧DepOk ps e i,⟨[0],_,rfl,dep0 ps⟩,?_,?_⟩
 ·rintro i d ρ hd ⟨e,v,rfl,he⟩
  obtain ⟨z,hz,rfl⟩:=dn hd
  have hb:=hT.par i z hz
  have hl:=he.len
  have hil:i<ps.length:=(List.getElem?_eq_some_iff.mp hz).1
  refine aT (bp hb.1 (by omega)) ?_
  refine ⟨rfl,by rw [ar]; omega,?_⟩
  refine ⟨_,some (.int z),?_,qU hT hz he⟩
  rw [← dY]; rfl
 ·rintro ρ ⟨e,v,rfl,he⟩
  rw [ar] at he
  exact q0 e he
theorem oz (T:Txt K mg A) (hB:TabB base mg A.tc A.tP tqS):FnOk P w K mg base CX0 3 A.f_q32 A.d_q32 ["tree","thing"] (aW [false,false] false (sy)):=by
 have S:=wn
 refine fnD T.t_q32.F S ⟨[false,false],[false,false],false⟩ _ ?hl rfl rfl fun cdv Ar outer s H E hr=>⟨_,(af (aJ (ag (gu T hB) hr T.t_q18 (ah (aa 1) (ah ac (ah (aE az dz rfl T.z_len bj (ae (ap ai dIx (aa 0) ac (fun _ _=>rfl)) ao)) aj)))))),fun ds q h=>?_⟩
 case hl=>intro ds q h; obtain ⟨ps,rs,d,rfl,_⟩:=h; rfl
 obtain ⟨ps,rs,d,rfl,hs,q0⟩:=h
 refine ⟨d,0,((ps.map D.int).length:Int),rfl,hs,?_⟩
 rw [List.length_map]; exact q0
theorem oP (T:Txt K mg A) (hB:TabB base mg A.tc A.tP tqS):FnOk P w K mg base CX0 4 A.f_q30 A.d_q30 ["tree","one","other"] (aW [false,false,false] false (wE)):=by
 have S:=vR
 refine fnD T.t_q30.F S ⟨[false,false,false],[false,false,false],false⟩ _ ?hl rfl rfl fun cdv Ar outer s H E hr=>⟨_,(af (aJ (de (ag (oz T hB) hr T.t_q32 (ah (aa 0) (ah (aa 1) aj))) (de (ag (oz T hB) hr T.t_q32 (ah (aa 0) (ah (aa 2) aj))) (eJ (dt (du hr.units) dNe (aa 1) (aa 2) (aQ _))))))),fun ds q h=>?_⟩
 case hl=>intro ds q h; obtain ⟨ps,rs,a,b,rfl,_⟩:=h; rfl
 obtain ⟨ps,rs,a,b,rfl,he,q0⟩:=h
 refine ⟨ps,rs,.int a,rfl,rfl,?_⟩
 rw [d_ he.a0 he.a1]
 refine ⟨ps,rs,.int b,rfl,rfl,?_⟩
 rw [d_ he.b0 he.b1]
 have:(!decide (a=b))=true:=by simp [he.ne]
 show q (.bl (!decide (a=b))) []
 rw [this]; exact q0
theorem pQ (T:Txt K mg A) (hB:TabB base mg A.tc A.tP tqS):FnOk P w K mg base CX0 5 A.f_q6 A.d_q6 ["tree","one","other"] (aW [false,false,false] false (lr)):=by
 have S:=sc_q6
 refine fnD T.t_q6.F S ⟨[false,false,false],[false,false,false],false⟩ _ ?hl rfl rfl fun cdv Ar outer s H E hr=>⟨_,(ad (bI (ag (l4 T hB) hr T.t_q9 (ah (aa 0) aj)))
  (af (a_ (bv (bf (ag (oP T hB) hr T.t_q30 (ah (aa 0) (ah (aa 1) (ah (aa 2) aj)))))) (af bn) aL))),fun ds q h=>?_⟩
 case hl=>intro ds q h; obtain ⟨ps,rs,a,b,rfl,_⟩:=h; rfl
 obtain ⟨ps,rs,a,b,rfl,hT,he,q0⟩:=h
 refine ⟨ps,rs,rfl,hT,?_⟩
 exact ⟨ps,rs,a,b,rfl,he,q0⟩
theorem lE (T:Txt K mg A) (hB:TabB base mg A.tc A.tP tqS):FnOk P w K mg base CX0 1 A.f_q57 A.d_q57 ["tree","one","other"] (aW [false,false,false] true (rK)):=by
 have S:=wM
 refine fnD T.t_q57.F S ⟨[false,false,false],[false,false,false,true,false],true⟩ _ ?hl rfl rfl fun cdv Ar outer s H E hr=>⟨_,(ad (bO (i:=3) S.nd rfl (Or.inl rfl) (eh ao))
  (ad (ip PassesOwn.never (aX (du hr.units) dNe (aa 1) (aa 2) (aQ _)) (ad (aP (i:=4) S.nd rfl (Or.inl rfl) (aE (cI rfl) kT rfl T.z_max fE (ae (aa 1) (ae (aa 2) ao))))
  (ad (cJ (i:=3) rfl (QE.qf (aa 4)))
  (af (lu (i:=1) (j:=2) rfl S.nd rfl rfl (by decide) rfl rfl (aE (iS rfl) dMin rfl T.z_min q8 (ae (aa 1) (ae (aa 2) ao))) (ap ai dIx (ap ai dIx (aa 0) ac (fun _ _=>rfl)) (aw bx dI (aa 4) ac) (fun _ _=>rfl)) rfl)))))
  (af (br (jP (bZ (QF.qm (QF.bor [3] (h9 eD lc rfl T.z_sorted ff (ae (aa 3) ao)))) (bZ (QF.qm (QE.qf (aa 1))) gM))))))),fun ds q h=>?_⟩
 case hl=>intro ds q h; obtain ⟨ps,rs,a,b,rfl,_⟩:=h; rfl
 obtain ⟨ps,rs,a,b,rfl,hT,a0,a1,b0,b1,q0⟩:=h
 refine ⟨rfl,?_⟩
 refine ⟨fun k ρ=>∃ a' b' acc v,ρ=[some (aK ps rs),some (.int a'),some (.int b'),some (au acc),v]∧0≤a'∧a'≤ps.length∧0≤b'∧b'≤ps.length∧k=(a' + b').toNat∧acc.length + (a' + b').toNat≤46∧(∀ w m,Climb ps a' b' w m→Climb ps a b (acc++w) m),⟨_,a,b,[],_,rfl,a0,a1,b0,b1,rfl,by have:=hT.hi; simp; omega,fun w m h=>h⟩,?_⟩
 rintro k ρ ⟨a',b',acc,v,rfl,a0',a1',b0',b1',rfl,hl,hc⟩
 have hi:=hT.hi
 refine (cj (c:=(!decide (a'=b'))=true) (fun c=>?_) (fun c=>?_))
 ·have hne:a'≠b':=by simpa using c
  have key:∀ (low hig:Int),low=(if b' > a' then b' else a')→hig=(if b'<a' then b' else a')→0<low∧low≤ps.length∧0≤hig∧hig≤ps.length∧low + hig=a' + b'∧(∀ w m,Climb ps hig (bu ps low) w m→Climb ps a' b' (low :: w) m):=by
   intro low hig e1 e2
   by_cases hlt:b'<a'
   ·rw [if_neg (by omega)] at e1; rw [if_pos hlt] at e2; subst e1; subst e2
    exact ⟨by omega,a1',b0',b1',by omega,fun w m h=>.left hlt h⟩
   ·rw [if_pos (by omega)] at e1; rw [if_neg hlt] at e2; subst e1; subst e2
    exact ⟨by omega,b1',a0',a1',by omega,fun w m h=>.right (by omega) h⟩
  obtain ⟨L,hL⟩:∃ L,L=(if b' > a' then b' else a'):=⟨_,rfl⟩
  obtain ⟨J,hJ⟩:∃ J,J=(if b'<a' then b' else a'):=⟨_,rfl⟩
  obtain ⟨k1,k2,k3,k4,k5,k6⟩:=key L J hL hJ
  have hp:=hT.up k1 k2
  refine ⟨rfl,?_⟩
  refine ⟨by show (acc.map D.int).length<1000; rw [List.length_map]; omega,?_⟩
  refine aT (bp (by rw [← hL]; omega) (by rw [← hL]; omega)) ?_
  refine ⟨(J + bu ps L).toNat,by omega,J,bu ps L,acc++[L],some (.int L),?_,k3,k4,hp.1,by omega,rfl,by rw [List.length_append]; show acc.length + 1 + _≤46; omega,fun w m h=>by rw [List.append_assoc]; exact hc _ _ (k6 _ _ h)⟩
  show [some (aK ps rs),some (.int (if b'<a' then b' else a')),some (.int (bu ps (if b' > a' then b' else a'))),some (D.lst (acc.map D.int++[D.int (if b' > a' then b' else a')])),some (.int (if b' > a' then b' else a'))]=_
  rw [← hL,← hJ,au,List.map_append]; rfl
 ·have:a'=b':=by simpa using c
  subst this
  have hw:=hc [] a' (.same a')
  rw [List.append_nil] at hw
  have hln:=hw.len hT a0 b0 a1 b1
  refine ⟨acc,rfl,by omega,cf _,rfl,?_⟩
  exact q0 acc a' hw
theorem xg (T:Txt K mg A) (hB:TabB base mg A.tc A.tP tqS):FnOk P w K mg base CX0 6 A.f_q16 A.d_q16 ["tree","one","other"] (aW [false,false,false] true (sdWay)):=by
 have S:=xq
 refine fnD T.t_q16.F S ⟨[false,false,false],[false,false,false,true,false],true⟩ _ ?hl rfl rfl fun cdv Ar outer s H E hr=>⟨_,(ad (bI (ag (pQ T hB) hr T.t_q6 (ah (aa 0) (ah (aa 1) (ah (aa 2) aj)))))
  (ad (jx rfl (QF.qm (aI (lE T hB) hr T.t_q57 (ah (aa 0) (ah (aa 1) (ah (aa 2) aj))))) (jn (i:=3) S.nd rfl (Or.inl rfl) (gU (i:=4) S.nd rfl (Or.inl rfl) jQ)) (am (am aV)))
  (af (br (cn 3))))),fun ds q h=>?_⟩
 case hl=>intro ds q h; obtain ⟨ps,rs,a,b,rfl,_⟩:=h; rfl
 obtain ⟨ps,rs,a,b,rfl,hT,he,q0⟩:=h
 refine ⟨ps,rs,a,b,rfl,hT,he,?_⟩
 refine ⟨ps,rs,a,b,rfl,hT,he.a0,he.a1,he.b0,he.b1,fun w m hw=>?_⟩
 exact q0 w m hw
theorem uF (T:Txt K mg A) (hB:TabB base mg A.tc A.tP tqS):FnOk P w K mg base CX0 6 A.f_q20 A.d_q20 ["tree","one","other"] (aW [false,false,false] false (vM)):=by
 have S:=wQ
 refine fnD T.t_q20.F S ⟨[false,false,false],[false,false,false,false,false],false⟩ _ ?hl rfl rfl fun cdv Ar outer s H E hr=>⟨_,(ad (bI (ag (pQ T hB) hr T.t_q6 (ah (aa 0) (ah (aa 1) (ah (aa 2) aj)))))
  (ad (d8 (QF.qe (aI (lE T hB) hr T.t_q57 (ah (aa 0) (ah (aa 1) (ah (aa 2) aj))))) (ci rfl (aA (ay (i:=3) S.nd rfl (Or.inl rfl)) (aA (ay (i:=4) S.nd rfl (Or.inl rfl)) bC)) (am (am aV))))
  (af (aJ (aa 4))))),fun ds q h=>?_⟩
 case hl=>intro ds q h; obtain ⟨ps,rs,a,b,rfl,_⟩:=h; rfl
 obtain ⟨ps,rs,a,b,rfl,hT,he,q0⟩:=h
 refine ⟨ps,rs,a,b,rfl,hT,he,?_⟩
 refine ⟨ps,rs,a,b,rfl,hT,he.a0,he.a1,he.b0,he.b1,fun w m hw=>?_⟩
 exact q0 w m hw
theorem xf (T:Txt K mg A) (hB:TabB base mg A.tc A.tP tqS):FnOk P w K mg base CX0 6 A.f_q11 A.d_q11 ["tree","one","other"] (aW [false,false,false] true (vV)):=by
 have S:=uA
 refine fnD T.t_q11.F S ⟨[false,false,false],[false,false,false,false,false],true⟩ _ ?hl rfl rfl fun cdv Ar outer s H E hr=>⟨_,(ad (bI (ag (pQ T hB) hr T.t_q6 (ah (aa 0) (ah (aa 1) (ah (aa 2) aj)))))
  (ad (d8 (QF.qe (aI (lE T hB) hr T.t_q57 (ah (aa 0) (ah (aa 1) (ah (aa 2) aj))))) (ci rfl (aA (ay (i:=3) S.nd rfl (Or.inl rfl)) (aA (ay (i:=4) S.nd rfl (Or.inr rfl)) bC)) (am (am aV))))
  (af (br (QF.qm (jI ["tie"] [4,0] ⟨rfl,rfl,by decide +kernel,rfl,rfl,(by first | exact trivial | exact ⟨rfl,trivial⟩ | exact ⟨rfl,rfl,trivial⟩ | exact ⟨rfl,rfl,rfl,trivial⟩ | exact ⟨rfl,rfl,rfl,rfl,trivial⟩),rfl⟩ rfl (a6 (aa 3)) (bH 0) (fun _ _ _ _=>⟨(bg (i:=0) (show List.Nodup (["tie","meeting","tree"]:List Str) by decide +kernel) rfl (Or.inl rfl)),(eC (aX (gt hr.units) dEq (ap ai dIx (ap ai dIx (aa 2) ac (fun _ _=>rfl)) (aw bx dI (aa 0) ac) (fun _ _=>rfl)) (aa 1) (aQ _))),(aa 0)⟩))))))),fun ds q h=>?_⟩
 case hl=>intro ds q h; obtain ⟨ps,rs,a,b,rfl,_⟩:=h; rfl
 obtain ⟨ps,rs,a,b,rfl,hT,he,q0⟩:=h
 refine ⟨ps,rs,a,b,rfl,hT,he,?_⟩
 refine ⟨ps,rs,a,b,rfl,hT,he.a0,he.a1,he.b0,he.b1,fun w m hw=>?_⟩
 have hln:=hw.len hT he.a0 he.b0 he.a1 he.b1
 have hi:=hT.hi
 have a1:=he.a1
 have b1:=he.b1
 refine ⟨by show ((bc w).map D.int).length≤1000; rw [List.length_map,i6]; omega,?_⟩
 refine dr (pf fun x=>decide (bu ps x=m)) ?_ ?_
 ·intro d hd k hk
  obtain ⟨x,hx,rfl⟩:=cF hd
  have hx':=hw.mem hT he.a0 he.b0 he.a1 he.b1 x ((aZ w).mem_iff.mp hx)
  refine aT (bp (by omega) (by omega)) ?_
  change k (if decide (bu ps x=m)=true then some (.int x) else none) at hk
  show if decide (bu ps x=m)=true then k (some (.int x)) else k none
  cases e:decide (bu ps x=m) with
  | true=>rw [e] at hk; exact hk
  | false=>rw [e] at hk; exact hk
 ·rw [fe]
  exact ⟨cf _,q0 w m hw⟩
theorem lf (T:Txt K mg A) (hB:TabB base mg A.tc A.tP tqS):FnOk P w K mg base CX0 7 A.f_q56 A.d_q56 ["tree","ask"] (aW [false,false] true (s8)):=by
 have S:=wF
 refine fnD T.t_q56.F S ⟨[false,false],[false,false],true⟩ _ ?hl rfl rfl fun cdv Ar outer s H E hr=>⟨_,(af (br (QF.qm (aI (xg T hB) hr T.t_q16 (ah (aa 0) (ah (ap ai dIx (aa 1) ac (fun _ _=>rfl)) (ah (ap ai dIx (aa 1) ac (fun _ _=>rfl)) aj))))))),fun ds q h=>?_⟩
 case hl=>intro ds q h; obtain ⟨ps,rs,a,rfl,_⟩:=h; rfl
 obtain ⟨ps,rs,a,rfl,hT,he,q0⟩:=h
 refine ⟨ps,rs,a.one,a.other,rfl,hT,he,fun w m hw=>?_⟩
 rw [(hw.way hT he.a0 he.b0 he.a1 he.b1).1]
 exact q0
theorem uP (T:Txt K mg A) (hB:TabB base mg A.tc A.tP tqS):FnOk P w K mg base CX0 5 A.f_q48 A.d_q48 ["tree","thing"] (aW [false,false] false (sV)):=by
 have S:=xm
 refine fnD T.t_q48.F S ⟨[false,false],[false,false,false,false,false,false],false⟩ _ ?hl rfl rfl fun cdv Ar outer s H E hr=>⟨_,(ad (a_ (QW.qt (fW (bv (bf (dJ rfl T.z_isinstance a7 (aa 1) (cN (v:=.ty "tuple") rfl T.z_tuple il rfl)))) (d6 (aX (du hr.units) dNe (aE az dz rfl T.z_len bj (ae (aa 1) ao)) ac (aQ _))))) (af (aJ dW)) aL)
  (ad (d8 (aa 1) (ci rfl (aA (ay (i:=2) S.nd rfl (Or.inl rfl)) (aA (ay (i:=3) S.nd rfl (Or.inl rfl)) (aA (ay (i:=4) S.nd rfl (Or.inl rfl)) (aA (ay (i:=5) S.nd rfl (Or.inl rfl)) bC)))) (am (am (am (am aV))))))
  (af (aJ (de (ag (oP T hB) hr T.t_q30 (ah (aa 0) (ah (aa 2) (ah (aa 3) aj)))) (de (ag (gu T hB) hr T.t_q18 (ah (aa 4) (ah ac (ah (dU (i:=1000000) rfl T.c_MOST_SIZE) aj)))) (eJ (ag (gu T hB) hr T.t_q18 (ah (aa 5) (ah ac (ah (dU (i:=1000000000000) rfl T.c_MOST_WORTH) aj))))))))))),fun ds q h=>?_⟩
 case hl=>intro ds q h; obtain ⟨ps,rs,a,rfl,_⟩:=h; rfl
 obtain ⟨ps,rs,a,rfl,ha,q0⟩:=h
 refine ⟨ps,rs,a.one,a.other,rfl,ha.ends,?_⟩
 refine ⟨.int a.size,1,1000000,rfl,rfl,?_⟩
 rw [d_ ha.s0 ha.s1]
 refine ⟨.int a.worth,1,1000000000000,rfl,rfl,?_⟩
 rw [d_ ha.w0 ha.w1]
 exact q0
theorem tV (T:Txt K mg A) (hB:TabB base mg A.tc A.tP tqS):FnOk P w K mg base CX0 6 A.f_q5 A.d_q5 ["tree","thing"] (aW [false,false] false (lg)):=by
 have S:=sc_q5
 refine fnD T.t_q5.F S ⟨[false,false],[false,false,false,false],false⟩ _ ?hl rfl rfl fun cdv Ar outer s H E hr=>⟨_,(ad (bI (ag (l4 T hB) hr T.t_q9 (ah (aa 0) aj)))
  (ad (a_ (QW.qt (fW (bv (bf (dJ rfl T.z_isinstance a7 (aa 1) (cN (v:=.ty "list") rfl T.z_list dH rfl)))) (d6 (aX eG dB (aE az dz rfl T.z_len bj (ae (aa 1) ao)) (dU (i:=30) rfl T.c_MOST_ASKS) (aQ _))))) (af bn) aL)
  (af (bz PassesOwn.never rfl (d5 rfl T.z_enumerate (ae (aa 1) ao)) (ci rfl (aA (ay (i:=2) S.nd rfl (Or.inl rfl)) (aA (ay (i:=3) S.nd rfl (Or.inl rfl)) bC)) (am (am aV))) (af (a_ (bv (bf (ag (uP T hB) hr T.t_q48 (ah (aa 0) (ah (aa 3) aj))))) (af bn) aL)))))),fun ds q h=>?_⟩
 case hl=>intro ds q h; obtain ⟨ps,rs,as,rfl,_⟩:=h; rfl
 obtain ⟨ps,rs,as,rfl,hT,ha,q0⟩:=h
 refine ⟨ps,rs,rfl,hT,?_⟩
 refine (cj (c:=decide ((30:Int)<((as.map bV).length:Int))=true) (fun c=>?_) (fun c=>?_))
 ·have:=ha.len; rw [a5] at c; simp at c; omega
 refine ⟨fun _ ρ=>∃ v1 v2,ρ=[some (aK ps rs),some (be as),v1,v2],⟨_,_,rfl⟩,?_,?_⟩
 ·rintro i d ρ hd ⟨v1,v2,rfl⟩
  obtain ⟨d',h1,rfl⟩:=dF hd
  obtain ⟨z,hz,rfl⟩:=lZ h1
  refine ⟨ps,rs,z,rfl,ha.ok z (List.mem_of_getElem? hz),?_⟩
  exact ⟨_,_,rfl⟩
 ·rintro ρ ⟨v1,v2,rfl⟩
  exact q0
end
end K37
namespace K37
open PySem L2
section
variable {P:Program} {w:World} {K:PySem.W.Frag} {mg:Str→Option Value} {base:Heap} {A:Adr}
theorem oe (T:Txt K mg A) (hB:TabB base mg A.tc A.tP tqS):FnOk P w K mg base CX0 1 A.f_q0 A.d_q0 ["number","bottom"] (aW [false,false] false (sdGcd)):=by
 have S:=sc_q0
 refine fnD T.t_q0.F S ⟨[false,false],[false,false],false⟩ _ ?hl rfl rfl fun cdv Ar outer s H E hr=>⟨_,(ad (ip PassesOwn.never (aX (du hr.units) dNe (aa 1) ac (aQ _)) (af (lu (i:=0) (j:=1) rfl S.nd rfl rfl (by decide) rfl rfl (aa 1) (aw dL dIC (aa 0) (aa 1)) rfl)))
  (af (aJ (aa 0)))),fun ds q h=>?_⟩
 case hl=>intro ds q h; obtain ⟨n,b,rfl,_⟩:=h; rfl
 obtain ⟨n,b,rfl,hb,q0⟩:=h
 refine ⟨fun k ρ=>∃ n' b':Int,ρ=[some (.int n'),some (.int b')]∧0≤b'∧b'.toNat=k∧cM n' b'=cM n b,⟨_,n,b,rfl,hb,rfl,rfl⟩,?_⟩
 rintro k ρ ⟨n',b',rfl,hb',hk,hg⟩
 refine (cj (c:=(!decide (b'=0))=true) (fun c=>?_) (fun c=>?_))
 ·have c':b'≠0:=by simpa using c
  have hp : 0<b':=by omega
  refine ⟨hp,?_⟩
  have:=Int.emod_lt_of_pos n' hp
  have:=Int.emod_nonneg n' (show b'≠0 by omega)
  exact ⟨_,by omega,b',n' % b',rfl,by omega,rfl,by rw [m9 hp]; exact hg⟩
 ·have c':b'=0:=by simpa using c
  subst c'
  have e:cM n b=n':=by rw [← hg]; unfold cM; rw [if_pos rfl]
  rw [e] at q0; exact q0
theorem gY (T:Txt K mg A) (hB:TabB base mg A.tc A.tP tqS):FnOk P w K mg base CX0 2 A.f_q31 A.d_q31 ["top","bottom"] (aW [false,false] false (uo)):=by
 have S:=uz
 refine fnD T.t_q31.F S ⟨[false,false],[false,false,false],false⟩ _ ?hl rfl rfl fun cdv Ar outer s H E hr=>⟨_,(ad (a_ (QW.qt (fW (bv (bf (ag (ix T hB) hr T.t_q34 (ah (aa 0) aj)))) (d6 (bv (bf (ag (ix T hB) hr T.t_q34 (ah (aa 1) aj))))))) (af bn) aL)
  (ad (a_ (aX (gt hr.units) dEq (aa 1) ac (aQ _)) (af bn) aL)
  (ad (ge (a_ (aX kG dB (aa 1) ac (aQ _)) (af (lu (i:=0) (j:=1) rfl S.nd rfl rfl (by decide) rfl rfl (oB (aa 0)) (oB (aa 1)) rfl)) aL))
  (ad (aP (i:=2) S.nd rfl (Or.inl rfl) (ag (oe T hB) hr T.t_q0 (ah (aa 0) (ah (aa 1) aj))))
  (af (aJ (cz (ae (aw eV dIC (aa 0) (aa 2)) (ae (aw eV dIC (aa 1) (aa 2)) ao))))))))),fun ds q h=>?_⟩
 case hl=>intro ds q h; obtain ⟨t,b,rfl,_⟩:=h; rfl
 obtain ⟨t,b,rfl,hb,hs,q0⟩:=h
 refine ⟨.int t,rfl,rfl,?_⟩
 refine ⟨.int b,rfl,rfl,?_⟩
 refine (cj (c:=decide (b=0)=true) (fun c=>absurd (of_decide_eq_true c) hb) (fun _=>?_))
 refine ⟨fun ρ=>∃ t' b':Int,ρ=[some (.int t'),some (.int b'),none]∧0<b'∧Sm b'∧Rat.divInt t' b'=Rat.divInt t b,?_,?_⟩
 ·refine (cj (c:=decide (b<0)=true) (fun c=>?_) (fun c=>?_))
  ·have c':b<0:=by simpa using c
   exact ⟨-t,-b,rfl,by omega,by show (-b).natAbs<_; rw [Int.natAbs_neg]; exact hs,Rat.neg_divInt_neg t b⟩
  ·have c' : ¬ b<0:=by simpa using c
   exact ⟨t,b,rfl,by omega,hs,rfl⟩
 ·rintro ρ ⟨t',b',rfl,hp,hs',he⟩
  refine ⟨t',b',rfl,Int.le_of_lt hp,?_⟩
  have g:=fN (n:=t') hp
  have gl:=mm (n:=t') hp
  have gs:Sm (cM t' b'):=by show (cM t' b').natAbs<_; exact Nat.lt_of_le_of_lt (by omega) hs'
  refine ⟨⟨g,gs⟩,⟨g,gs⟩,?_⟩
  rw [mH hp,lX hp,he]
  exact q0
theorem wJ (T:Txt K mg A) (hB:TabB base mg A.tc A.tP tqS):FnOk P w K mg base CX0 3 A.f_q64 A.d_q64 ["one","other"] (aW [false,false] false (vg)):=by
 have S:=vn
 refine fnD T.t_q64.F S ⟨[false,false],[false,false],false⟩ _ ?hl rfl rfl fun cdv Ar outer s H E hr=>⟨_,(af (aJ (ag (gY T hB) hr T.t_q31 (ah (aw bh dI (aw bF dIC (ap ai dIx (aa 0) ac (fun _ _=>rfl)) (ap ai dIx (aa 1) ac (fun _ _=>rfl))) (aw bF dIC (ap ai dIx (aa 1) ac (fun _ _=>rfl)) (ap ai dIx (aa 0) ac (fun _ _=>rfl)))) (ah (aw bF dIC (ap ai dIx (aa 0) ac (fun _ _=>rfl)) (ap ai dIx (aa 1) ac (fun _ _=>rfl))) aj))))),fun ds q h=>?_⟩
 case hl=>intro ds q h; obtain ⟨r,s,rfl,_⟩:=h; rfl
 obtain ⟨r,s,rfl,hr,hs,q0⟩:=h
 refine ⟨⟨hr.smN (by decide),hs.smD (by decide)⟩,⟨hs.smN (by decide),hr.smD (by decide)⟩,⟨hr.smD (by decide),hs.smD (by decide)⟩,?_⟩
 refine ⟨_,_,rfl,Int.ne_of_gt (cx r s),Sm.of (n:=7900) (by rw [bS,Int.natAbs_natCast,Int.natAbs_natCast]; exact a8 (m:=3950) (n:=3950) hr.den hs.den) (by decide),?_⟩
 rw [← rg]; exact q0
theorem vY (T:Txt K mg A) (hB:TabB base mg A.tc A.tP tqS):FnOk P w K mg base CX0 3 A.f_q60 A.d_q60 ["one","other"] (aW [false,false] false (tG)):=by
 have S:=w6
 refine fnD T.t_q60.F S ⟨[false,false],[false,false],false⟩ _ ?hl rfl rfl fun cdv Ar outer s H E hr=>⟨_,(af (aJ (ag (gY T hB) hr T.t_q31 (ah (aw bx dI (aw bF dIC (ap ai dIx (aa 0) ac (fun _ _=>rfl)) (ap ai dIx (aa 1) ac (fun _ _=>rfl))) (aw bF dIC (ap ai dIx (aa 1) ac (fun _ _=>rfl)) (ap ai dIx (aa 0) ac (fun _ _=>rfl)))) (ah (aw bF dIC (ap ai dIx (aa 0) ac (fun _ _=>rfl)) (ap ai dIx (aa 1) ac (fun _ _=>rfl))) aj))))),fun ds q h=>?_⟩
 case hl=>intro ds q h; obtain ⟨r,s,rfl,_⟩:=h; rfl
 obtain ⟨r,s,rfl,hr,hs,q0⟩:=h
 refine ⟨⟨hr.smN (by decide),hs.smD (by decide)⟩,⟨hs.smN (by decide),hr.smD (by decide)⟩,⟨hr.smD (by decide),hs.smD (by decide)⟩,?_⟩
 refine ⟨_,_,rfl,Int.ne_of_gt (cx r s),Sm.of (n:=7900) (by rw [bS,Int.natAbs_natCast,Int.natAbs_natCast]; exact a8 (m:=3950) (n:=3950) hr.den hs.den) (by decide),?_⟩
 rw [← qu]; exact q0
theorem pD (T:Txt K mg A) (hB:TabB base mg A.tc A.tP tqS):FnOk P w K mg base CX0 3 A.f_q61 A.d_q61 ["one","other"] (aW [false,false] false (sE)):=by
 have S:=uu
 refine fnD T.t_q61.F S ⟨[false,false],[false,false],false⟩ _ ?hl rfl rfl fun cdv Ar outer s H E hr=>⟨_,(af (aJ (ag (gY T hB) hr T.t_q31 (ah (aw bF dIC (ap ai dIx (aa 0) ac (fun _ _=>rfl)) (ap ai dIx (aa 1) ac (fun _ _=>rfl))) (ah (aw bF dIC (ap ai dIx (aa 0) ac (fun _ _=>rfl)) (ap ai dIx (aa 1) ac (fun _ _=>rfl))) aj))))),fun ds q h=>?_⟩
 case hl=>intro ds q h; obtain ⟨r,s,rfl,_⟩:=h; rfl
 obtain ⟨r,s,rfl,hr,hs,q0⟩:=h
 refine ⟨⟨hr.smN (by decide),hs.smN (by decide)⟩,⟨hr.smD (by decide),hs.smD (by decide)⟩,?_⟩
 refine ⟨_,_,rfl,Int.ne_of_gt (cx r s),Sm.of (n:=7900) (by rw [bS,Int.natAbs_natCast,Int.natAbs_natCast]; exact a8 (m:=3950) (n:=3950) hr.den hs.den) (by decide),?_⟩
 rw [← qW]; exact q0
theorem uW (T:Txt K mg A) (hB:TabB base mg A.tc A.tP tqS):FnOk P w K mg base CX0 3 A.f_q54 A.d_q54 ["one","other"] (aW [false,false] false (tu)):=by
 have S:=wj
 refine fnD T.t_q54.F S ⟨[false,false],[false,false],false⟩ _ ?hl rfl rfl fun cdv Ar outer s H E hr=>⟨_,(af (aJ (ag (gY T hB) hr T.t_q31 (ah (aw bF dIC (ap ai dIx (aa 0) ac (fun _ _=>rfl)) (ap ai dIx (aa 1) ac (fun _ _=>rfl))) (ah (aw bF dIC (ap ai dIx (aa 0) ac (fun _ _=>rfl)) (ap ai dIx (aa 1) ac (fun _ _=>rfl))) aj))))),fun ds q h=>?_⟩
 case hl=>intro ds q h; obtain ⟨r,s,rfl,_⟩:=h; rfl
 obtain ⟨r,s,rfl,hr,hs,hz,q0⟩:=h
 refine ⟨⟨hr.smN (by decide),hs.smD (by decide)⟩,⟨hr.smD (by decide),hs.smN (by decide)⟩,?_⟩
 refine ⟨_,_,rfl,Int.mul_ne_zero (Int.ne_of_gt (bE r)) (vQ hz),Sm.of (n:=7900) (by rw [bS,Int.natAbs_natCast]; exact a8 (m:=3950) (n:=3950) hr.den hs.num) (by decide),?_⟩
 rw [← vF]; exact q0
theorem lz (T:Txt K mg A) (hB:TabB base mg A.tc A.tP tqS):FnOk P w K mg base CX0 3 A.f_q55 A.d_q55 ["some"] (aW [false] false (wD)):=by
 have S:=wN
 refine fnD T.t_q55.F S ⟨[false],[false,false,false],false⟩ _ ?hl rfl rfl fun cdv Ar outer s H E hr=>⟨_,(ad (aP (i:=1) S.nd rfl (Or.inr rfl) ac)
  (ad (bz PassesOwn.never rfl (a6 (aa 0)) (ay (i:=2) S.nd rfl (Or.inl rfl)) (af (aP (i:=1) S.nd rfl (Or.inr rfl) (aw bF dIC (aw eV dIC (aa 1) (ag (oe T hB) hr T.t_q0 (ah (aa 1) (ah (ap ai dIx (aa 2) ac (fun _ _=>rfl)) aj)))) (ap ai dIx (aa 2) ac (fun _ _=>rfl))))))
  (af (aJ (ag (gY T hB) hr T.t_q31 (ah (aE (iM rfl) dSum rfl T.z_sum o3 (ae (c9 ["one"] [1] ⟨rfl,rfl,by decide +kernel,rfl,rfl,(by first | exact trivial | exact ⟨rfl,trivial⟩ | exact ⟨rfl,rfl,trivial⟩ | exact ⟨rfl,rfl,rfl,trivial⟩ | exact ⟨rfl,rfl,rfl,rfl,trivial⟩),rfl⟩ rfl (a6 (aa 0)) (bH 0) (fun _ _ _ _=>⟨(bg (i:=0) (show List.Nodup (["one","bottom"]:List Str) by decide +kernel) rfl (Or.inl rfl)),cY,(aw bF dIC (ap ai dIx (aa 0) ac (fun _ _=>rfl)) (aw eV dIC (aa 1) (ap ai dIx (aa 0) ac (fun _ _=>rfl))))⟩)) ao)) (ah (aa 1) aj))))))),fun ds q h=>?_⟩
 case hl=>intro ds q h; obtain ⟨rs,M,rfl,_⟩:=h; rfl
 obtain ⟨rs,M,rfl,hl,hn,hM,hp,q0⟩:=h
 refine ⟨fun i ρ=>∃ (B:Int) (v:Option D),ρ=[some (dQs rs),some (.int B),v]∧Com (rs.take i) M B,⟨1,_,rfl,rZ M⟩,?_,?_⟩
 ·rintro i d ρ hd ⟨B,v,rfl,hB⟩
  obtain ⟨r,hr,rfl⟩:∃ r,rs[i]? = some r∧dQ r=d:=by rw [List.getElem?_map,Option.map_eq_some_iff] at hd; exact hd
  have hd:=bE r
  have hmem:=List.mem_of_getElem? hr
  have hdp:=Nat.le_of_dvd hM (hn r hmem).2
  have hle:=hB.le hM
  have hB0:=hB.pos
  have g:=fN (n:=B) hd
  have gl:=mm (n:=B) hd
  refine ⟨B,r.den,rfl,Int.le_of_lt hd,?_⟩
  refine ⟨⟨g,Sm.of (n:=3900) (by omega) (by decide)⟩,⟨Sm.of (n:=3900) (Nat.lt_of_le_of_lt (fX g) (by omega)) (by decide),Sm.of (n:=3900) (by omega) (by decide)⟩,?_⟩
  refine ⟨_,_,rfl,?_⟩
  rw [List.take_add_one,hr]
  exact pM hB (hn r hmem).2
 ·rintro ρ ⟨B,v,rfl,hB⟩
  have el:(rs.map dQ).length=rs.length:=List.length_map _
  rw [el,List.take_length] at hB
  have hle:=hB.le hM
  have hB0:=hB.pos
  refine ⟨by rw [el]; omega,?_⟩
  refine ce (sumF B) ?_ ?_
  ·intro d hd k hk
   obtain ⟨r,hr,rfl⟩:=List.mem_map.mp hd
   have hd:=bE r
   have hdp:=Nat.le_of_dvd hM (hn r hr).2
   refine ⟨⟨hd,Sm.of (n:=3900) (by omega) (by decide)⟩,⟨Sm.of (hn r hr).1 (by decide),Sm.of (n:=3900) (Nat.lt_of_le_of_lt (fX hd) (by omega)) (by decide)⟩,?_⟩
   exact hk
  ·rw [pW]
   refine ⟨_,rfl,?_⟩
   refine ⟨_,B,rfl,by omega,Sm.of (n:=3900) (by omega) (by decide),?_⟩
   rw [kc hB0 hB.dv]
   exact q0
theorem wS (T:Txt K mg A) (hB:TabB base mg A.tc A.tP tqS):FnOk P w K mg base CX0 1 A.f_q62 A.d_q62 ["one","other"] (aW [false,false] false (rG)):=by
 have S:=u6
 refine fnD T.t_q62.F S ⟨[false,false],[false,false],false⟩ _ ?hl rfl rfl fun cdv Ar outer s H E hr=>⟨_,(af (aJ (dt kG dB (aw bF dIC (ap ai dIx (aa 0) ac (fun _ _=>rfl)) (ap ai dIx (aa 1) ac (fun _ _=>rfl))) (aw bF dIC (ap ai dIx (aa 1) ac (fun _ _=>rfl)) (ap ai dIx (aa 0) ac (fun _ _=>rfl))) (aQ _)))),fun ds q h=>?_⟩
 case hl=>intro ds q h; obtain ⟨r,s,rfl,_⟩:=h; rfl
 obtain ⟨r,s,rfl,hr,hs,q0⟩:=h
 refine ⟨⟨hr.smN (by decide),hs.smD (by decide)⟩,⟨hs.smN (by decide),hr.smD (by decide)⟩,?_⟩
 have e:decide (r<s)=decide (r.num * (s.den:Int)<s.num * (r.den:Int)):=decide_eq_decide.mpr (Rat.lt_iff r s)
 rw [e] at q0; exact q0
def nA:SpD:=fun ds q=>∃ (ps rs:List Int) (prs:List Rat),ds=[aK ps rs,dQs prs]∧Tree ps rs∧prs.length=ps.length∧(∀ r∈prs,0≤r)∧q .non []
theorem va (T:Txt K mg A) (hB:TabB base mg A.tc A.tP tqS):FnOk P w K mg base CX0 2 A.f_q13 A.d_q13 ["thing"] (aW [false] false (vE)):=by
 have S:=vf
 refine fnD T.t_q13.F S ⟨[false],[false,false,false],false⟩ _ ?hl rfl rfl fun cdv Ar outer s H E hr=>⟨_,(ad (a_ (QW.qt (fW (bv (bf (dJ rfl T.z_isinstance a7 (aa 0) (cN (v:=.ty "tuple") rfl T.z_tuple il rfl)))) (d6 (aX (du hr.units) dNe (aE az dz rfl T.z_len bj (ae (aa 0) ao)) ac (aQ _))))) (af (aJ dW)) aL)
  (ad (d8 (aa 0) (ci rfl (aA (ay (i:=1) S.nd rfl (Or.inl rfl)) (aA (ay (i:=2) S.nd rfl (Or.inl rfl)) bC)) (am (am aV))))
  (ad (a_ (QW.qt (fW (bv (bf (ag (ix T hB) hr T.t_q34 (ah (aa 1) aj)))) (d6 (bv (bf (ag (ix T hB) hr T.t_q34 (ah (aa 2) aj))))))) (af (aJ dW)) aL)
  (af (aJ (de (dt tN dB (aa 2) ac (aQ _)) (eJ (dt (gt hr.units) dEq (ag (oe T hB) hr T.t_q0 (ah (aa 1) (ah (aa 2) aj))) ac (aQ _))))))))),fun ds q h=>?_⟩
 case hl=>intro ds q h; obtain ⟨r,rfl,_⟩:=h; rfl
 obtain ⟨r,rfl,q0⟩:=h
 refine ⟨.int r.num,rfl,rfl,?_⟩
 refine ⟨.int r.den,rfl,rfl,?_⟩
 have hd:=bE r
 refine (cj (c:=decide ((1:Int)≤(r.den:Int))=true) (fun _=>?_) (fun c=>absurd (decide_eq_true (by omega)) c))
 refine ⟨r.num,r.den,rfl,Int.le_of_lt hd,?_⟩
 rw [sN r]
 exact q0
theorem u7 (T:Txt K mg A) (hB:TabB base mg A.tc A.tP tqS):FnOk P w K mg base CX0 3 A.f_q33 A.d_q33 ["thing"] (aW [false] false (vI)):=by
 have S:=wT
 refine fnD T.t_q33.F S ⟨[false],[false],false⟩ _ ?hl rfl rfl fun cdv Ar outer s H E hr=>⟨_,(af (aJ (de (ag (va T hB) hr T.t_q13 (ah (aa 0) aj)) (eJ (dt tN dB (ap ai dIx (aa 0) ac (fun _ _=>rfl)) ac (aQ _)))))),fun ds q h=>?_⟩
 case hl=>intro ds q h; obtain ⟨r,rfl,_⟩:=h; rfl
 obtain ⟨r,rfl,hr,q0⟩:=h
 refine ⟨r,rfl,?_⟩
 show q (.bl (decide ((0:Int)≤r.num))) []
 rw [decide_eq_true (qg hr)]; exact q0
theorem tW (T:Txt K mg A) (hB:TabB base mg A.tc A.tP tqS):FnOk P w K mg base CX0 4 A.f_q2 A.d_q2 ["tree","thing"] (aW [false,false] false (nA)):=by
 have S:=sc_q2
 refine fnD T.t_q2.F S ⟨[false,false],[false,false,false,false,false],false⟩ _ ?hl rfl rfl fun cdv Ar outer s H E hr=>⟨_,(ad (bI (ag (l4 T hB) hr T.t_q9 (ah (aa 0) aj)))
  (ad (a_ (bv (bf (dJ rfl T.z_isinstance a7 (aa 1) (cN (v:=.ty "list") rfl T.z_list dH rfl)))) (af bn) aL)
  (ad (ge (aP (i:=2) S.nd rfl (Or.inl rfl) (aE az dz rfl T.z_len bj (ae (ap ai dIx (aa 0) ac (fun _ _=>rfl)) ao))))
  (ad (bz PassesOwn.never rfl (d5 rfl T.z_enumerate (ae (nN (aa 1) so (rO (aa 2))) ao)) (ci rfl (aA (ay (i:=3) S.nd rfl (Or.inl rfl)) (aA (ay (i:=4) S.nd rfl (Or.inl rfl)) bC)) (am (am aV))) (af (a_ (bv (bf (ag (u7 T hB) hr T.t_q33 (ah (aa 4) aj)))) (af bn) aL)))
  (af (a_ (aX (du hr.units) dNe (aE az dz rfl T.z_len bj (ae (aa 1) ao)) (aa 2) (aQ _)) (af bn) aL)))))),fun ds q h=>?_⟩
 case hl=>intro ds q h; obtain ⟨ps,rs,prs,rfl,_⟩:=h; rfl
 obtain ⟨ps,rs,prs,rfl,hT,hl,hp,q0⟩:=h
 have hi:=hT.hi
 refine ⟨ps,rs,rfl,hT,?_⟩
 refine ⟨fun ρ=>∃ n:Int,n=ps.length∧ρ=[some (aK ps rs),some (dQs prs),some (.int n),none,none],⟨_,by rw [ar],rfl⟩,?_⟩
 rintro ρ ⟨n,rfl,rfl⟩
 have ec:jN (prs.map dQ) none (some ((ps.length:Nat):Int))=prs.map dQ:=mZ (by rw [List.length_map]; omega)
 refine ⟨fun i ρ=>∃ v1 v2,ρ=[some (aK ps rs),some (dQs prs),some (.int (ps.length:Int)),v1,v2],⟨_,_,rfl⟩,?_,?_⟩
 ·rintro i d ρ hd ⟨v1,v2,rfl⟩
  have hd:(lI (jN (prs.map dQ) none (some ((ps.length:Nat):Int))))[i]? = some d:=hd
  rw [ec] at hd
  obtain ⟨d',h1,rfl⟩:=dF hd
  obtain ⟨r,hr,rfl⟩:∃ r,prs[i]? = some r∧dQ r=d':=by rw [List.getElem?_map,Option.map_eq_some_iff] at h1; exact h1
  refine ⟨r,rfl,hp r (List.mem_of_getElem? hr),?_⟩
  exact ⟨_,_,rfl⟩
 ·rintro ρ ⟨v1,v2,rfl⟩
  refine (cj (c:=(!decide ((((prs.map dQ).length:Nat):Int)=(ps.length:Int)))=true) (fun c=>absurd c ?_) (fun _=>q0))
  rw [List.length_map,decide_eq_true (by omega)]; decide
def sQ:SpD:=fun ds q=>∃ a w l,ds=[bV a,au w,au l]∧(∀ t∈w,0<t∧t≤(l.length:Int))∧q .non [some (au (bG l w a.size))]
theorem wv (T:Txt K mg A) (hB:TabB base mg A.tc A.tP tqS):FnOk P w K mg base CX0 1 A.f_q53 A.d_q53 ["ask","way","load"] (aW [false,false,true] false (sQ)):=by
 have S:=uT
 refine fnD T.t_q53.F S ⟨[false,false,true],[false,false,true,false],false⟩ _ ?hl rfl rfl fun cdv Ar outer s H E hr=>⟨_,(af (bz PassesOwn.never rfl (a6 (aa 1)) (ay (i:=3) S.nd rfl (Or.inl rfl)) (af (rP (i:=2) rfl (ap ai dIx (aa 0) ac (fun _ _=>rfl)) (aw bx dI (aa 3) ac))))),fun ds q h=>?_⟩
 case hl=>intro ds q h; obtain ⟨a,w,l,rfl,_⟩:=h; rfl
 obtain ⟨a,w,l,rfl,hw,q0⟩:=h
 refine ⟨fun i ρ=>∃ v,ρ=[some (bV a),some (au w),some (au (bG l (w.take i) a.size)),v],⟨_,rfl⟩,?_,?_⟩
 ·rintro i d ρ hd ⟨v,rfl⟩
  obtain ⟨z,hz,rfl⟩:=dn hd
  have hm:=hw z (List.mem_of_getElem? hz)
  have hlen:(bG l (w.take i) a.size).length=l.length:=bJ _ _ _
  refine ⟨by omega,?_⟩
  rw [bp (by omega) (by omega)]
  show (match ixN ((bG l (w.take i) a.size).map D.int).length (z - 1) with | some _=>_ | none=>False)
  rw [ar,gN (by omega) (by omega)]
  refine ⟨some (.int z),?_⟩
  rw [List.take_add_one,hz]
  show _=[_,_,some (au (bG l (_++[z]) a.size)),_]
  rw [jd,gc,← iU]; rfl
 ·rintro ρ ⟨v,rfl⟩
  rw [ar,List.take_length]
  exact q0
theorem pF (T:Txt K mg A) (hB:TabB base mg A.tc A.tP tqS):FnOk P w K mg base CX0 8 A.f_q25 A.d_q25 ["tree","ask","load"] (aW [false,false,false] true (lP)):=by
 have S:=w4
 refine fnD T.t_q25.F S ⟨[false,false,false],[false,false,false,true],true⟩ _ ?hl rfl rfl fun cdv Ar outer s H E hr=>⟨_,(ad (bO (i:=3) S.nd rfl (Or.inl rfl) (iY d9 oI rfl T.z_list dH (ae (aa 2) ao)))
  (ad (bI (ag (wv T hB) hr T.t_q53 (ah (aa 1) (ah (QF.qe (aI (lf T hB) hr T.t_q56 (ah (aa 0) (ah (aa 1) aj)))) (eH 3 aj)))))
  (af (br (cn 3))))),fun ds q h=>?_⟩
 case hl=>intro ds q h; obtain ⟨ps,rs,a,l,rfl,_⟩:=h; rfl
 obtain ⟨ps,rs,a,l,rfl,hT,he,hl,q0⟩:=h
 refine ⟨cf _,?_⟩
 refine ⟨ps,rs,a,rfl,hT,he,?_⟩
 refine ⟨a,aq ps a,l,rfl,fun t ht=>?_,q0⟩
 have hm:=bd hT he ht
 rw [hl]; exact ⟨by omega,by omega⟩
end
end K37
namespace K37
open PySem L2
section
variable {P:Program} {w:World} {K:PySem.W.Frag} {mg:Str→Option Value} {base:Heap} {A:Adr}
theorem lS (T:Txt K mg A) (hB:TabB base mg A.tc A.tP tqS):FnOk P w K mg base CX0 8 A.f_q35 A.d_q35 ["tree","ask","weight","prices"] (aW [false,false,false,false] false (o9)):=by
 have S:=vj
 refine fnD T.t_q35.F S ⟨[false,false,false,false],[false,false,false,false,false,false],false⟩ _ ?hl rfl rfl fun cdv Ar outer s H E hr=>⟨_,(ad (aP (i:=4) S.nd rfl (Or.inl rfl) (ag (lz T hB) hr T.t_q55 (ah (c9 ["tie"] [3] ⟨rfl,rfl,by decide +kernel,rfl,rfl,(by first | exact trivial | exact ⟨rfl,trivial⟩ | exact ⟨rfl,rfl,trivial⟩ | exact ⟨rfl,rfl,rfl,trivial⟩ | exact ⟨rfl,rfl,rfl,rfl,trivial⟩),rfl⟩ rfl (a6 (QF.qe (aI (lf T hB) hr T.t_q56 (ah (aa 0) (ah (aa 1) aj))))) (bH 0) (fun _ _ _ _=>⟨(bg (i:=0) (show List.Nodup (["tie","prices"]:List Str) by decide +kernel) rfl (Or.inl rfl)),cY,(ap ai dIx (aa 1) (aw bx dI (aa 0) ac) (fun _ _=>rfl))⟩)) aj)))
  (ad (aP (i:=5) S.nd rfl (Or.inl rfl) (ag (vY T hB) hr T.t_q60 (ah (cz (ae (ap ai dIx (aa 1) ac (fun _ _=>rfl)) (ae ac ao))) (ah (ag (pD T hB) hr T.t_q61 (ah (cz (ae (aa 2) (ae ac ao))) (ah (aa 4) aj))) aj))))
  (af (aJ (ij (bf (ag (wS T hB) hr T.t_q62 (ah (cz (ae ac (ae ac ao))) (ah (aa 5) aj)))) (aa 5) (cz (ae ac (ae ac ao)))))))),fun ds q h=>?_⟩
 case hl=>intro ds q h; obtain ⟨ps,rs,a,w,prs,M,b,rfl,_⟩:=h; rfl
 obtain ⟨ps,rs,a,w,prs,M,b,rfl,hT,ha,hw0,hw1,hp,M0,hM,hb,q0⟩:=h
 have hwl:=dN hT ha.ends
 have hpl:=hp.len
 obtain ⟨hpa,p0,p1,pd⟩:=nP hT ha.ends hp
 have hpb:Bt (bi ps a prs) (400 + 66):=fq p0 p1 pd M0 hM (Nat.le_trans (Nat.mul_le_mul_left _ hb) (by decide))
 refine ⟨ps,rs,a,rfl,hT,ha.ends,?_⟩
 refine ⟨by rw [ar]; exact Nat.le_trans hwl (by decide),?_⟩
 refine ce (rq prs) ?_ ?_
 ·intro d hd k hk
  obtain ⟨t,ht,rfl⟩:=cF hd
  have hm:=bd hT ha.ends ht
  refine aT (kW (by omega) (by omega)) ?_
  exact hk
 ·rw [lK]
  refine ⟨_,M,rfl,by rw [List.length_map]; exact Nat.le_trans hwl (by decide),fun r hr=>?_,M0,Nat.lt_of_lt_of_le hM (eN (by decide)),?_⟩
  ·obtain ⟨r0,r1,r2⟩:=hp.ok r (hpa r hr)
   exact ⟨(Bt.mono (fq r0 r1 r2 M0 hM hb) (by decide)).num,r2.den M0⟩
  have e1:D.tup [.int w,.int 1]=dQ (w:Rat):=jT w
  have e2:D.tup [.int a.worth,.int 1]=dQ (a.worth:Rat):=jT a.worth
  have bw:Bt (w:Rat) 20:=jX 1000000 (by omega) (by decide) (by decide)
  have ba:Bt (a.worth:Rat) 40:=jX 1000000000000 (by have:=ha.w0; have:=ha.w1; omega) (by decide) (by decide)
  have bt:Bt ((w:Rat) * bi ps a prs) 500:=(bw.mul hpb).mono (by decide)
  have bm:Bt ((a.worth:Rat) - (w:Rat) * bi ps a prs) 600:=(ba.sub bt).mono (by decide)
  refine ⟨(w:Rat),bi ps a prs,by rw [← e1]; rfl,bw.mono (by decide),hpb.mono (by decide),?_⟩
  refine ⟨(a.worth:Rat),(w:Rat) * bi ps a prs,by rw [← e2],ba.mono (by decide),bt.mono (by decide),?_⟩
  refine ⟨0,(a.worth:Rat) - (w:Rat) * bi ps a prs,rfl,bt0 (by decide),bm.mono (by decide),?_⟩
  have eq:aB ps a w prs=c_ ((a.worth:Rat) - (w:Rat) * bi ps a prs):=rfl
  rw [eq] at q0
  unfold c_ at q0
  refine (cj (c:=decide ((0:Rat)<(a.worth:Rat) - (w:Rat) * bi ps a prs)=true) (fun c=>?_) (fun c=>?_))
  ·rw [if_pos (of_decide_eq_true c)] at q0; exact q0
  ·rw [if_neg (fun z=>c (decide_eq_true z))] at q0; exact q0
theorem ok_q3 (T:Txt K mg A) (hB:TabB base mg A.tc A.tP tqS):FnOk P w K mg base CX0 7 A.f_q3 A.d_q3 ["tree","asks"] (aW [false,false] false (wK)):=by
 have S:=sc_q3
 refine fnDc T.t_q3.F T.hc S ⟨[false,false],[false,false,false,false],false⟩ _ ?hl rfl rfl fun Ar outer s H E hr=>⟨_,(ad (aP (i:=2) S.nd rfl (Or.inr rfl) (QF.qe (aI (wZ T hB) hr T.t_q47 (ah (aa 0) aj))))
  (ad (aP (i:=3) S.nd rfl (Or.inr rfl) (c9 ["ask"] [2,0] ⟨rfl,rfl,by decide +kernel,rfl,rfl,(by first | exact trivial | exact ⟨rfl,trivial⟩ | exact ⟨rfl,rfl,trivial⟩ | exact ⟨rfl,rfl,rfl,trivial⟩ | exact ⟨rfl,rfl,rfl,rfl,trivial⟩),rfl⟩ rfl (a6 (aa 1)) (bH 0) (fun _ _ _ _=>⟨(bg (i:=0) (show List.Nodup (["ask","deep","tree"]:List Str) by decide +kernel) rfl (Or.inl rfl)),cY,(ap ai dIx (aa 1) (ag (uF T hB) hr T.t_q20 (ah (aa 2) (ah (ap ai dIx (aa 0) ac (fun _ _=>rfl)) (ah (ap ai dIx (aa 0) ac (fun _ _=>rfl)) aj)))) (fun _ _=>rfl))⟩)))
  (af (aJ (oH (j:=3) hr rfl T.z_sorted rfl T.z_range (aE az dz rfl T.z_len bj (ae (aa 1) ao)) rfl rfl rfl hB))))),fun ds q h=>?_⟩
 case hl=>intro ds q h; obtain ⟨ps,rs,as,rfl,_⟩:=h; rfl
 obtain ⟨ps,rs,as,rfl,hT,ha,q0⟩:=h
 have hal:=ha.len
 refine ⟨ps,rs,rfl,hT,fun e he=>?_⟩
 have hel:=he.len
 refine ⟨by rw [a5]; omega,?_⟩
 refine ce (metF ps e) ?_ ?_
 ·intro d hd k hk
  obtain ⟨a,hm,rfl⟩:=List.mem_map.mp hd
  have hok:=(ha.ok a hm).ends
  refine ⟨ps,rs,a.one,a.other,rfl,hT,hok,fun w m hw=>?_⟩
  have hmm:=hw.way hT hok.a0 hok.b0 hok.a1 hok.b1
  have hb:=hw.low hT hok.a0 hok.b0 hok.a1 hok.b1
  have ha1:=hok.a1
  refine aT (bp (by omega) (by omega)) ?_
  rw [hmm.2]
  exact hk
 ·rw [oo]
  refine ⟨by rw [a5]; omega,by rw [a5]; omega,jG ps e as,rfl,by rw [a5]; unfold jG; rw [List.length_map]; omega,fun o ho=>?_⟩
  rw [a5] at ho
  exact q0 o ⟨e,he,ho⟩
theorem uk (T:Txt K mg A) (hB:TabB base mg A.tc A.tP tqS):FnOk P w K mg base CX0 7 A.f_q21 A.d_q21 ["tree","ask","prices","step"] (aW [false,false,true,false] false (s9)):=by
 have S:=uG
 refine fnD T.t_q21.F S ⟨[false,false,true,false],[false,false,true,false,false],false⟩ _ ?hl rfl rfl fun cdv Ar outer s H E hr=>⟨_,(af (bz PassesOwn.never rfl (a6 (QF.qe (aI (xf T hB) hr T.t_q11 (ah (aa 0) (ah (ap ai dIx (aa 1) ac (fun _ _=>rfl)) (ah (ap ai dIx (aa 1) ac (fun _ _=>rfl)) aj)))))) (ay (i:=4) S.nd rfl (Or.inl rfl)) (af (fJ (i:=2) rfl (QF.bor [2] (QE.qf (ag (wJ T hB) hr T.t_q64 (ah (ap ai dIx (aa 2) (aw bx dI (aa 4) ac) (fun _ _=>rfl)) (ah (aa 3) aj))))) (aw bx dI (aa 4) ac))))),fun ds q h=>?_⟩
 case hl=>intro ds q h; obtain ⟨ps,rs,a,prs,st,M,b,X,rfl,_⟩:=h; rfl
 obtain ⟨ps,rs,a,prs,st,M,b,X,rfl,hT,he,hp,s0,s1,sd,M0,hM,hb,q0⟩:=h
 have hpl:=hp.len
 obtain ⟨t1,t2⟩:=fY hT he
 refine ⟨ps,rs,a.one,a.other,rfl,hT,he,fun w m hw=>?_⟩
 have hcw:=hw.way hT he.a0 he.b0 he.a1 he.b1
 have et:eL ps w m=aG ps a:=by unfold eL aG aq; rw [hcw.1,hcw.2]
 rw [et]
 have hbs:Bt st 460:=fq s0 s1 sd M0 hM (x:=60) (Nat.le_trans (show X≤b + 46 * X by omega) hb)
 refine ⟨fun i ρ=>∃ v,ρ=[some (aK ps rs),some (bV a),some (dQs (bb st prs ((aG ps a).take i))),some (dQ st),v],⟨_,rfl⟩,?_,?_⟩
 ·rintro i d ρ hd ⟨v,rfl⟩
  obtain ⟨z,hz,rfl⟩:=dn hd
  have hm:=t1 z (List.mem_of_getElem? hz)
  have hP:=PrM.raise s0 s1 sd (w:=(aG ps a).take i) (fun t ht=>t1 t (List.mem_of_mem_take ht)) hp
  have hlen:=hP.len
  have hbb:b + ((aG ps a).take i).length * X≤2 ^ 60:=Nat.le_trans (Nat.add_le_add_left (Nat.mul_le_mul_right _ (by rw [List.length_take]; omega)) _) hb
  obtain ⟨o0,o1,o2⟩:=hP.ok _ (gq (rs:=bb st prs ((aG ps a).take i)) (k:=(z - 1).toNat) (by omega))
  refine aT (kW (by omega) (by omega)) ?_
  refine ⟨_,st,rfl,(fq o0 o1 o2 M0 hM hbb).mono (by decide),hbs.mono (by decide),?_⟩
  refine ⟨rfl,?_⟩
  show (match ixN ((bb st prs ((aG ps a).take i)).map dQ).length (z - 1) with | some _=>_ | none=>False)
  rw [List.length_map,gN (by omega) (by omega)]
  refine ⟨some (.int z),?_⟩
  rw [List.take_add_one,hz]
  show _=[_,_,some (dQs (bb st prs (_++[z]))),_,_]
  rw [kO,← mI]; rfl
 ·rintro ρ ⟨v,rfl⟩
  rw [ar,List.take_length]
  exact q0
theorem uQ (T:Txt K mg A) (hB:TabB base mg A.tc A.tP tqS):FnOk P w K mg base CX0 1 A.f_q42 A.d_q42 ["tree","ask","way","load"] (aW [false,false,false,false] true (pB)):=by
 have S:=wc
 refine fnD T.t_q42.F S ⟨[false,false,false,false],[false,false,false,false],true⟩ _ ?hl rfl rfl fun cdv Ar outer s H E hr=>⟨_,(af (br (QF.qm (jI ["tie"] [3,1,0] ⟨rfl,rfl,by decide +kernel,rfl,rfl,(by first | exact trivial | exact ⟨rfl,trivial⟩ | exact ⟨rfl,rfl,trivial⟩ | exact ⟨rfl,rfl,rfl,trivial⟩ | exact ⟨rfl,rfl,rfl,rfl,trivial⟩),rfl⟩ rfl (a6 (aa 2)) (bH 0) (fun _ _ _ _=>⟨(bg (i:=0) (show List.Nodup (["tie","load","ask","tree"]:List Str) by decide +kernel) rfl (Or.inl rfl)),(eC (aX eG dB (aw bh dI (ap ai dIx (aa 1) (aw bx dI (aa 0) ac) (fun _ _=>rfl)) (ap ai dIx (aa 2) ac (fun _ _=>rfl))) (ap ai dIx (ap ai dIx (aa 3) ac (fun _ _=>rfl)) (aw bx dI (aa 0) ac) (fun _ _=>rfl)) (aQ _))),(aa 0)⟩))))),fun ds q h=>?_⟩
 case hl=>intro ds q h; obtain ⟨ps,rs,a,w,l,rfl,_⟩:=h; rfl
 obtain ⟨ps,rs,a,w,l,rfl,hT,hw,hwl,hl,q0⟩:=h
 have hlr:=hT.len
 refine ⟨by rw [ar]; omega,?_⟩
 refine dr (jR rs a.size l) ?_ ?_
 ·intro d hd k hk
  obtain ⟨t,ht,rfl⟩:=cF hd
  have hm:=hw t ht
  refine aT (bp (by omega) (by omega)) ?_
  refine aT (bp (by omega) (by omega)) ?_
  have e:jR rs a.size l (.int t)=if decide (rs.getD (t - 1).toNat 0<l.getD (t - 1).toNat 0 + a.size)=true then some (.int t) else none:=rfl
  rw [e] at hk
  show if decide (rs.getD (t - 1).toNat 0<l.getD (t - 1).toNat 0 + a.size)=true then k (some (.int t)) else k none
  by_cases h:decide (rs.getD (t - 1).toNat 0<l.getD (t - 1).toNat 0 + a.size)=true
  ·rw [if_pos h] at hk ⊢; exact hk
  ·rw [if_neg h] at hk ⊢; exact hk
 ·rw [h_]
  exact ⟨cf _,q0⟩
theorem uV (T:Txt K mg A) (hB:TabB base mg A.tc A.tP tqS):FnOk P w K mg base CX0 8 A.f_q26 A.d_q26 ["tree","ask","load"] (aW [false,false,false] true (lF)):=by
 have S:=wV
 refine fnD T.t_q26.F S ⟨[false,false,false],[false,false,false],true⟩ _ ?hl rfl rfl fun cdv Ar outer s H E hr=>⟨_,(af (br (QF.qm (aI (uQ T hB) hr T.t_q42 (ah (aa 0) (ah (aa 1) (ah (QF.qe (aI (lf T hB) hr T.t_q56 (ah (aa 0) (ah (aa 1) aj)))) (ah (aa 2) aj)))))))),fun ds q h=>?_⟩
 case hl=>intro ds q h; obtain ⟨ps,rs,a,l,rfl,_⟩:=h; rfl
 obtain ⟨ps,rs,a,l,rfl,hT,he,hl,q0⟩:=h
 refine ⟨ps,rs,a,rfl,hT,he,?_⟩
 exact ⟨ps,rs,a,aq ps a,l,rfl,hT,fun t ht=>bd hT he ht,Nat.le_trans (dN hT he) (by decide),hl,q0⟩
theorem o8 (T:Txt K mg A) (hB:TabB base mg A.tc A.tP tqS):FnOk P w K mg base CX0 9 A.f_q43 A.d_q43 ["tree","asks","terms"] (aW [false,false,false] true (xa)):=by
 have S:=ul
 refine fnD T.t_q43.F S ⟨[false,false,false],[false,false,false,true,true,true,false,false,false],true⟩ _ ?hl rfl rfl fun cdv Ar outer s H E hr=>⟨_,(ad (bO (i:=3) S.nd rfl (Or.inl rfl) (mF gg nB (bX (ae (cz (ae ac (ae ac ao))) ao)) (aE az dz rfl T.z_len bj (ae (ap ai dIx (aa 0) ac (fun _ _=>rfl)) ao))))
  (ad (bO (i:=4) S.nd rfl (Or.inl rfl) (mF gg nB (bX (ae (cz (ae ac (ae ac ao))) ao)) (aE az dz rfl T.z_len bj (ae (aa 1) ao))))
  (ad (bO (i:=5) S.nd rfl (Or.inl rfl) (eh ao))
  (ad (bz PassesOwn.never rfl (a6 (ag (ok_q3 T hB) hr T.t_q3 (ah (aa 0) (ah (aa 1) aj)))) (ay (i:=6) S.nd rfl (Or.inl rfl)) (af (a_ (aX mJ tJ (ap ai dIx (aa 2) (aa 6) (fun _ _=>rfl)) fG (aQ _)) (ad (d8 (ap ai dIx (aa 2) (aa 6) (fun _ _=>rfl)) (ci rfl (aA (ay (i:=7) S.nd rfl (Or.inl rfl)) (aA (ay (i:=8) S.nd rfl (Or.inl rfl)) bC)) (am (am aV))))
  (ad (ge (fJ (i:=4) rfl (QF.bor [3] (QE.qf (ag (lS T hB) hr T.t_q35 (ah (aa 0) (ah (ap ai dIx (aa 1) (aa 6) (fun _ _=>rfl)) (ah (aa 7) (ah (aa 3) aj))))))) (aa 6)))
  (af (a_ (QT.bor [4] (aX (du hr.units) dNe (ap ai dIx (aa 4) (aa 6) (fun _ _=>rfl)) (cz (ae ac (ae ac ao))) (aQ _))) (ad (cJ (i:=5) rfl (QE.qf (aa 6)))
  (af (bI (QE.bor [4] (ag (uk T hB) hr T.t_q21 (ah (aa 0) (ah (ap ai dIx (aa 1) (aa 6) (fun _ _=>rfl)) (eH 3 (ah (ag (uW T hB) hr T.t_q54 (ah (ap ai dIx (aa 4) (aa 6) (fun _ _=>rfl)) (ah (cz (ae (aa 8) (ae ac ao))) aj))) aj))))))))) aL)))) aL)))
  (af (br (jP (bZ (cn 5) (bZ (cn 3) (bZ (cn 4) gM)))))))))),fun ds q h=>?_⟩
 case hl=>intro ds q h; obtain ⟨ps,rs,as,ts,rfl,_⟩:=h; rfl
 obtain ⟨ps,rs,as,ts,rfl,hT,ha,htl,hts,q0⟩:=h
 have hal:=ha.len
 have hti:=hT.hi
 refine ⟨⟨by rw [ar]; omega,by rw [ar]; omega,by rw [ar]; simp; omega⟩,?_⟩
 rw [ar,dR,Int.toNat_natCast]
 have ez:∀ n:Nat,List.replicate n (D.tup [.int 0,.int 1])=(List.replicate n (0:Rat)).map dQ:=fun n=>by rw [List.map_replicate]; rfl
 rw [ez]
 refine ⟨gW _,?_⟩
 refine ⟨⟨by rw [a5]; omega,by rw [a5]; omega,by rw [a5]; simp; omega⟩,?_⟩
 rw [a5,dR,Int.toNat_natCast,ez]
 refine ⟨gW _,?_⟩
 refine ⟨rfl,?_⟩
 refine ⟨ps,rs,as,rfl,hT,ha,fun o ho=>?_⟩
 obtain ⟨hol,hor⟩:=ho.mem
 refine ⟨fun i ρ=>∃ v6 v7 v8,ρ=[some (aK ps rs),some (be as),some (lD ts),some (dQs (bB ps as ts (o.take i)).prs),some (dQs (bB ps as ts (o.take i)).rests),some (au (bB ps as ts (o.take i)).pile),v6,v7,v8],⟨_,_,_,rfl⟩,?_,?_⟩
 ·rintro i d ρ hd ⟨v6,v7,v8,rfl⟩
  obtain ⟨z,hz,rfl⟩:=dn hd
  have hz1:=hor z (List.mem_of_getElem? hz)
  have hil:i<o.length:=(List.getElem?_eq_some_iff.mp hz).1
  have hP:=g8 hT ha hts hor i (Nat.le_of_lt hil)
  have es:bB ps as ts (o.take (i + 1))=dE ps as ts (bB ps as ts (o.take i)) z:=by rw [List.take_add_one,hz]; exact fz ..
  generalize hS:bB ps as ts (o.take i)=S at hP es
  obtain ⟨rl,pl,pm,M,M0,hM,hM2⟩:=hP
  have hM':M<2 ^ 400:=Nat.lt_of_le_of_lt hM (Nat.lt_of_le_of_lt (Nat.pow_le_pow_right (n:=64) (by decide) (show i≤30 by omega)) (by decide))
  have hb':i * 46000000000000≤2 ^ 60:=Nat.le_trans (Nat.mul_le_mul_right _ (show i≤30 by omega)) (by decide)
  have htm:atI (ts.map fm) z=some (fm (ts.getD z.toNat none)):=by
   refine gK (f:=fm) ?_
   have e:z=((z.toNat:Nat):Int):=by omega
   have h:atI ts ((z.toNat:Nat):Int)=some (ts.getD z.toNat none):=eX (by rw [List.getD_eq_getElem?_getD,List.getElem?_eq_getElem (by omega)]; rfl)
   rw [← e] at h; exact h
  refine aT htm ?_
  have hat:=dq (as:=as) hz1.1 hz1.2
  cases htz:ts.getD z.toNat none with
  | none =>
   have es':dE ps as ts S z=S:=by unfold dE; rw [htz]
   rw [es'] at es
   refine ⟨some (.int z),v7,v8,?_⟩
   rw [es]; rfl
  | some wp =>
   obtain ⟨w,p⟩:=wp
   rw [htz] at htm
   have es':dE ps as ts S z=fu ps as S z w p:=by unfold dE; rw [htz]
   rw [es'] at es
   have hok:=bY ha hz1.1 hz1.2
   have hwp:=hts w p (by
    rw [List.getD_eq_getElem?_getD] at htz
    cases q:ts[z.toNat]? with
    | none=>rw [q] at htz; cases htz
    | some x=>rw [q] at htz; cases htz; exact List.mem_of_getElem? q)
   have hpl:=hM2.len
   obtain ⟨x0,x1,x2⟩:=e_ hT hok hwp.1 hM2
   have hrs:(S.rests.set z.toNat (aB ps (av as z) w S.prs)).getD z.toNat 0=aB ps (av as z) w S.prs:=by rw [List.getD_eq_getElem?_getD,List.getElem?_set_self (by omega)]; rfl
   have hra:atI ((S.rests.set z.toNat (aB ps (av as z) w S.prs)).map dQ) z=some (dQ (aB ps (av as z) w S.prs)):=by
    have:=kW (rs:=S.rests.set z.toNat (aB ps (av as z) w S.prs)) (i:=z) hz1.1 (by rw [List.length_set]; omega)
    rw [hrs] at this; exact this
   refine aT htm ?_
   refine ⟨fun ρ=>ρ=[some (aK ps rs),some (be as),some (lD ts),some (dQs S.prs),some (dQs (S.rests.set z.toNat (aB ps (av as z) w S.prs))),some (au S.pile),some (.int z),some (.int w),some (.int p)],?_,?_⟩
   ·refine aT hat ?_
    refine ⟨ps,rs,av as z,w,S.prs,M,_,rfl,hT,hok,hwp.1,hwp.2.1,hM2,M0,hM',hb',?_⟩
    refine ⟨rfl,?_⟩
    show (match ixN (S.rests.map dQ).length z with | some _=>_ | none=>False)
    rw [List.length_map,gN (by omega) (by omega)]
    show _=_
    rw [← mI]; rfl
   ·rintro ρ rfl
    refine aT hra ?_
    refine ⟨pe _,pe 0,?_⟩
    have e0:(!eqD (dQ (aB ps (av as z) w S.prs)) (dQ 0)) = !decide (aB ps (av as z) w S.prs=0):=by rw [eqDq]
    refine (cj (c:=(!eqD (dQ (aB ps (av as z) w S.prs)) (dQ 0))=true) (fun c=>?_) (fun c=>?_))
    ·rw [e0] at c
     have c':aB ps (av as z) w S.prs≠0:=by simpa using c
     have ep:fu ps as S z w p=⟨S.pile++[z],bb (aB ps (av as z) w S.prs / (p:Rat)) S.prs (aG ps (av as z)),S.rests.set z.toNat (aB ps (av as z) w S.prs)⟩:=by unfold fu; rw [if_neg c']
     rw [ep] at es
     have hp1:D.tup [.int p,.int 1]=dQ (p:Rat):=jT p
     have hp0:(p:Rat)≠0:=fun h=>by have:=Rat.intCast_eq_zero_iff.mp h; omega
     have bs:=fq x0 x1 x2 M0 hM' (x:=60) (by decide)
     obtain ⟨d0,d1⟩:=gb x0 x1 hwp.2.2.1
     have hd:DvM (aB ps (av as z) w S.prs / (p:Rat)) (M * p.toNat):=by
      have:=x2.div (n:=p.toNat) (by omega)
      rw [show ((p.toNat:Nat):Int)=p by omega] at this
      exact this
     have hi2:i + 1≤31:=by omega
     have hMp:M * p.toNat<2 ^ 400:=Nat.lt_of_le_of_lt (Nat.mul_le_mul hM (show p.toNat≤64 by omega)) (Nat.lt_of_le_of_lt (show 64 ^ i * 64≤64 ^ 31 by rw [← Nat.pow_succ]; exact Nat.pow_le_pow_right (by decide) hi2) (by decide))
     refine ⟨rfl,by rw [ar]; omega,?_⟩
     refine aT hat ?_
     refine aT hra ?_
     refine ⟨aB ps (av as z) w S.prs,(p:Rat),by rw [← hp1],bs.mono (by decide),(jX (n:=10) 64 (by omega) (by decide) (by decide)).mono (by decide),hp0,?_⟩
     refine ⟨ps,rs,av as z,S.prs,_,M * p.toNat,i * 46000000000000,1000000000000,rfl,hT,hok.ends,hM2.up _,d0,d1,hd,Nat.mul_pos M0 (by omega),hMp,Nat.le_trans (Nat.add_le_add_right (Nat.mul_le_mul_right _ (show i≤30 by omega)) _) (by decide),?_⟩
     refine ⟨rfl,some (.int z),some (.int w),some (.int p),?_⟩
     rw [es]
     show _=[_,_,_,_,_,some (au (S.pile++[z])),_,_,_]
     rw [← dY]; rfl
    ·rw [e0] at c
     have c':aB ps (av as z) w S.prs=0:=by simpa using c
     have ep:fu ps as S z w p=⟨S.pile,S.prs,S.rests.set z.toNat (aB ps (av as z) w S.prs)⟩:=by unfold fu; rw [if_pos c']
     rw [ep] at es
     refine ⟨some (.int z),some (.int w),some (.int p),?_⟩
     rw [es]
 ·rintro ρ ⟨v6,v7,v8,rfl⟩
  rw [ar,List.take_length]
  exact q0 o ho
theorem tQ (T:Txt K mg A) (hB:TabB base mg A.tc A.tP tqS):FnOk P w K mg base CX0 9 A.f_q1 A.d_q1 ["tree","asks","pile"] (aW [false,false,false] true (wB)):=by
 have S:=sc_q1
 refine fnD T.t_q1.F S ⟨[false,false,false],[false,false,false,false,true,false],true⟩ _ ?hl rfl rfl fun cdv Ar outer s H E hr=>⟨_,(ad (aP (i:=3) S.nd rfl (Or.inl rfl) (jc gg nB (bX (ae ac ao)) (aE az dz rfl T.z_len bj (ae (ap ai dIx (aa 0) ac (fun _ _=>rfl)) ao))))
  (ad (bO (i:=4) S.nd rfl (Or.inl rfl) (eh ao))
  (ad (bz PassesOwn.never rfl (vJ rfl T.z_reversed (ae (aa 2) ao)) (ay (i:=5) S.nd rfl (Or.inl rfl)) (af (a_ (bv (qA (QF.qe (aI (uV T hB) hr T.t_q26 (ah (aa 0) (ah (ap ai dIx (aa 1) (aa 5) (fun _ _=>rfl)) (ah (aa 3) aj))))))) (ad (cJ (i:=4) rfl (QE.qf (aa 5)))
  (af (aP (i:=3) S.nd rfl (Or.inl rfl) (QF.qe (aI (pF T hB) hr T.t_q25 (ah (aa 0) (ah (ap ai dIx (aa 1) (aa 5) (fun _ _=>rfl)) (ah (aa 3) aj)))))))) aL)))
  (af (br (QF.qm (QF.bor [4] (h9 eD lc rfl T.z_sorted ff (ae (aa 4) ao))))))))),fun ds q h=>?_⟩
 case hl=>intro ds q h; obtain ⟨ps,rs,as,p,rfl,_⟩:=h; rfl
 obtain ⟨ps,rs,as,p,rfl,hT,ha,hpl,hpm,q0⟩:=h
 have hal:=ha.len
 have hti:=hT.hi
 refine ⟨⟨by rw [ar]; omega,by rw [ar]; omega,by rw [ar]; simp; omega⟩,?_⟩
 rw [ar,dR,Int.toNat_natCast,i_]
 refine ⟨rfl,?_⟩
 refine ⟨fun i ρ=>∃ v5,ρ=[some (aK ps rs),some (be as),some (au p),some (au (bL ps rs as (p.reverse.take i)).load),some (au (bL ps rs as (p.reverse.take i)).keep),v5],⟨_,rfl⟩,?_,?_⟩
 ·rintro i d ρ hd ⟨v5,rfl⟩
  obtain ⟨z,hz,rfl⟩:=dn (ns:=p.reverse) (by rw [List.map_reverse]; exact hd)
  have hil:i<p.reverse.length:=(List.getElem?_eq_some_iff.mp hz).1
  have hz1:=hpm z (List.mem_reverse.mp (List.mem_of_getElem? hz))
  obtain ⟨l1,l2,l3⟩:=ii ps rs as p.reverse i (Nat.le_of_lt hil)
  have es:bL ps rs as (p.reverse.take (i + 1))=eM ps rs as (bL ps rs as (p.reverse.take i)) z:=by rw [List.take_add_one,hz]; exact fA ..
  generalize hS:bL ps rs as (p.reverse.take i)=S at l1 l2 l3 es
  rw [List.length_reverse] at hil
  have hat:=dq (as:=as) hz1.1 hz1.2
  have hok:=bY ha hz1.1 hz1.2
  refine aT hat ?_
  refine ⟨ps,rs,av as z,S.load,rfl,hT,hok.ends,l1,?_⟩
  have ef:eM ps rs as S z=if gD rs (av as z).size (aq ps (av as z)) S.load=[] then ⟨bG S.load (aq ps (av as z)) (av as z).size,S.keep++[z]⟩ else S:=rfl
  rw [ef] at es
  cases ho:gD rs (av as z).size (aq ps (av as z)) S.load with
  | nil =>
   rw [ho,if_pos rfl] at es
   refine ⟨rfl,by rw [ar]; omega,?_⟩
   refine aT hat ?_
   refine ⟨ps,rs,av as z,S.load,rfl,hT,hok.ends,l1,?_⟩
   refine ⟨some (.int z),?_⟩
   rw [es]
   show _=[_,_,_,_,some (au (S.keep++[z])),_]
   rw [← dY]; rfl
  | cons t ts =>
   rw [ho,if_neg (by simp)] at es
   refine ⟨some (.int z),?_⟩
   rw [es]; rfl
 ·rintro ρ ⟨v5,rfl⟩
  obtain ⟨l1,l2,l3⟩:=ii ps rs as p.reverse p.reverse.length (Nat.le_refl _)
  rw [show ((p.map D.int).reverse).length=p.reverse.length by simp]
  rw [List.take_length] at l1 l2 l3 ⊢
  rw [List.length_reverse] at l2
  refine ⟨_,rfl,by omega,?_⟩
  exact ⟨cf _,q0⟩
end
end K37
namespace K37
open PySem L2
section
variable {P:Program} {w:World} {K:PySem.W.Frag} {mg:Str→Option Value} {base:Heap} {A:Adr}
def sX:SpD:=fun ds q=>∃ (ps:List Int) (k:Int),ds=[aK ps (List.replicate ps.length k)]∧Tree ps (List.replicate ps.length k)∧k≤60∧q (.int k) []
theorem uE (T:Txt K mg A) (hB:TabB base mg A.tc A.tP tqS):FnOk P w K mg base CX0 3 A.f_q12 A.d_q12 ["tree"] (aW [false] false (sX)):=by
 have S:=uC
 refine fnD T.t_q12.F S ⟨[false],[false,false],false⟩ _ ?hl rfl rfl fun cdv Ar outer s H E hr=>⟨_,(ad (aP (i:=1) S.nd rfl (Or.inl rfl) (ap ai dIx (ap ai dIx (aa 0) ac (fun _ _=>rfl)) ac (fun _ _=>rfl)))
  (ad (a_ (QW.qt (fW (aX eG dB (aa 1) (dU (i:=60) rfl T.c_MOST_COMMON_ROOM) (aQ _)) (d6 (aX (du hr.units) dNe (ap ai dIx (aa 0) ac (fun _ _=>rfl)) (jc gg nB (bX (ae (aa 1) ao)) (aE az dz rfl T.z_len bj (ae (ap ai dIx (aa 0) ac (fun _ _=>rfl)) ao))) (aQ _))))) (af bn) aL)
  (af (aJ (aa 1))))),fun ds q h=>?_⟩
 case hl=>intro ds q h; obtain ⟨ps,k,rfl,_⟩:=h; rfl
 obtain ⟨ps,k,rfl,hT,h60,q0⟩:=h
 have h1:=hT.lo
 have h2:=hT.hi
 have e:(List.replicate ps.length k).getD (0:Int).toNat 0=k:=by rw [List.getD_eq_getElem?_getD,List.getElem?_replicate,if_pos (by omega)]; rfl
 have hat:=bp (ns:=List.replicate ps.length k) (k:=0) (by decide) (by rw [List.length_replicate]; omega)
 rw [e] at hat
 refine aT hat ?_
 refine (cj (c:=decide (60<k)=true) (fun c=>absurd (of_decide_eq_true c) (by omega)) (fun c=>?_))
 refine ⟨⟨by rw [ar,List.length_replicate]; omega,by rw [ar,List.length_replicate]; omega,by rw [ar,List.length_replicate]; simp; omega⟩,?_⟩
 rw [ar,dR,Int.toNat_natCast,List.length_replicate]
 rw [show List.replicate ps.length (D.int k)=(List.replicate ps.length k).map D.int by rw [List.map_replicate]]
 refine ⟨cP _,cP _,?_⟩
 refine (cj (c:=(!eqD (au (List.replicate ps.length k)) (au (List.replicate ps.length k)))=true) (fun c=>?_) (fun c=>q0))
 rw [eqDi,decide_eq_true rfl] at c; cases c
structure RoomK (ps:List Int) (k:Int) (as:List Ask):Prop where
 t:Tree ps (List.replicate ps.length k)
 k0 : 1≤k
 k60:k≤60
 a:AsksOk ps as
 s:∀ a∈as,a.size≤k
def ut:SpD:=fun ds q=>∃ (as:List Ask) (m:Int),ds=[be as,.int m]∧(∀ a∈as,a.size≤m)∧q .non []
theorem ok_q8 (T:Txt K mg A) (hB:TabB base mg A.tc A.tP tqS):FnOk P w K mg base CX0 3 A.f_q8 A.d_q8 ["asks","most"] (aW [false,false] false (ut)):=by
 have S:=sc_q8
 refine fnD T.t_q8.F S ⟨[false,false],[false,false,false,false],false⟩ _ ?hl rfl rfl fun cdv Ar outer s H E hr=>⟨_,(af (bz PassesOwn.never rfl (d5 rfl T.z_enumerate (ae (aa 0) ao)) (ci rfl (aA (ay (i:=2) S.nd rfl (Or.inl rfl)) (aA (ay (i:=3) S.nd rfl (Or.inl rfl)) bC)) (am (am aV))) (af (a_ (aX eG dB (ap ai dIx (aa 3) ac (fun _ _=>rfl)) (aa 1) (aQ _)) (af bn) aL)))),fun ds q h=>?_⟩
 case hl=>intro ds q h; obtain ⟨as,m,rfl,_⟩:=h; rfl
 obtain ⟨as,m,rfl,ha,q0⟩:=h
 refine ⟨fun _ ρ=>∃ v1 v2,ρ=[some (be as),some (.int m),v1,v2],⟨_,_,rfl⟩,?_,?_⟩
 ·rintro i d ρ hd ⟨v1,v2,rfl⟩
  obtain ⟨d',hd',rfl⟩:=dF hd
  obtain ⟨a,hr,rfl⟩:=lZ hd'
  have:=ha a (List.mem_of_getElem? hr)
  refine (cj (c:=decide (m<a.size)=true) (fun c=>absurd (of_decide_eq_true c) (by omega)) (fun c=>?_))
  exact ⟨_,_,rfl⟩
 ·rintro ρ ⟨v1,v2,rfl⟩
  exact q0
def ny:SpD:=fun ds q=>∃ (ps:List Int) (k:Int) (as:List Ask),ds=[aK ps (List.replicate ps.length k),be as]∧RoomK ps k as∧q (.int k) []
theorem qk (T:Txt K mg A) (hB:TabB base mg A.tc A.tP tqS):FnOk P w K mg base CX0 7 A.f_q10 A.d_q10 ["tree","asks"] (aW [false,false] false (ny)):=by
 have S:=wA
 refine fnD T.t_q10.F S ⟨[false,false],[false,false,false],false⟩ _ ?hl rfl rfl fun cdv Ar outer s H E hr=>⟨_,(ad (bI (ag (tV T hB) hr T.t_q5 (ah (aa 0) (ah (aa 1) aj))))
  (ad (aP (i:=2) S.nd rfl (Or.inl rfl) (ag (uE T hB) hr T.t_q12 (ah (aa 0) aj)))
  (ad (bI (ag (ok_q8 T hB) hr T.t_q8 (ah (aa 1) (ah (aa 2) aj))))
  (af (aJ (aa 2)))))),fun ds q h=>?_⟩
 case hl=>intro ds q h; obtain ⟨ps,k,as,rfl,_⟩:=h; rfl
 obtain ⟨ps,k,as,rfl,hk,q0⟩:=h
 refine ⟨ps,_,as,rfl,hk.t,hk.a,?_⟩
 refine ⟨ps,k,rfl,hk.t,hk.k60,?_⟩
 exact ⟨as,k,rfl,hk.s,q0⟩
def wt:SpD:=fun ds q=>∃ (k:Int) (a:Ask),ds=[.int k,bV a]∧q (.bl (cE k a)) []
theorem kZ (T:Txt K mg A) (hB:TabB base mg A.tc A.tP tqS):FnOk P w K mg base CX0 1 A.f_q39 A.d_q39 ["room","ask"] (aW [false,false] false (wt)):=by
 have S:=vz
 refine fnD T.t_q39.F S ⟨[false,false],[false,false],false⟩ _ ?hl rfl rfl fun cdv Ar outer s H E hr=>⟨_,(af (aJ (dt eG dB (aw cr dIC ac (ap ai dIx (aa 1) ac (fun _ _=>rfl))) (aa 0) (aQ _)))),fun ds q h=>?_⟩
 case hl=>intro ds q h; obtain ⟨k,a,rfl,_⟩:=h; rfl
 obtain ⟨k,a,rfl,q0⟩:=h
 refine ⟨Or.inl ⟨by decide,by decide⟩,?_⟩
 exact q0
def qh (k:Int):D→D
 | .tup [.int o,.int p,.int s,.int w]=>fm (if cE k ⟨o,p,s,w⟩=true then some (1,1) else none)
 | d=>d
def narF (k:Int):D→D
 | .tup [.int o,.int p,.int s,.int w]=>fm (if cE k ⟨o,p,s,w⟩=true then none else some (s,k - s))
 | d=>d
theorem nC (k:Int) (as:List Ask):(as.map bV).map (qh k)=(bR k as).map fm:=by unfold bR; rw [List.map_map,List.map_map]; rfl
theorem qj (k:Int) (as:List Ask):(as.map bV).map (narF k)=(dC k as).map fm:=by unfold dC; rw [List.map_map,List.map_map]; rfl
theorem RoomK.tw {ps:List Int} {k:Int} {as:List Ask} (h:RoomK ps k as):e5 (bR k as):=fun w p hm=>by
 obtain ⟨a,_,e⟩:=List.mem_map.mp hm
 split at e <;> cases e
 decide
theorem RoomK.tn {ps:List Int} {k:Int} {as:List Ask} (h:RoomK ps k as):e5 (dC k as):=fun w p hm=>by
 obtain ⟨a,ha,e⟩:=List.mem_map.mp hm
 have h1:=(h.a.ok a ha).s0; have h2:=(h.a.ok a ha).s1; have:=h.k60
 split at e
 ·cases e
 ·rename_i c
  cases e
  have c' : ¬ k<2 * a.size:=fun z=>c (decide_eq_true z)
  exact ⟨by omega,h2,by omega,by omega⟩
def vO:SpD:=fun ds q=>∃ (ps:List Int) (k:Int) (as:List Ask),ds=[aK ps (List.replicate ps.length k),be as]∧RoomK ps k as∧∀ o o2,eF ps as o→eF ps as o2 →
 q (.tup [au (bc (bL ps (List.replicate ps.length k) as (bB ps as (bR k as) o).pile.reverse).keep),au (bc (bL ps (List.replicate ps.length k) as (bB ps as (dC k as) o2).pile.reverse).keep),dQs (bB ps as (bR k as) o).prs,dQs (bB ps as (dC k as) o2).prs]) []
theorem uX (T:Txt K mg A) (hB:TabB base mg A.tc A.tP tqS):FnOk P w K mg base CX0 10 A.f_q19 A.d_q19 ["tree","asks"] (aW [false,false] true (vO)):=by
 have S:=wL
 refine fnD T.t_q19.F S ⟨[false,false],[false,false,false,false,false,false,true,false,false,true,false],true⟩ _ ?hl rfl rfl fun cdv Ar outer s H E hr=>⟨_,(ad (aP (i:=2) S.nd rfl (Or.inr rfl) (ag (qk T hB) hr T.t_q10 (ah (aa 0) (ah (aa 1) aj))))
  (ad (d7 (i:=3) ["ask"] [2] ⟨rfl,rfl,by decide +kernel,rfl,rfl,(by first | exact trivial | exact ⟨rfl,trivial⟩ | exact ⟨rfl,rfl,trivial⟩ | exact ⟨rfl,rfl,rfl,trivial⟩ | exact ⟨rfl,rfl,rfl,rfl,trivial⟩),rfl⟩ rfl S.nd rfl (Or.inl rfl) (a6 (aa 1)) (bH 0) (fun _ _ _ _=>⟨(bg (i:=0) (show List.Nodup (["ask","room"]:List Str) by decide +kernel) rfl (Or.inl rfl)),cY,(ij (bf (ag (kZ T hB) hr T.t_q39 (ah (aa 1) (ah (aa 0) aj)))) (cz (ae ac (ae ac ao))) fG)⟩))
  (ad (d7 (i:=4) ["ask"] [2] ⟨rfl,rfl,by decide +kernel,rfl,rfl,(by first | exact trivial | exact ⟨rfl,trivial⟩ | exact ⟨rfl,rfl,trivial⟩ | exact ⟨rfl,rfl,rfl,trivial⟩ | exact ⟨rfl,rfl,rfl,rfl,trivial⟩),rfl⟩ rfl S.nd rfl (Or.inl rfl) (a6 (aa 1)) (bH 0) (fun _ _ _ _=>⟨(bg (i:=0) (show List.Nodup (["ask","room"]:List Str) by decide +kernel) rfl (Or.inl rfl)),cY,(ij (bf (ag (kZ T hB) hr T.t_q39 (ah (aa 1) (ah (aa 0) aj)))) fG (cz (ae (ap ai dIx (aa 0) ac (fun _ _=>rfl)) (ae (aw bx dI (aa 1) (ap ai dIx (aa 0) ac (fun _ _=>rfl))) ao))))⟩))
  (ad (jx rfl (QF.qm (aI (o8 T hB) hr T.t_q43 (ah (aa 0) (ah (aa 1) (ah (aa 3) aj))))) (gU (i:=5) S.nd rfl (Or.inl rfl) (jn (i:=6) S.nd rfl (Or.inl rfl) (gU (i:=7) S.nd rfl (Or.inl rfl) jQ))) (am (am (am aV))))
  (ad (jx rfl (QF.qm (aI (o8 T hB) hr T.t_q43 (ah (aa 0) (ah (aa 1) (ah (aa 4) aj))))) (gU (i:=8) S.nd rfl (Or.inl rfl) (jn (i:=9) S.nd rfl (Or.inl rfl) (gU (i:=10) S.nd rfl (Or.inl rfl) jQ))) (am (am (am aV))))
  (af (br (jP (bZ (QF.qm (aI (tQ T hB) hr T.t_q1 (ah (aa 0) (ah (aa 1) (ah (aa 5) aj))))) (bZ (QF.qm (aI (tQ T hB) hr T.t_q1 (ah (aa 0) (ah (aa 1) (ah (aa 8) aj))))) (bZ (cn 6) (bZ (cn 9) gM)))))))))))),fun ds q h=>?_⟩
 case hl=>intro ds q h; obtain ⟨ps,k,as,rfl,_⟩:=h; rfl
 obtain ⟨ps,k,as,rfl,hk,q0⟩:=h
 have hal:=hk.a.len
 refine ⟨ps,k,as,rfl,hk,?_⟩
 refine ⟨by rw [a5]; omega,?_⟩
 refine ce (qh k) ?_ ?_
 ·intro d hd q hq
  obtain ⟨a,hm,rfl⟩:=List.mem_map.mp hd
  refine ⟨k,a,rfl,?_⟩
  have e:qh k (bV a)=fm (if cE k a=true then some (1,1) else none):=rfl
  rw [e] at hq
  refine (cj (c:=cE k a=true) (fun c=>?_) (fun c=>?_))
  ·rw [if_pos c] at hq; exact hq
  ·rw [if_neg c] at hq; exact hq
 rw [nC]
 refine ⟨by rw [a5]; omega,?_⟩
 refine ce (narF k) ?_ ?_
 ·intro d hd q hq
  obtain ⟨a,hm,rfl⟩:=List.mem_map.mp hd
  refine ⟨k,a,rfl,?_⟩
  have e:narF k (bV a)=fm (if cE k a=true then none else some (a.size,k - a.size)):=rfl
  rw [e] at hq
  refine (cj (c:=cE k a=true) (fun c=>?_) (fun c=>?_))
  ·rw [if_pos c] at hq; exact hq
  ·rw [if_neg c] at hq; exact hq
 rw [qj]
 refine ⟨ps,_,as,bR k as,rfl,hk.t,hk.a,by unfold bR; rw [List.length_map],hk.tw,fun o ho=>?_⟩
 refine ⟨ps,_,as,dC k as,rfl,hk.t,hk.a,by unfold dC; rw [List.length_map],hk.tn,fun o2 ho2=>?_⟩
 have q1:=q0 o o2 ho ho2
 obtain ⟨hol,hor⟩:=ho.mem
 obtain ⟨hol2,hor2⟩:=ho2.mem
 have hP:=g8 hk.t hk.a hk.tw hor o.length (Nat.le_refl _)
 have hP2:=g8 hk.t hk.a hk.tn hor2 o2.length (Nat.le_refl _)
 rw [List.take_length] at hP hP2
 have hpl:=hP.pl
 have hpl2:=hP2.pl
 refine ⟨ps,_,as,_,rfl,hk.t,hk.a,by omega,hP.pm,?_⟩
 refine ⟨ps,_,as,_,rfl,hk.t,hk.a,by omega,hP2.pm,?_⟩
 exact q1
def sf:SpD:=fun ds q=>∃ ps rs k a P U,ds=[aK ps rs,.int k,bV a,dQs P,dQs U]∧Tree ps rs∧AskOk ps a∧PrK ps P∧PrK ps U∧q (dQ (cH ps k P U a)) []
theorem wz (T:Txt K mg A) (hB:TabB base mg A.tc A.tP tqS):FnOk P w K mg base CX0 9 A.f_q15 A.d_q15 ["tree","room","ask","pieces","units"] (aW [false,false,false,false,false] false (sf)):=by
 have S:=wf
 refine fnD T.t_q15.F S ⟨[false,false,false,false,false],[false,false,false,false,false],false⟩ _ ?hl rfl rfl fun cdv Ar outer s H E hr=>⟨_,(ad (a_ (bf (ag (kZ T hB) hr T.t_q39 (ah (aa 1) (ah (aa 2) aj)))) (af (aJ (ag (lS T hB) hr T.t_q35 (ah (aa 0) (ah (aa 2) (ah ac (ah (aa 3) aj))))))) aL)
  (af (aJ (ag (lS T hB) hr T.t_q35 (ah (aa 0) (ah (aa 2) (ah (ap ai dIx (aa 2) ac (fun _ _=>rfl)) (ah (aa 4) aj)))))))),fun ds q h=>?_⟩
 case hl=>intro ds q h; obtain ⟨ps,rs,k,a,P,U,rfl,_⟩:=h; rfl
 obtain ⟨ps,rs,k,a,P,U,rfl,hT,ha,⟨M1,b1,p1,p2,p3,p4⟩,⟨M2,b2,u1,u2,u3,u4⟩,q0⟩:=h
 refine ⟨k,a,rfl,?_⟩
 unfold cH at q0
 refine (cj (c:=cE k a=true) (fun c=>?_) (fun c=>?_))
 ·rw [if_pos c] at q0
  exact ⟨ps,rs,a,1,P,M1,b1,rfl,hT,ha,by decide,by decide,p1,p2,p3,p4,q0⟩
 ·rw [if_neg c] at q0
  exact ⟨ps,rs,a,a.size,U,M2,b2,rfl,hT,ha,by have:=ha.s0; omega,ha.s1,u1,u2,u3,u4,q0⟩
def mixF (ps:List Int) (k:Int) (P U:List Rat):D→D
 | .tup [.int o,.int p,.int s,.int w]=>dQ (cH ps k P U ⟨o,p,s,w⟩)
 | d=>d
theorem nU (ps:List Int) (k:Int) (P U:List Rat) (as:List Ask):(as.map bV).map (mixF ps k P U)=(as.map (cH ps k P U)).map dQ:=by rw [List.map_map,List.map_map]; rfl
theorem sum_M {ps:List Int} {U:List Rat} {M b:Nat} (h:PrM ps U M b) (hl:ps.length≤23) : 0≤U.sum∧U.sum≤(((23 * b:Nat):Int):Rat)∧DvM U.sum M:=by
 have hb:(0:Rat)≤((b:Int):Rat):=Rat.intCast_nonneg.mpr (by omega)
 have h1:=li hb fun r hr=>⟨(h.ok r hr).1,(h.ok r hr).2.1⟩
 refine ⟨h1.1,Rat.le_trans h1.2 ?_,DvM.sum fun r hr=>(h.ok r hr).2.2⟩
 rw [Int.natCast_mul,Rat.intCast_mul]
 exact Rat.mul_le_mul_of_nonneg_right (Rat.natCast_le_natCast.mpr (by rw [h.len]; exact hl)) hb
def ur:SpD:=fun ds q=>∃ ps k as P U,ds=[aK ps (List.replicate ps.length k),be as,dQs P,dQs U]∧RoomK ps k as∧PrK ps P∧PrK ps U∧q (dQ (fT ps k as P U)) []
theorem wI (T:Txt K mg A) (hB:TabB base mg A.tc A.tP tqS):FnOk P w K mg base CX0 10 A.f_q14 A.d_q14 ["tree","asks","pieces","units"] (aW [false,false,false,false] false (ur)):=by
 have S:=vk
 refine fnD T.t_q14.F S ⟨[false,false,false,false],[false,false,false,false,false,false],false⟩ _ ?hl rfl rfl fun cdv Ar outer s H E hr=>⟨_,(ad (aP (i:=4) S.nd rfl (Or.inr rfl) (ag (qk T hB) hr T.t_q10 (ah (aa 0) (ah (aa 1) aj))))
  (ad (bI (ag (tW T hB) hr T.t_q2 (ah (aa 0) (ah (aa 2) aj))))
  (ad (bI (ag (tW T hB) hr T.t_q2 (ah (aa 0) (ah (aa 3) aj))))
  (ad (d7 (i:=5) ["ask"] [0,4,2,3] ⟨rfl,rfl,by decide +kernel,rfl,rfl,(by first | exact trivial | exact ⟨rfl,trivial⟩ | exact ⟨rfl,rfl,trivial⟩ | exact ⟨rfl,rfl,rfl,trivial⟩ | exact ⟨rfl,rfl,rfl,rfl,trivial⟩),rfl⟩ rfl S.nd rfl (Or.inl rfl) (a6 (aa 1)) (bH 0) (fun _ _ _ _=>⟨(bg (i:=0) (show List.Nodup (["ask","tree","room","pieces","units"]:List Str) by decide +kernel) rfl (Or.inl rfl)),cY,(ag (wz T hB) hr T.t_q15 (ah (aa 1) (ah (aa 2) (ah (aa 0) (ah (aa 3) (ah (aa 4) aj))))))⟩))
  (af (aJ (ag (lz T hB) hr T.t_q55 (ah (jc ju dCat (jc ju dCat (aa 2) (bX (ae (ag (pD T hB) hr T.t_q61 (ah (cz (ae (aa 4) (ae ac ao))) (ah (ag (lz T hB) hr T.t_q55 (ah (aa 3) aj)) aj))) ao))) (aa 5)) aj)))))))),fun ds q h=>?_⟩
 case hl=>intro ds q h; obtain ⟨ps,k,as,P,U,rfl,_⟩:=h; rfl
 obtain ⟨ps,k,as,P,U,rfl,hk,hP,hU,q0⟩:=h
 have hal:=hk.a.len
 have hti:=hk.t.hi
 refine ⟨ps,k,as,rfl,hk,?_⟩
 refine ⟨ps,_,P,rfl,hk.t,hP.len,hP.nn,?_⟩
 refine ⟨ps,_,U,rfl,hk.t,hU.len,hU.nn,?_⟩
 refine ⟨by rw [a5]; omega,?_⟩
 refine ce (mixF ps k P U) ?_ ?_
 ·intro d hd q hq
  obtain ⟨a,hm,rfl⟩:=List.mem_map.mp hd
  exact ⟨ps,_,k,a,P,U,rfl,hk.t,hk.a.ok a hm,hP,hU,hq⟩
 rw [nU]
 have hPl:=hP.len
 obtain ⟨M1,b1,p1,p2,p3,p4⟩:=hP
 have hUl:=hU.len
 obtain ⟨M2,b2,u1,u2,u3,u4⟩:=hU
 obtain ⟨v0,v1,v2⟩:=sum_M u1 hti
 have bU:Bt U.sum (400 + 65):=fq v0 v1 v2 u2 u3 (Nat.le_trans (Nat.mul_le_mul_left _ u4) (by decide))
 have ek:D.tup [.int k,.int 1]=dQ (k:Rat):=jT k
 have hk1:=hk.k0; have hk2:=hk.k60
 refine ⟨U,M2,rfl,by omega,fun r hr=>?_,u2,Nat.lt_of_lt_of_le u3 (eN (by decide)),?_⟩
 ·obtain ⟨r0,r1,r2⟩:=u1.ok r hr
  exact ⟨(Bt.mono (fq r0 r1 r2 u2 u3 u4) (by decide)).num,r2.den u2⟩
 refine ⟨(k:Rat),U.sum,by rw [← ek],(jX (n:=10) 60 (by omega) (by decide) (by decide)).mono (by decide),bU.mono (by decide),?_⟩
 have hk0:(0:Rat)≤(k:Rat):=Rat.intCast_nonneg.mpr (by omega)
 have z0 : 0≤(k:Rat) * U.sum:=Rat.mul_nonneg hk0 v0
 have bk:Bt ((k:Rat) * U.sum) 500:=((jX (i:=k) (n:=10) 60 (by omega) (by decide) (by decide)).mul bU).mono (by decide)
 refine ⟨by rw [List.length_map]; show P.length + 1≤1000; omega,?_⟩
 refine ⟨by rw [List.length_append,List.length_map,List.length_map,List.length_map]; show P.length + 1 + as.length≤1000; omega,?_⟩
 have el:P.map dQ++[dQ ((k:Rat) * U.sum)]++(as.map (cH ps k P U)).map dQ=(P++[(k:Rat) * U.sum]++as.map (cH ps k P U)).map dQ:=by rw [List.map_append,List.map_append]; rfl
 have hM:M1 * M2<2 ^ 800:=a8 (m:=400) (n:=400) p3 u3
 refine ⟨P++[(k:Rat) * U.sum]++as.map (cH ps k P U),M1 * M2,congrArg (fun z=>[D.lst z]) el,?_,fun r hr=>?_,Nat.mul_pos p2 u2,Nat.lt_of_lt_of_le hM (eN (by decide)),?_⟩
 ·rw [List.length_append,List.length_append,List.length_map]; show P.length + 1 + as.length≤200; omega
 ·have d1:M1∣M1 * M2:=Nat.dvd_mul_right _ _
  have d2:M2∣M1 * M2:=Nat.dvd_mul_left _ _
  rcases List.mem_append.mp hr with hr | hr
  ·rcases List.mem_append.mp hr with hr | hr
   ·obtain ⟨r0,r1,r2⟩:=p1.ok r hr
    exact ⟨(Bt.mono (fq r0 r1 r2 p2 p3 p4) (by decide)).num,Nat.dvd_trans (r2.den p2) d1⟩
   ·rw [List.mem_singleton.mp hr]
    exact ⟨(bk.mono (by decide)).num,Nat.dvd_trans ((v2.mulI k).den u2) d2⟩
  ·obtain ⟨a,hm,rfl⟩:=List.mem_map.mp hr
   have ok:=hk.a.ok a hm
   have s0:=ok.s0
   unfold cH
   split
   ·obtain ⟨r0,r1,r2⟩:=e_ (w:=1) hk.t ok (by decide) p1
    exact ⟨(Bt.mono (fq r0 r1 r2 p2 p3 (x:=60) (by decide)) (by decide)).num,Nat.dvd_trans (r2.den p2) d1⟩
   ·obtain ⟨r0,r1,r2⟩:=e_ (w:=a.size) hk.t ok (by omega) u1
    exact ⟨(Bt.mono (fq r0 r1 r2 u2 u3 (x:=60) (by decide)) (by decide)).num,Nat.dvd_trans (r2.den u2) d2⟩
 ·have es:(P++[(k:Rat) * U.sum]++as.map (cH ps k P U)).sum=fT ps k as P U:=by
   unfold fT
   rw [List.sum_append,List.sum_append,List.sum_cons,List.sum_nil,Rat.add_zero]
  rw [es]; exact q0
end
end K37
namespace K37
open PySem L2
section
variable {P:Program} {w:World} {K:PySem.W.Frag} {mg:Str→Option Value} {base:Heap} {A:Adr}
theorem tO (T:Txt K mg A) (hB:TabB base mg A.tc A.tP tqS):FnOk P w K mg base CX0 7 A.f_q7 A.d_q7 ["tree","asks","thing"] (aW [false,false,false] false (k7)):=by
 have S:=sc_q7
 refine fnD T.t_q7.F S ⟨[false,false,false],[false,false,false,false,false,false],false⟩ _ ?hl rfl rfl fun cdv Ar outer s H E hr=>⟨_,(ad (bI (ag (tV T hB) hr T.t_q5 (ah (aa 0) (ah (aa 1) aj))))
  (ad (a_ (bv (bf (dJ rfl T.z_isinstance a7 (aa 2) (cN (v:=.ty "list") rfl T.z_list dH rfl)))) (af bn) aL)
  (ad (aP (i:=3) S.nd rfl (Or.inl rfl) ac)
  (af (bz PassesOwn.never rfl (d5 rfl T.z_enumerate (ae (aa 2) ao)) (ci rfl (aA (ay (i:=4) S.nd rfl (Or.inl rfl)) (aA (ay (i:=5) S.nd rfl (Or.inl rfl)) bC)) (am (am aV))) (ad (a_ (bv (bf (ag (gu T hB) hr T.t_q18 (ah (aa 5) (ah (aa 3) (ah (aw bx dI (aE az dz rfl T.z_len bj (ae (aa 1) ao)) ac) aj)))))) (af bn) aL)
  (af (aP (i:=3) S.nd rfl (Or.inl rfl) (aw bh dI (aa 5) ac))))))))),fun ds q h=>?_⟩
 case hl=>intro ds q h; obtain ⟨ps,rs,as,ks,rfl,_⟩:=h; rfl
 obtain ⟨ps,rs,as,ks,rfl,hT,ha,hk,q0⟩:=h
 refine ⟨ps,rs,as,rfl,hT,ha,?_⟩
 refine ⟨fun i ρ=>∃ (l:Int) (v1 v2:Option D),ρ=[some (aK ps rs),some (be as),some (au ks),some (.int l),v1,v2]∧0≤l∧∀ (j:Nat) (x:Int),i≤j→ks[j]? = some x→l≤x,⟨0,_,_,rfl,Int.le_refl 0,fun j x _ e=>(hk.lo x (List.mem_of_getElem? e)).1⟩,?_,?_⟩
 ·rintro i d ρ hd ⟨l,v1,v2,rfl,l0,hl⟩
  obtain ⟨d',h1,rfl⟩:=dF hd
  obtain ⟨z,hz,rfl⟩:=dn h1
  have hz1:=hk.lo z (List.mem_of_getElem? hz)
  refine ⟨.int z,l,((as.map bV).length:Int) - 1,rfl,rfl,?_⟩
  rw [d_ (hl i z (Nat.le_refl _) hz) (by rw [a5]; omega)]
  refine ⟨z + 1,_,_,rfl,by omega,fun j x hj e=>?_⟩
  have hlt:=List.getElem?_eq_some_iff.mp hz
  have hlt2:=List.getElem?_eq_some_iff.mp e
  have:=List.pairwise_iff_getElem.mp hk.up i j hlt.1 hlt2.1 (by omega)
  rw [hlt.2,hlt2.2] at this
  omega
 ·rintro ρ ⟨l,v1,v2,rfl,_,_⟩
  exact q0
theorem xl (T:Txt K mg A) (hB:TabB base mg A.tc A.tP tqS):FnOk P w K mg base CX0 9 A.f_q59 A.d_q59 ["tree","asks","keep"] (aW [false,false,false] true (sD)):=by
 have S:=wm
 refine fnD T.t_q59.F S ⟨[false,false,false],[false,false,false,true,false],true⟩ _ ?hl rfl rfl fun cdv Ar outer s H E hr=>⟨_,(ad (bI (ag (tO T hB) hr T.t_q7 (ah (aa 0) (ah (aa 1) (ah (aa 2) aj)))))
  (ad (bO (i:=3) S.nd rfl (Or.inl rfl) (mF gg nB (bX (ae ac ao)) (aE az dz rfl T.z_len bj (ae (ap ai dIx (aa 0) ac (fun _ _=>rfl)) ao))))
  (ad (bz PassesOwn.never rfl (a6 (aa 2)) (ay (i:=4) S.nd rfl (Or.inl rfl)) (af (bO (i:=3) S.nd rfl (Or.inl rfl) (QF.bor [3] (aI (pF T hB) hr T.t_q25 (ah (aa 0) (ah (ap ai dIx (aa 1) (aa 4) (fun _ _=>rfl)) (ah (aa 3) aj))))))))
  (af (br (cn 3)))))),fun ds q h=>?_⟩
 case hl=>intro ds q h; obtain ⟨ps,rs,as,ks,rfl,_⟩:=h; rfl
 obtain ⟨ps,rs,as,ks,rfl,hT,ha,hk,q0⟩:=h
 have hi:=hT.hi
 refine ⟨ps,rs,as,ks,rfl,hT,ha,hk,?_⟩
 refine ⟨⟨by rw [ar]; omega,by rw [ar]; omega,by rw [ar]; simp; omega⟩,?_⟩
 rw [ar,dR,show Int.toNat ((ps.length:Nat):Int)=ps.length by omega,i_]
 refine ⟨cf _,?_⟩
 refine ⟨fun i ρ=>∃ v,ρ=[some (aK ps rs),some (be as),some (au ks),some (au (bN ps as (ks.take i))),v],⟨_,rfl⟩,?_,?_⟩
 ·rintro i d ρ hd ⟨v,rfl⟩
  obtain ⟨z,hz,rfl⟩:=dn hd
  have hz1:=hk.lo z (List.mem_of_getElem? hz)
  refine aT (dq hz1.1 hz1.2) ?_
  have hmem:=cB (as:=as) (k:=z.toNat) (by omega)
  refine ⟨ps,rs,as.getD z.toNat aS,bN ps as (ks.take i),rfl,hT,(ha.ok _ hmem).ends,dh _ _ _,?_⟩
  refine ⟨some (.int z),?_⟩
  rw [List.take_add_one,hz]
  show _=[_,_,_,some (au (bN ps as (_++[z]))),_]
  rw [kM]; rfl
 ·rintro ρ ⟨v,rfl⟩
  rw [ar,List.take_length]
  exact q0
theorem xo (T:Txt K mg A) (hB:TabB base mg A.tc A.tP tqS):FnOk P w K mg base CX0 10 A.f_q17 A.d_q17 ["tree","asks","keep"] (aW [false,false,false] false (sr)):=by
 have S:=vD
 refine fnD T.t_q17.F S ⟨[false,false,false],[false,false,false,false,false],false⟩ _ ?hl rfl rfl fun cdv Ar outer s H E hr=>⟨_,(ad (bz PassesOwn.never rfl (d5 rfl T.z_enumerate (ae (QF.qe (aI (xl T hB) hr T.t_q59 (ah (aa 0) (ah (aa 1) (ah (aa 2) aj))))) ao)) (ci rfl (aA (ay (i:=3) S.nd rfl (Or.inl rfl)) (aA (ay (i:=4) S.nd rfl (Or.inl rfl)) bC)) (am (am aV))) (af (a_ (aX eG dB (aa 4) (ap ai dIx (ap ai dIx (aa 0) ac (fun _ _=>rfl)) (aa 3) (fun _ _=>rfl)) (aQ _)) (af (aJ (aw bh dI (aa 3) ac))) aL)))
  (af (aJ fG))),fun ds q h=>?_⟩
 case hl=>intro ds q h; obtain ⟨ps,rs,as,ks,rfl,_⟩:=h; rfl
 obtain ⟨ps,rs,as,ks,rfl,hT,ha,hk,q0⟩:=h
 refine ⟨ps,rs,as,ks,rfl,hT,ha,hk,?_⟩
 have hll:=dh ps as ks
 generalize bN ps as ks=ld at *
 refine ⟨fun i ρ=>∃ v1 v2,ρ=[some (aK ps rs),some (be as),some (au ks),v1,v2]∧∀ j:Nat,j<i→¬ ld.getD j 0 > rs.getD j 0,⟨_,_,rfl,fun j h=>absurd h (Nat.not_lt_zero _)⟩,?_,?_⟩
 ·rintro i d ρ hd ⟨v1,v2,rfl,hj⟩
  obtain ⟨d',h1,rfl⟩:=dF hd
  obtain ⟨z,hz,rfl⟩:=dn h1
  have hil:=(List.getElem?_eq_some_iff.mp hz).1
  have hlr:=hT.len
  have ez:ld.getD i 0=z:=by rw [List.getD_eq_getElem?_getD,hz]; rfl
  refine aT (bp (by omega) (by omega)) ?_
  rw [show (((i:Nat):Int)).toNat=i by omega]
  refine (cj (c:=decide (rs.getD i 0<z)=true) (fun c=>?_) (fun c=>?_))
  ·have:fD ld rs = .int ((i:Int) + 1):=by
    have c':rs.getD i 0<z:=by simpa using c
    obtain ⟨r,hr⟩:=iE (ld:=ld) (rs:=rs) hil (by omega) hj
    unfold fD; rw [hr]
   rw [this] at q0; exact q0
  ·have c' : ¬ rs.getD i 0<z:=by simpa using c
   refine ⟨_,_,rfl,fun j h=>?_⟩
   by_cases e:j=i
   ·subst e; omega
   ·exact hj j (by omega)
 ·rintro ρ ⟨v1,v2,rfl,hj⟩
  rw [kd,ar] at hj
  have:fD ld rs = .non:=by
   have:gX ld rs=[]:=by
    unfold gX
    rw [List.map_eq_nil_iff,List.filter_eq_nil_iff]
    intro k hk; simpa using hj k (List.mem_range.mp hk)
   unfold fD; rw [this]
  rw [this] at q0; exact q0
theorem oR (T:Txt K mg A) (hB:TabB base mg A.tc A.tP tqS):FnOk P w K mg base CX0 8 A.f_q36 A.d_q36 ["tree","asks","keep"] (aW [false,false,false] false (rE)):=by
 have S:=uI
 refine fnD T.t_q36.F S ⟨[false,false,false],[false,false,false],false⟩ _ ?hl rfl rfl fun cdv Ar outer s H E hr=>⟨_,(ad (bI (ag (tO T hB) hr T.t_q7 (ah (aa 0) (ah (aa 1) (ah (aa 2) aj)))))
  (af (aJ (aE (iM rfl) dSum rfl T.z_sum o3 (ae (c9 ["number"] [1] ⟨rfl,rfl,by decide +kernel,rfl,rfl,(by first | exact trivial | exact ⟨rfl,trivial⟩ | exact ⟨rfl,rfl,trivial⟩ | exact ⟨rfl,rfl,rfl,trivial⟩ | exact ⟨rfl,rfl,rfl,rfl,trivial⟩),rfl⟩ rfl (a6 (aa 2)) (bH 0) (fun _ _ _ _=>⟨(bg (i:=0) (show List.Nodup (["number","asks"]:List Str) by decide +kernel) rfl (Or.inl rfl)),cY,(ap ai dIx (ap ai dIx (aa 1) (aa 0) (fun _ _=>rfl)) ac (fun _ _=>rfl))⟩)) ao))))),fun ds q h=>?_⟩
 case hl=>intro ds q h; obtain ⟨ps,rs,as,ks,rfl,_⟩:=h; rfl
 obtain ⟨ps,rs,as,ks,rfl,hT,ha,hk,q0⟩:=h
 refine ⟨ps,rs,as,ks,rfl,hT,ha,hk,?_⟩
 have hkl:=hk.len
 have hal:=ha.len
 refine ⟨by rw [ar]; omega,?_⟩
 refine ce (fun d=>match d with | .int k=>.int (as.getD k.toNat aS).worth | _=>.non) ?_ ?_
 ·intro d hd k hk'
  obtain ⟨x,hx,rfl⟩:=cF hd
  have:=hk.lo x hx
  refine aT (dq this.1 this.2) ?_
  exact hk'
 ·refine ⟨ks.map fun k=>(as.getD k.toNat aS).worth,by rw [List.map_map,List.map_map]; rfl,?_⟩
  exact q0
theorem vd (T:Txt K mg A) (hB:TabB base mg A.tc A.tP tqS):FnOk P w K mg base CX0 1 A.f_q22 A.d_q22 ["_law_script","_law_k"] (aW [false,false] false (uJ K)):=by
 have S:=vU
 refine fnD T.t_q22.F S ⟨[false,false],[false,false],false⟩ _ ?hl rfl rfl fun cdv Ar outer s H E hr=>⟨_,(ad (a_ (aX kG dB (aa 1) (aE az dz rfl T.z_len bj (ae (aa 0) ao)) (aQ _)) (af (aJ (ap ai dIx (aa 0) (aa 1) (fun _ _=>rfl)))) aL)
  (af (aJ ac))),fun ds q h=>?_⟩
 case hl=>intro ds q h; obtain ⟨φ,ns,k,rfl,_⟩:=h; rfl
 obtain ⟨φ,ns,k,rfl,hφ,h0,q0⟩:=h
 refine ⟨hφ,?_⟩
 refine (cj (c:=decide (k<(ns.length:Int))=true) (fun c=>?_) (fun c=>?_))
 ·have c':k<ns.length:=by simpa using c
  refine ⟨hφ,?_⟩
  show (match atI ns k with | some n=>q (.int n) [] | none=>False)
  rw [uN h0 c']; exact q0
 ·have c':ns.length≤k.toNat:=by simp at c; omega
  have e:l6 ns k=0:=by unfold l6; rw [List.getD_eq_getElem?_getD,List.getElem?_eq_none c']; rfl
  rw [e] at q0; exact q0
theorem vx (T:Txt K mg A) (hB:TabB base mg A.tc A.tP tqS):FnOk P w K mg base CX0 2 A.f_q51 A.d_q51 ["_law_script","_law_k"] (aW [false,false] true (wk K)):=by
 have S:=vw
 refine fnD T.t_q51.F S ⟨[false,false],[false,false,false,false],true⟩ _ ?hl rfl rfl fun cdv Ar outer s H E hr=>⟨_,(ad (aP (i:=2) S.nd rfl (Or.inl rfl) (ag (vd T hB) hr T.t_q22 (ah (aa 0) (ah (aa 1) aj))))
  (ad (aP (i:=3) S.nd rfl (Or.inl rfl) (aw bh dI (aw bh dI (aw bh dI (aw cr dIC (aw dL dIC (aa 2) ac) ac) (aw cr dIC (aw cr dIC ac (aa 1)) (aa 1))) (aw cr dIC ac (aa 1))) ac))
  (ad (a_ (aX kG dB (aa 2) (aw jB dIC ac ac) (aQ _)) (af (aP (i:=2) S.nd rfl (Or.inl rfl) ac)) aL)
  (af (br (QF.qm (eh (ae (aa 2) (ae (aw dL dIC (aa 3) ac) ao))))))))),fun ds q h=>?_⟩
 case hl=>intro ds q h; obtain ⟨φ,ns,k,rfl,_⟩:=h; rfl
 obtain ⟨φ,ns,k,rfl,hφ,h0,h1,q0⟩:=h
 refine ⟨φ,ns,k,rfl,hφ,h0,?_⟩
 generalize l6 ns k=z
 refine ⟨(show (0:Int)<2147483629 by decide),Or.inr ⟨by decide,by decide⟩,Or.inl ⟨by decide,by decide⟩,Or.inr ⟨by omega,by omega⟩,Or.inl ⟨by decide,by decide⟩,?_⟩
 refine ⟨⟨by decide,by decide,by decide⟩,?_⟩
 refine (cj (c:=decide (z<10 ^ 18)=true) (fun c=>?_) (fun c=>?_))
 ·exact ⟨(show (0:Int)<2147483647 by decide),rfl,q0 _ _ (Int.le_refl 0)⟩
 ·have c':(10:Int) ^ 18≤z:=by simpa using c
  exact ⟨(show (0:Int)<2147483647 by decide),rfl,q0 _ _ (by omega)⟩
theorem cS (T:Txt K mg A) (hB:TabB base mg A.tc A.tP tqS):FnOk P w K mg base CX0 1 A.f_q52 A.d_q52 ["_law_pool_here","_law_many"] (aW [true,false] false (ve)):=by
 have S:=vG
 refine fnD T.t_q52.F S ⟨[true,false],[true,false,false,false,false],false⟩ _ ?hl rfl rfl fun cdv Ar outer s H E hr=>⟨_,(ad (a_ (QT.bor [0] (aX eG dB (ap ai dIx (aa 0) ac (fun _ _=>rfl)) ac (aQ _))) (ad (aP (i:=2) S.nd rfl (Or.inl rfl) (QE.bor [0] (aw dL dIC (ap ai dIx (aa 0) ac (fun _ _=>rfl)) (aa 1))))
  (ad (fJ (i:=0) rfl (QF.bor [0] (QE.qf (aw eV dIC (ap ai dIx (aa 0) ac (fun _ _=>rfl)) (aa 1)))) ac)
  (af (aJ (aa 2))))) aL)
  (ad (aP (i:=3) S.nd rfl (Or.inl rfl) ac)
  (ad (bz PassesOwn.never rfl (fi rfl T.z_range (ae (aw bh dI ac (aw cr dIC ac (nF mL dInt1 rfl T.z_int qL (ae (dt eG dB (aa 1) (aw jB dIC ac ac) (aQ _)) ao)))) ao)) (ay (i:=4) S.nd rfl (Or.inl rfl)) (ad (fJ (i:=0) rfl (QF.bor [0] (QE.qf (aw dL dIC (aw bh dI (aw cr dIC (ap ai dIx (aa 0) ac (fun _ _=>rfl)) ac) ac) ac))) ac)
  (af (aP (i:=3) S.nd rfl (Or.inl rfl) (QE.bor [0] (aw bh dI (aw cr dIC (aa 3) ac) (aw dL dIC (aw cr dIC (ap ai dIx (aa 0) ac (fun _ _=>rfl)) ac) ac)))))))
  (af (aJ (aw dL dIC (aw l8 dIC (aa 3) ac) (aa 1))))))),fun ds q h=>?_⟩
 case hl=>intro ds q h; obtain ⟨c,m,many,rfl,_⟩:=h; rfl
 obtain ⟨c,m,many,rfl,h0,hm,hs,q0⟩:=h
 refine (cj (c:=decide (0<c)=true) (fun c1=>?_) (fun c1=>?_))
 ·refine ⟨hm,rfl,?_⟩
  refine ⟨⟨hm,hs⟩,rfl,?_⟩
  exact q0 _ (c / many) m (Int.emod_nonneg _ (Int.ne_of_gt hm)) (Int.emod_lt_of_pos _ hm) (Int.ediv_nonneg h0 (Int.le_of_lt hm))
 ·refine ⟨⟨by decide,by decide,by decide⟩,Or.inl ⟨by decide,by decide⟩,⟨by split <;> decide,by split <;> decide⟩,?_⟩
  refine ⟨fun i ρ=>∃ (v:Option D) (m' made:Int),ρ=[some (au [c,m']),some (.int many),none,some (.int made),v],⟨_,m,0,rfl⟩,?_,?_⟩
  ·rintro i d ρ hd ⟨v,m',made,rfl⟩
   obtain ⟨_,rfl⟩:=e9 hd
   refine ⟨Or.inr ⟨by decide,by decide⟩,(show (0:Int)<2147483587 by decide),rfl,?_⟩
   refine ⟨Or.inr ⟨by decide,by decide⟩,⟨Or.inr ⟨by decide,by decide⟩,(show (0:Int)<2147483629 by decide),?_⟩⟩
   exact ⟨rfl,_,_,_,rfl⟩
  ·rintro ρ ⟨v,m',made,rfl⟩
   refine ⟨⟨by decide,by decide⟩,hm,?_⟩
   exact q0 _ c m' (Int.emod_nonneg _ (Int.ne_of_gt hm)) (Int.emod_lt_of_pos _ hm) h0
def rd:SpD:=fun ds q=>∃ c m most,ds=[au [c,m],.int most]∧0≤c∧0<most∧most≤23∧∀ ps r c' m',Tree ps (List.replicate ps.length r)→1≤r→r≤60→(ps.length:Int)≤most→0≤c'→q (aK ps (List.replicate ps.length r)) [some (au [c',m'])]
theorem oq (T:Txt K mg A) (hB:TabB base mg A.tc A.tP tqS):FnOk P w K mg base CX0 2 A.f_q40 A.d_q40 ["_law_pool_here","_law_most"] (aW [true,false] true (rd)):=by
 have S:=wH
 refine fnD T.t_q40.F S ⟨[true,false],[true,false,false,true,false],true⟩ _ ?hl rfl rfl fun cdv Ar outer s H E hr=>⟨_,(ad (aP (i:=2) S.nd rfl (Or.inl rfl) (ag (cS T hB) hr T.t_q52 (eH 0 (ah ac aj))))
  (ad (bO (i:=3) S.nd rfl (Or.inl rfl) (eh ao))
  (ad (bz PassesOwn.never rfl (mY rfl T.z_range (ae ac (ae (aw bh dI ac (ag (cS T hB) hr T.t_q52 (eH 0 (ah (aa 1) aj)))) ao))) (ay (i:=4) S.nd rfl (Or.inl rfl)) (af (cJ (i:=3) rfl (QE.qf (ap ai dIx (bX (ae (ag (cS T hB) hr T.t_q52 (eH 0 (ah (aa 4) aj))) (ae (aw bx dI (aa 4) ac) (ae ac (ae (aE (cI rfl) kT rfl T.z_max fE (ae ac (ae (aw bx dI (aw bx dI (aa 4) ac) (aw dL dIC (aa 4) ac)) ao))) (ae (aw l8 dIC (aa 4) ac) ao)))))) (aa 2) (fun _ _=>rfl))))))
  (af (br (jP (oW 3 (QF.qm (QF.bor [3] (mF gg nB (bX (ae (aw bh dI ac (ag (cS T hB) hr T.t_q52 (eH 0 (ah (ap ai dIx (bX (ae ac (ae ac (ae ac ao)))) (ag (cS T hB) hr T.t_q52 (eH 0 (ah ac aj))) (fun _ _=>rfl)) aj)))) ao)) (aE az dz rfl T.z_len bj (ae (aa 3) ao)))))))))))),fun ds q h=>?_⟩
 case hl=>intro ds q h; obtain ⟨c,m,most,rfl,_⟩:=h; rfl
 obtain ⟨c,m,most,rfl,h0,hm0,hm1,q0⟩:=h
 refine ⟨c,m,5,rfl,h0,by decide,cT (n:=5) (by decide) (by decide +kernel),fun w0 c1 m1 w00 w01 c10=>?_⟩
 refine ⟨rfl,?_⟩
 refine ⟨c1,m1,most,rfl,c10,hm0,cT (n:=23) (by omega) (by decide +kernel),fun r2 c3 m3 r20 r21 c30=>?_⟩
 refine ⟨⟨by decide,by decide,by omega,by omega⟩,?_⟩
 refine ⟨fun i ρ=>∃ (ps:List Int) (c m:Int) (v:Option D),ρ=[some (au [c,m]),some (.int most),some (.int w0),some (au ps),v]∧0≤c∧ps.length=i ∧
  (∀ (j:Nat) (x:Int),ps[j]? = some x→0≤x∧x≤j),⟨[],c3,m3,_,rfl,c30,rfl,(fun j x h=>by simp at h)⟩,?_,?_⟩
 ·rintro i d ρ hd ⟨ps,c4,m4,v,rfl,c40,lp,hpar⟩
  obtain ⟨hi,rfl⟩:=e9 hd
  have hin:i<23:=by omega
  refine ⟨c4,m4,1 + (i:Int),rfl,c40,by omega,cT (n:=100) (by omega) (by decide +kernel),fun r3 c5 m5 r30 r31 c50=>?_⟩
  refine ⟨(show (0:Int)<2 by decide),⟨(show (0:Int)<2 by decide),(show (2:Int)<1073741824 by decide)⟩,?_⟩
  obtain ⟨y,hy,y1,y2⟩:∃ y:Int,atI [D.int r3,D.int (1 + (i:Int) - 1),D.int 0,D.int (if 1 + (i:Int) - 1 - (1 + (i:Int)) % 2 > 0 then 1 + (i:Int) - 1 - (1 + (i:Int)) % 2 else 0),D.int ((1 + (i:Int)) / 2)] w0=some (.int y)∧0≤y∧y≤i:=by
   have:w0=0∨w0=1∨w0=2∨w0=3∨w0=4:=by omega
   rcases this with rfl | rfl | rfl | rfl | rfl
   ·exact ⟨_,rfl,by omega,by omega⟩
   ·exact ⟨_,rfl,by omega,by omega⟩
   ·exact ⟨_,rfl,by omega,by omega⟩
   ·refine ⟨_,rfl,?_,?_⟩ <;> split <;> omega
   ·exact ⟨_,rfl,by omega,by omega⟩
  refine aT hy ?_
  refine ⟨rfl,by rw [ar]; omega,?_⟩
  refine ⟨ps++[y],c5,m5,some (.int (1 + (i:Int))),?_,c50,by rw [List.length_append,lp]; rfl,rJ hpar ⟨y1,by omega⟩⟩
  rw [← dY]; rfl
 ·rintro ρ ⟨ps,c4,m4,v,rfl,c40,lp,hpar⟩
  rw [fQ] at lp
  refine ⟨⟨_,rfl⟩,?_⟩
  refine ⟨c4,m4,3,rfl,c40,by decide,cT (n:=3) (by decide) (by decide +kernel),fun r3 c5 m5 r30 r31 c50=>?_⟩
  obtain ⟨y,hy,y1,y2⟩:∃ y:Int,atI [D.int 3,D.int 8,D.int 60] r3=some (.int y)∧1≤y∧y≤60:=by
   have:r3=0∨r3=1∨r3=2:=by omega
   rcases this with rfl | rfl | rfl
   all_goals exact ⟨_,rfl,by decide,by decide⟩
  refine aT hy ?_
  refine ⟨c5,m5,y,rfl,c50,by omega,cT (n:=60) (by omega) (by decide +kernel),fun r4 c6 m6 r40 r41 c60=>?_⟩
  refine ⟨⟨by rw [ar]; omega,by rw [ar]; omega,by rw [ar]; simp; omega⟩,?_⟩
  rw [ar,dR,Int.toNat_natCast]
  have er:List.replicate ps.length (D.int (1 + r4))=(List.replicate ps.length (1 + r4)).map D.int:=by rw [List.map_replicate]
  rw [er]
  refine ⟨cf _,?_⟩
  refine q0 ps (1 + r4) c6 m6 ⟨by rw [List.length_replicate],by omega,by omega,hpar,fun j x hx=>?_⟩ (by omega) (by omega) (by omega) c60
  have:=List.eq_of_mem_replicate (List.mem_of_getElem? hx)
  omega
theorem qM (T:Txt K mg A) (hB:TabB base mg A.tc A.tP tqS):FnOk P w K mg base CX0 2 A.f_q49 A.d_q49 ["_law_pool_here","_law_tree","_law_least","_law_most","_law_sizes"] (aW [true,false,false,false,false] true (sT)):=by
 have S:=wR
 refine fnD T.t_q49.F S ⟨[true,false,false,false,false],[true,false,false,false,false,false,true,false,false,false,false,false],true⟩ _ ?hl rfl rfl fun cdv Ar outer s H E hr=>⟨_,(ad (aP (i:=5) S.nd rfl (Or.inl rfl) (aw bh dI ac (aE az dz rfl T.z_len bj (ae (ap ai dIx (aa 1) ac (fun _ _=>rfl)) ao))))
  (ad (bO (i:=6) S.nd rfl (Or.inl rfl) (eh ao))
  (ad (bz PassesOwn.never rfl (fi rfl T.z_range (ae (aw bh dI (aa 2) (ag (cS T hB) hr T.t_q52 (eH 0 (ah (aw bh dI (aw bx dI (aa 3) (aa 2)) ac) aj)))) ao)) (ay (i:=7) S.nd rfl (Or.inl rfl)) (ad (aP (i:=8) S.nd rfl (Or.inl rfl) (ag (cS T hB) hr T.t_q52 (eH 0 (ah (aa 5) aj))))
  (ad (aP (i:=9) S.nd rfl (Or.inl rfl) (aw dL dIC (aw bh dI (aw bh dI (aa 8) ac) (ag (cS T hB) hr T.t_q52 (eH 0 (ah (aw bx dI (aa 5) ac) aj)))) (aa 5)))
  (ad (aP (i:=10) S.nd rfl (Or.inl rfl) (aw bh dI ac (ag (cS T hB) hr T.t_q52 (eH 0 (ah (ap ai dIx (aa 4) (ag (cS T hB) hr T.t_q52 (eH 0 (ah (aE az dz rfl T.z_len bj (ae (aa 4) ao)) aj))) (fun _ _=>rfl)) aj)))))
  (ad (aP (i:=11) S.nd rfl (Or.inl rfl) (aw bh dI ac (ag (cS T hB) hr T.t_q52 (eH 0 (ah (ap ai dIx (bX (ae ac (ae ac (ae (aw jB dIC ac ac) (ae (aw jB dIC ac ac) ao))))) (ag (cS T hB) hr T.t_q52 (eH 0 (ah ac aj))) (fun _ _=>rfl)) aj)))))
  (af (cJ (i:=6) rfl (QE.qf (cz (ae (aa 8) (ae (aa 9) (ae (aa 10) (ae (aa 11) ao)))))))))))))
  (af (br (cn 6)))))),fun ds q h=>?_⟩
 case hl=>intro ds q h; obtain ⟨c,m,ps,rs,least,most,sizes,rfl,_⟩:=h; rfl
 obtain ⟨c,m,ps,rs,least,most,sizes,rfl,h0,hT,hl0,hlm,hm1,hs0,hs1,hs,q0⟩:=h
 have hi:=hT.hi
 have hlo:=hT.lo
 refine ⟨rfl,?_⟩
 refine ⟨c,m,most - least + 1,rfl,h0,by omega,cT (n:=100) (by omega) (by decide +kernel),fun r c1 m1 r0 r1 c10=>?_⟩
 refine ⟨⟨by omega,by omega⟩,?_⟩
 refine ⟨fun i ρ=>∃ (as:List Ask) (c m:Int) (v1 v2 v3 v4 v5:Option D),ρ=[some (au [c,m]),some (aK ps rs),some (.int least),some (.int most),some (au sizes),some (.int (1 + ((ps.map D.int).length:Int))),some (be as),v1,v2,v3,v4,v5]∧0≤c∧as.length=i∧(∀ a∈as,AskOk ps a)∧(∀ a∈as,∃ s∈sizes,a.size≤s),⟨[],c1,m1,_,_,_,_,_,rfl,c10,rfl,(fun a h=>by cases h),(fun a h=>by cases h)⟩,?_,?_⟩
 ·rintro i d ρ hd ⟨as,c2,m2,v1,v2,v3,v4,v5,rfl,c20,la,hok,hsz⟩
  obtain ⟨hi2,rfl⟩:=e9 hd
  have hi3:i<30:=by omega
  refine ⟨c2,m2,1 + ((ps.map D.int).length:Int),rfl,c20,by omega,cT (n:=100) (by rw [ar]; omega) (by decide +kernel),fun a c3 m3 a0 a1 c30=>?_⟩
  rw [ar] at a1
  refine ⟨c3,m3,1 + ((ps.map D.int).length:Int) - 1,rfl,c30,by rw [ar]; omega,cT (n:=100) (by rw [ar]; omega) (by decide +kernel),fun r c4 m4 r0 r1 c40=>?_⟩
  rw [ar] at r1
  refine ⟨(show (0:Int)<1 + ((ps.map D.int).length:Int) by omega),?_⟩
  refine ⟨c4,m4,((sizes.map D.int).length:Int),rfl,c40,by rw [ar]; omega,cT (n:=100) (by rw [ar]; omega) (by decide +kernel),fun r2 c5 m5 r20 r21 c50=>?_⟩
  rw [ar] at r21
  refine aT (bp r20 (by omega)) ?_
  have hzm:=L2.rm (show r2.toNat<sizes.length by omega)
  have hz:=hs _ hzm
  generalize sizes.getD r2.toNat 0=z at hz hzm
  refine ⟨c5,m5,z,rfl,c50,by omega,cT (n:=1000000) (by omega) (by decide +kernel),fun s c6 m6 s0 s1 c60=>?_⟩
  refine ⟨⟨by decide,by decide,by decide⟩,⟨by decide,by decide,by decide⟩,?_⟩
  refine ⟨c6,m6,4,rfl,c60,by decide,cT (n:=4) (by decide) (by decide +kernel),fun r3 c7 m7 r30 r31 c70=>?_⟩
  obtain ⟨y,hy,y1,y2⟩:∃ y:Int,atI [D.int 3,D.int 30,D.int (10 ^ Int.toNat 6),D.int (10 ^ Int.toNat 12)] r3=some (.int y)∧1≤y∧y≤1000000000000:=by
   have:r3=0∨r3=1∨r3=2∨r3=3:=by omega
   rcases this with rfl | rfl | rfl | rfl
   all_goals exact ⟨_,rfl,by decide,by decide⟩
  refine aT hy ?_
  refine ⟨c7,m7,y,rfl,c70,by omega,cT (n:=1000000000000) (by omega) (by decide +kernel),fun wo c8 m8 w0 w1 c80=>?_⟩
  refine ⟨rfl,by rw [a5]; omega,?_⟩
  have he:=lh (ps:=ps) (a:=a) (r:=r) a0 (by omega) r0 (by omega)
  refine ⟨as++[⟨a,(a + 1 + r) % (1 + ((ps.map D.int).length:Int)),1 + s,1 + wo⟩],c8,m8,_,_,_,_,_,by rw [← ng]; rfl,c80,by rw [List.length_append,la]; rfl,?_,?_⟩
  ·intro b hb
   rcases List.mem_append.mp hb with hb | hb
   ·exact hok b hb
   ·have:b=_:=List.mem_singleton.mp hb
    subst this
    exact ⟨by rw [ar]; exact he,by show 1≤1 + s; omega,by show 1 + s≤1000000; omega,by show 1≤1 + wo; omega,by show 1 + wo≤1000000000000; omega⟩
  ·intro b hb
   rcases List.mem_append.mp hb with hb | hb
   ·exact hsz b hb
   ·have:b=_:=List.mem_singleton.mp hb
    subst this
    exact ⟨z,hzm,by show 1 + s≤z; omega⟩
 ·rintro ρ ⟨as,c2,m2,v1,v2,v3,v4,v5,rfl,c20,la,hok,hsz⟩
  rw [fQ] at la
  exact q0 as c2 m2 ⟨by omega,hok⟩ (by omega) (by omega) hsz c20
theorem ig (T:Txt K mg A) (hB:TabB base mg A.tc A.tP tqS):FnOk P w K mg base CX0 1 A.f_q63 A.d_q63 ["_law_tree","_law_place"] (aW [false,false] true (sdUp)):=by
 have S:=vo
 refine fnD T.t_q63.F S ⟨[false,false],[false,false,true],true⟩ _ ?hl rfl rfl fun cdv Ar outer s H E hr=>⟨_,(ad (bO (i:=2) S.nd rfl (Or.inl rfl) (eh (ae (aa 1) ao)))
  (ad (ip PassesOwn.never (aX eG dB (aa 1) ac (aQ _)) (ad (aP (i:=1) S.nd rfl (Or.inl rfl) (ap ai dIx (ap ai dIx (aa 0) ac (fun _ _=>rfl)) (aw bx dI (aa 1) ac) (fun _ _=>rfl)))
  (af (cJ (i:=2) rfl (QE.qf (aa 1))))))
  (af (br (cn 2))))),fun ds q h=>?_⟩
 case hl=>intro ds q h; obtain ⟨ps,rs,k,rfl,_⟩:=h; rfl
 obtain ⟨ps,rs,k,rfl,hT,h0,h1,q0⟩:=h
 have hi:=hT.hi
 refine ⟨rfl,?_⟩
 refine ⟨fun j ρ=>∃ (k':Int) (acc:List Int),ρ=[some (aK ps rs),some (.int k'),some (au acc)]∧0≤k'∧k'≤ps.length∧j=k'.toNat∧acc.length + k'.toNat≤24∧(∀ u,Up ps k' (k' :: u)→Up ps k (acc++u)),⟨_,k,[k],rfl,h0,h1,rfl,by simp; omega,fun u h=>h⟩,?_⟩
 rintro j ρ ⟨k',acc,rfl,h0',h1',rfl,hl,hu⟩
 refine (cj (c:=decide (0<k')=true) (fun c=>?_) (fun c=>?_))
 ·have hk : 0<k':=by simpa using c
  have hp:=hT.up hk h1'
  refine aT (bp (by omega) (by omega)) ?_
  refine ⟨rfl,by rw [ar]; omega,?_⟩
  refine ⟨(bu ps k').toNat,by omega,bu ps k',acc++[bu ps k'],?_,hp.1,by omega,rfl,by rw [List.length_append]; show acc.length + 1 + _≤24; omega,fun u h=>by rw [List.append_assoc]; exact hu _ (.step hk h)⟩
  rw [← dY]; rfl
 ·have hk:k'=0:=by simp at c; omega
  subst hk
  have:=hu [] .zero
  rw [List.append_nil] at this
  exact q0 acc this
theorem xn (T:Txt K mg A) (hB:TabB base mg A.tc A.tP tqS):FnOk P w K mg base CX0 2 A.f_q24 A.d_q24 ["_law_tree","_law_one","_law_other"] (aW [false,false,false] false (tI)):=by
 have S:=ww
 refine fnD T.t_q24.F S ⟨[false,false,false],[false,false,false,false],false⟩ _ ?hl rfl rfl fun cdv Ar outer s H E hr=>⟨_,(ad (aP (i:=3) S.nd rfl (Or.inr rfl) (QF.qe (aI (ig T hB) hr T.t_q63 (ah (aa 0) (ah (aa 2) aj)))))
  (af (aJ (ap ai dIx (c9 ["_law_place"] [3] ⟨rfl,rfl,by decide +kernel,rfl,rfl,(by first | exact trivial | exact ⟨rfl,trivial⟩ | exact ⟨rfl,rfl,trivial⟩ | exact ⟨rfl,rfl,rfl,trivial⟩ | exact ⟨rfl,rfl,rfl,rfl,trivial⟩),rfl⟩ rfl (a6 (QF.qe (aI (ig T hB) hr T.t_q63 (ah (aa 0) (ah (aa 1) aj))))) (bH 0) (fun _ _ _ _=>⟨(bg (i:=0) (show List.Nodup (["_law_place","_law_there"]:List Str) by decide +kernel) rfl (Or.inl rfl)),(eC (aX m_ dIn (aa 0) (aa 1) rfl)),(aa 0)⟩)) ac (fun _ _=>rfl))))),fun ds q h=>?_⟩
 case hl=>intro ds q h; obtain ⟨ps,rs,a,b,rfl,_⟩:=h; rfl
 obtain ⟨ps,rs,a,b,rfl,hT,a0,a1,b0,b1,q0⟩:=h
 have hi:=hT.hi
 refine ⟨ps,rs,b,rfl,hT,b0,b1,fun ub hub=>?_⟩
 refine ⟨ps,rs,a,rfl,hT,a0,a1,fun ua hua=>?_⟩
 have hl:=hua.len hT a1
 refine ⟨by rw [ar]; omega,?_⟩
 refine dr (pf fun x=>ub.contains x) ?_ ?_
 ·intro d hd k hk
  obtain ⟨x,hx,rfl⟩:=cF hd
  refine ⟨rfl,iN ub,?_⟩
  change k (if ub.contains x=true then some (.int x) else none) at hk
  show if inD (.int x) (ub.map D.int)=true then k (some (.int x)) else k none
  rw [kR]
  cases e:ub.contains x with
  | true=>rw [e] at hk; exact hk
  | false=>rw [e] at hk; exact hk
 ·rw [fe]
  obtain ⟨w,m,hw⟩:=Climb.all hT a0 b0 a1 b1
  obtain ⟨m1,m2,m3⟩:=hw.meet hT a0 b0 a1 b1 hua hub
  obtain ⟨r,hr⟩:=nr (p:=fun x=>ub.contains x) (hua.dec hT a1) m1 (List.contains_iff_mem.mpr m2) fun x hx hp=>m3 x hx (List.contains_iff_mem.mp hp)
  rw [hr]
  exact aT (atI0 _ _) (q0 w m hw)
theorem xi (T:Txt K mg A) (hB:TabB base mg A.tc A.tP tqS):FnOk P w K mg base CX0 3 A.f_q58 A.d_q58 ["_law_tree","_law_one","_law_other"] (aW [false,false,false] true (vq)):=by
 have S:=uR
 refine fnD T.t_q58.F S ⟨[false,false,false],[false,false,false,false,false],true⟩ _ ?hl rfl rfl fun cdv Ar outer s H E hr=>⟨_,(ad (aP (i:=3) S.nd rfl (Or.inr rfl) (QF.qe (aI (ig T hB) hr T.t_q63 (ah (aa 0) (ah (ag (xn T hB) hr T.t_q24 (ah (aa 0) (ah (aa 1) (ah (aa 2) aj)))) aj)))))
  (ad (aP (i:=4) S.nd rfl (Or.inl rfl) (jc ju dCat (QF.qe (aI (ig T hB) hr T.t_q63 (ah (aa 0) (ah (aa 1) aj)))) (QF.qe (aI (ig T hB) hr T.t_q63 (ah (aa 0) (ah (aa 2) aj))))))
  (af (br (QF.qm (h9 eD lc rfl T.z_sorted ff (ae (c9 ["_law_place"] [3] ⟨rfl,rfl,by decide +kernel,rfl,rfl,(by first | exact trivial | exact ⟨rfl,trivial⟩ | exact ⟨rfl,rfl,trivial⟩ | exact ⟨rfl,rfl,rfl,trivial⟩ | exact ⟨rfl,rfl,rfl,rfl,trivial⟩),rfl⟩ rfl (a6 (aa 4)) (bH 0) (fun _ _ _ _=>⟨(bg (i:=0) (show List.Nodup (["_law_place","_law_above"]:List Str) by decide +kernel) rfl (Or.inl rfl)),(eC (aX jk dIn (aa 0) (aa 1) rfl)),(aa 0)⟩)) ao))))))),fun ds q h=>?_⟩
 case hl=>intro ds q h; obtain ⟨ps,rs,a,b,rfl,_⟩:=h; rfl
 obtain ⟨ps,rs,a,b,rfl,hT,a0,a1,b0,b1,q0⟩:=h
 have hi:=hT.hi
 refine ⟨ps,rs,a,b,rfl,hT,a0,a1,b0,b1,fun w m hw=>?_⟩
 have hm:=hw.low hT a0 b0 a1 b1
 refine ⟨ps,rs,m,rfl,hT,hm.1,by omega,fun um hum=>?_⟩
 refine ⟨ps,rs,a,rfl,hT,a0,a1,fun ua hua=>?_⟩
 refine ⟨ps,rs,b,rfl,hT,b0,b1,fun ub hub=>?_⟩
 have hl:=hua.len hT a1
 have hl2:=hub.len hT b1
 refine ⟨by rw [ar,ar]; omega,?_⟩
 refine ⟨by rw [List.length_append,ar,ar]; omega,?_⟩
 rw [← List.map_append]
 refine dr (pf fun x=>!um.contains x) ?_ ?_
 ·intro d hd k hk
  obtain ⟨x,hx,rfl⟩:=cF hd
  refine ⟨rfl,iN um,?_⟩
  change k (if (!um.contains x)=true then some (.int x) else none) at hk
  show if (!inD (.int x) (um.map D.int))=true then k (some (.int x)) else k none
  rw [kR]
  cases e:um.contains x with
  | true=>rw [e] at hk; exact hk
  | false=>rw [e] at hk; exact hk
 ·rw [fe]
  have hp:=hw.perm hT a0 b0 a1 b1 hua hub hum
  refine ⟨_,rfl,?_,cf _,?_⟩
  ·rw [← hp.length_eq]; have:=hw.len hT a0 b0 a1 b1; omega
  ·rw [← kf ((aZ w).trans hp) (cV w)]
   exact q0 w m hw
end
end K37
namespace K37
open PySem L2
section
variable {P:Program} {w:World} {K:PySem.W.Frag} {mg:Str→Option Value} {base:Heap} {A:Adr}
def rT:SpD:=fun ds q=>∃ ps rs as,ds=[aK ps rs,be as]∧Tree ps rs∧AsksOk ps as∧as.length≤8∧∀ b,BestT ps rs as b→q (.int b) []
def h7 (es:List (List Int×Int)):D:=.lst (es.map fun e=>.lst [au e.1,.int e.2])
def l7 (s:Int) (l:List Int):D→Option D
 | .int t=>if decide (l.getD (t - 1).toNat 0<s)=true then some (.int t) else none
 | _=>none
theorem i9 (s:Int) (l:List Int):∀ w:List Int,(w.map D.int).filterMap (l7 s l)=(fk w l s).map D.int
 | []=>rfl
 | t :: w=>by
  have ih:=i9 s l w
  unfold fk at *
  rw [List.map_cons,List.filterMap_cons,List.filter_cons]
  have e:l7 s l (.int t)=if decide (l.getD (t - 1).toNat 0<s)=true then some (.int t) else none:=rfl
  rw [e]
  by_cases h:decide (l.getD (t - 1).toNat 0<s)=true
  ·rw [if_pos h,if_pos h]; simp only [List.map_cons]; rw [ih]
  ·rw [if_neg h,if_neg h]; simp only; rw [ih]
theorem uZ (T:Txt K mg A) (hB:TabB base mg A.tc A.tP tqS):FnOk P w K mg base CX0 4 A.f_q50 A.d_q50 ["_law_tree","_law_asks_here"] (aW [false,false] false (rT)):=by
 have S:=uw
 refine fnD T.t_q50.F S ⟨[false,false],[false,false,false,false,false,false,true,false,false,true,false],false⟩ _ ?hl rfl rfl fun cdv Ar outer s H E hr=>⟨_,(ad (d7 (i:=2) ["_law_ask"] [0] ⟨rfl,rfl,by decide +kernel,rfl,rfl,(by first | exact trivial | exact ⟨rfl,trivial⟩ | exact ⟨rfl,rfl,trivial⟩ | exact ⟨rfl,rfl,rfl,trivial⟩ | exact ⟨rfl,rfl,rfl,rfl,trivial⟩),rfl⟩ rfl S.nd rfl (Or.inl rfl) (a6 (aa 1)) (bH 0) (fun _ _ _ _=>⟨(bg (i:=0) (show List.Nodup (["_law_ask","_law_tree"]:List Str) by decide +kernel) rfl (Or.inl rfl)),cY,(QF.qe (aI (xi T hB) hr T.t_q58 (ah (aa 1) (ah (ap ai dIx (aa 0) ac (fun _ _=>rfl)) (ah (ap ai dIx (aa 0) ac (fun _ _=>rfl)) aj)))))⟩))
  (ad (aP (i:=3) S.nd rfl (Or.inl rfl) ac)
  (ad (aP (i:=4) S.nd rfl (Or.inl rfl) (bX (ae (bX (ae (lC d9 oI rfl T.z_list dH (ae (ap ai dIx (aa 0) ac (fun _ _=>rfl)) ao)) (ae ac ao))) ao)))
  (ad (bz PassesOwn.never rfl (fi rfl T.z_range (ae (aE az dz rfl T.z_len bj (ae (aa 1) ao)) ao)) (ay (i:=5) S.nd rfl (Or.inr rfl)) (ad (bO (i:=6) S.nd rfl (Or.inl rfl) (eh ao))
  (ad (bz PassesOwn.never rfl (a6 (aa 4)) (vH rfl (aA (ay (i:=7) S.nd rfl (Or.inr rfl)) (aA (ay (i:=8) S.nd rfl (Or.inl rfl)) bC)) (am (am aV))) (af (a_ (aX (gt hr.units) dEq (c9 ["_law_tie"] [7,1,5] ⟨rfl,rfl,by decide +kernel,rfl,rfl,(by first | exact trivial | exact ⟨rfl,trivial⟩ | exact ⟨rfl,rfl,trivial⟩ | exact ⟨rfl,rfl,rfl,trivial⟩ | exact ⟨rfl,rfl,rfl,rfl,trivial⟩),rfl⟩ rfl (a6 (ap ai dIx (aa 2) (aa 5) (fun _ _=>rfl))) (bH 0) (fun _ _ _ _=>⟨(bg (i:=0) (show List.Nodup (["_law_tie","_law_left","_law_asks_here","_law_k"]:List Str) by decide +kernel) rfl (Or.inl rfl)),(eC (aX kG dB (ap ai dIx (aa 1) (aw bx dI (aa 0) ac) (fun _ _=>rfl)) (ap ai dIx (ap ai dIx (aa 2) (aa 3) (fun _ _=>rfl)) ac (fun _ _=>rfl)) (aQ _))),(aa 0)⟩)) (bX ao) (aQ _)) (ad (bO (i:=9) S.nd rfl (Or.inl rfl) (iY d9 oI rfl T.z_list dH (ae (aa 7) ao)))
  (ad (bz PassesOwn.never rfl (a6 (ap ai dIx (aa 2) (aa 5) (fun _ _=>rfl))) (ay (i:=10) S.nd rfl (Or.inl rfl)) (af (fJ (i:=9) rfl (QF.bor [9] (QE.qf (aw bx dI (ap ai dIx (aa 9) (aw bx dI (aa 10) ac) (fun _ _=>rfl)) (ap ai dIx (ap ai dIx (aa 1) (aa 5) (fun _ _=>rfl)) ac (fun _ _=>rfl))))) (aw bx dI (aa 10) ac))))
  (ad (lG (i:=6) rfl (wW (bZ (cn 9) (bZ (QF.qm (QE.qf (aw bh dI (aa 8) (ap ai dIx (ap ai dIx (aa 1) (aa 5) (fun _ _=>rfl)) ac (fun _ _=>rfl))))) gM))))
  (af (aP (i:=3) S.nd rfl (Or.inl rfl) (aE (cI rfl) kT rfl T.z_max fE (ae (aa 3) (ae (aw bh dI (aa 8) (ap ai dIx (ap ai dIx (aa 1) (aa 5) (fun _ _=>rfl)) ac (fun _ _=>rfl))) ao)))))))) aL)))
  (af (w_ 6 (aP (i:=4) S.nd rfl (Or.inl rfl) (jc ju dCat (aa 4) (aa 6))))))))
  (af (aJ (aa 3))))))),fun ds q h=>?_⟩
 case hl=>intro ds q h; obtain ⟨ps,rs,as,rfl,_⟩:=h; rfl
 obtain ⟨ps,rs,as,rfl,hT,ha,hl8,q0⟩:=h
 have hal:=ha.len
 have hti:=hT.hi
 have hlr:=hT.len
 refine ⟨by rw [a5]; omega,?_⟩
 refine ce (wayF ps) ?_ ?_
 ·intro d hd k hk
  obtain ⟨a,hm,rfl⟩:=List.mem_map.mp hd
  have he:=(ha.ok a hm).ends
  refine ⟨ps,rs,a.one,a.other,rfl,hT,he.a0,he.a1,he.b0,he.b1,fun w m hw=>?_⟩
  rw [(hw.way hT he.a0 he.b0 he.a1 he.b1).1]
  exact hk
 rw [nL]
 refine ⟨⟨by rw [a5]; omega,by rw [a5]; omega⟩,?_⟩
 refine ⟨fun i ρ=>∃ (b:Int) (es:List (List Int×Int)) (v5 v6 v7 v8 v9 v10:Option D),ρ=[some (aK ps rs),some (be as),some (nT (iz ps as)),some (.int b),some (h7 es),v5,v6,v7,v8,v9,v10]∧(∀ e∈es,BestE ps rs as i e.1 e.2)∧BestB ps rs as b∧es.length≤2 ^ i∧CovE ps rs as i es b,⟨0,[(rs,0)],_,_,_,_,_,_,rfl,(fun e he=>by rw [List.mem_singleton.mp he]; exact ud hT as),(ud hT as).b,by show 1≤2 ^ 0; decide,cov0 hT as⟩,?_,?_⟩
 ·rintro i d ρ hd ⟨b,es,v5,v6,v7,v8,v9,v10,rfl,hes,hb,hel,hcv⟩
  obtain ⟨hi,rfl⟩:=e9 hd
  rw [a5] at hi
  have hi:i<as.length:=hi
  have h256 : 2 ^ i≤128:=Nat.le_trans (Nat.pow_le_pow_right (by decide) (show i≤7 by omega)) (by decide)
  have hok:=ha.ok _ (cB (as:=as) (k:=i) hi)
  refine ⟨rfl,?_⟩
  obtain ⟨b0,eb0⟩:∃ b0,b0=b:=⟨_,rfl⟩
  rw [← eb0] at hb hcv ⊢
  refine ⟨fun j ρ=>∃ (b:Int) (ms:List (List Int×Int)) (v7 v8 v9 v10:Option D),ρ=[some (aK ps rs),some (be as),some (nT (iz ps as)),some (.int b),some (h7 es),some (.int (0 + (i:Int))),some (h7 ms),v7,v8,v9,v10]∧(∀ e∈ms,BestE ps rs as (i + 1) e.1 e.2)∧BestB ps rs as b∧ms.length≤j∧b0≤b∧(∀ e∈es.take j,fk (aq ps (as.getD i aS)) e.1 (as.getD i aS).size=[]→(bG e.1 (aq ps (as.getD i aS)) (-(as.getD i aS).size),e.2 + (as.getD i aS).worth)∈ms∧e.2 + (as.getD i aS).worth≤b),⟨b0,[],_,_,_,_,rfl,(fun e he=>by cases he),hb,Nat.le_refl _,Int.le_refl _,(fun e he=>by rw [List.take_zero] at he; cases he)⟩,?_,?_⟩
  ·rintro j d ρ hd ⟨b2,ms,w7,w8,w9,w10,rfl,hms,hb2,hml,hbb,hcm⟩
   have etk:es.take (j + 1)=es.take j++[es[j]?.getD ([],0)]:=by
    have hd':(es.map fun e=>D.lst [au e.1,.int e.2])[j]? = some d:=hd
    have:j<es.length:=by have:=(List.getElem?_eq_some_iff.mp hd').1; rw [List.length_map] at this; exact this
    rw [List.take_add_one,List.getElem?_eq_getElem this]; rfl
   have hd:(es.map fun e=>D.lst [au e.1,.int e.2])[j]? = some d:=hd
   rw [List.getElem?_map,Option.map_eq_some_iff] at hd
   obtain ⟨⟨l,w⟩,hx,rfl⟩:=hd
   have hE:=hes _ (List.mem_of_getElem? hx)
   have hjl:j<es.length:=(List.getElem?_eq_some_iff.mp hx).1
   have hll:l.length=ps.length:=hE.len
   have hwy:atI ((iz ps as).map au) (0 + (i:Int))=some (au (aq ps (as.getD i aS))):=by
    rw [Int.zero_add]
    refine gK (f:=au) ?_
    exact eX (by unfold iz; rw [List.getElem?_map,List.getD_eq_getElem?_getD,List.getElem?_eq_getElem hi]; rfl)
   have hat:atI (as.map bV) (0 + (i:Int))=some (bV (as.getD i aS)):=by
    have:=dq (as:=as) (k:=0 + (i:Int)) (by omega) (by omega)
    rw [show (0 + (i:Int)).toNat=i by omega] at this; exact this
   have hwl:(aq ps (as.getD i aS)).length≤46:=dN hT hok.ends
   have hwm:∀ t∈aq ps (as.getD i aS),0<t∧t≤(ps.length:Int):=fun t ht=>bd hT hok.ends ht
   refine aT hwy ?_
   refine ⟨by rw [ar]; omega,?_⟩
   refine dr (l7 (as.getD i aS).size l) ?_ ?_
   ·intro d hd k hk
    obtain ⟨t,ht,rfl⟩:=cF hd
    have hm:=hwm t ht
    refine aT (bp (ns:=l) (by omega) (by omega)) ?_
    refine aT hat ?_
    have e:l7 (as.getD i aS).size l (.int t)=if decide (l.getD (t - 1).toNat 0<(as.getD i aS).size)=true then some (.int t) else none:=rfl
    rw [e] at hk
    show if decide (l.getD (t - 1).toNat 0<(as.getD i aS).size)=true then k (some (.int t)) else k none
    by_cases h:decide (l.getD (t - 1).toNat 0<(as.getD i aS).size)=true
    ·rw [if_pos h] at hk ⊢; exact hk
    ·rw [if_neg h] at hk ⊢; exact hk
   rw [i9]
   refine ⟨cP _,cP [],?_⟩
   have e0:eqD (au (fk (aq ps (as.getD i aS)) l (as.getD i aS).size)) (au [])=decide (fk (aq ps (as.getD i aS)) l (as.getD i aS).size=[]):=eqDi _ _
   refine (cj (c:=eqD (au (fk (aq ps (as.getD i aS)) l (as.getD i aS).size)) (au [])=true) (fun c=>?_) (fun c=>?_))
   rotate_left
   ·refine ⟨b2,ms,_,_,_,_,rfl,hms,hb2,Nat.le_succ_of_le hml,hbb,fun e he hf=>?_⟩
    rw [etk,hx] at he
    rcases List.mem_append.mp he with z | z
    ·exact hcm e z hf
    ·rw [List.mem_singleton.mp z] at hf
     exact absurd (by rw [e0]; exact decide_eq_true hf) c
   rw [e0] at c
   have hf:=of_decide_eq_true c
   refine ⟨cf _,?_⟩
   refine aT hwy ?_
   refine ⟨fun n ρ=>∃ v10,ρ=[some (aK ps rs),some (be as),some (nT (iz ps as)),some (.int b2),some (h7 es),some (.int (0 + (i:Int))),some (h7 ms),some (au l),some (.int w),some (au (bG l ((aq ps (as.getD i aS)).take n) (-(as.getD i aS).size))),v10],⟨_,rfl⟩,?_,?_⟩
   ·rintro n d ρ hd ⟨x10,rfl⟩
    obtain ⟨z,hz,rfl⟩:=dn hd
    have hm:=hwm z (List.mem_of_getElem? hz)
    have hlen:(bG l ((aq ps (as.getD i aS)).take n) (-(as.getD i aS).size)).length=l.length:=bJ _ _ _
    refine aT (bp (by omega) (by omega)) ?_
    refine aT hat ?_
    refine ⟨rfl,?_⟩
    show (match ixN ((bG l ((aq ps (as.getD i aS)).take n) (-(as.getD i aS).size)).map D.int).length (z - 1) with | some _=>_ | none=>False)
    rw [ar,gN (by omega) (by omega)]
    refine ⟨some (.int z),?_⟩
    rw [List.take_add_one,hz]
    show _=[_,_,_,_,_,_,_,_,_,some (au (bG l (_++[z]) (-(as.getD i aS).size))),_]
    rw [jd,gc,← iU]; rfl
   ·rintro ρ ⟨x10,rfl⟩
    rw [ar,List.take_length]
    refine aT hat ?_
    refine ⟨rfl,by rw [List.length_map]; omega,?_⟩
    refine aT hat ?_
    have hn:=hE.step hT ha hi hf
    refine ⟨if w + (as.getD i aS).worth > b2 then w + (as.getD i aS).worth else b2,ms++[(bG l (aq ps (as.getD i aS)) (-(as.getD i aS).size),w + (as.getD i aS).worth)],some (au l),some (.int w),none,x10,?_,fun e he=>?_,?_,by rw [List.length_append]; exact Nat.succ_le_succ hml,by split <;> omega,fun e he hf2=>?_⟩
    ·unfold h7; rw [List.map_append]; rfl
    ·rcases List.mem_append.mp he with z | z
     ·exact hms e z
     ·rw [List.mem_singleton.mp z]; exact hn
    ·split
     ·exact hn.b
     ·exact hb2
    ·rw [etk,hx] at he
     rcases List.mem_append.mp he with z | z
     ·obtain ⟨y1,y2⟩:=hcm e z hf2
      exact ⟨List.mem_append.mpr (.inl y1),by split <;> omega⟩
     ·rw [List.mem_singleton.mp z]
      exact ⟨List.mem_append.mpr (.inr (.head _)),by show w + _≤_; split <;> omega⟩
  ·rintro ρ ⟨b2,ms,w7,w8,w9,w10,rfl,hms,hb2,hml,hbb,hcm⟩
   have hcm2:∀ e∈es,_:=fun e he=>hcm e (by rw [List.length_map,List.take_length]; exact he)
   have hml:ms.length≤es.length:=by
    have h:ms.length≤(es.map fun e=>D.lst [au e.1,.int e.2]).length:=hml
    rw [List.length_map] at h; exact h
   refine ⟨⟨_,rfl⟩,?_⟩
   refine ⟨by rw [List.length_map,List.length_map]; omega,?_⟩
   refine ⟨b2,es++ms,some (.int (0 + (i:Int))),none,w7,w8,w9,w10,?_,fun e he=>?_,hb2,?_,hcv.step hT ha hi hbb hcm2⟩
   ·unfold h7; rw [List.map_append]; rfl
   ·rcases List.mem_append.mp he with z | z
    ·exact (hes e z).up
    ·exact hms e z
   ·rw [List.length_append,Nat.pow_succ]; omega
 ·rintro ρ ⟨b,es,v5,v6,v7,v8,v9,v10,rfl,hes,hb,hel,hcv⟩
  refine q0 b ⟨hb,fun bs hs hf=>(hcv.all bs (by rw [List.take_of_length_le (by rw [fQ,a5]; omega)]; exact hs) hf).1⟩
def lm (k:Int) (a:Ask):Ask:=⟨a.one,a.other,1 + (a.size - 1) % k,a.worth⟩
def tX (k:Int):D→D
 | .tup [.int o,.int p,.int s,.int w]=>bV ⟨o,p,1 + (s - 1) % k,w⟩
 | d=>d
theorem mT (k:Int) (as:List Ask):(as.map bV).map (tX k)=(as.map (lm k)).map bV:=by rw [List.map_map,List.map_map]; rfl
theorem kv {ps:List Int} {k:Int} {as:List Ask} (hT:Tree ps (List.replicate ps.length k)) (h1 : 1≤k) (h60:k≤60) (ha:AsksOk ps as):RoomK ps k (as.map (lm k)):=by
 have key:∀ a:Ask,1≤(lm k a).size∧(lm k a).size≤k:=fun a=>by
  have a1:=Int.emod_nonneg (a.size - 1) (show k≠0 by omega)
  have a2:=Int.emod_lt_of_pos (a.size - 1) (show 0<k by omega)
  show 1≤1 + (a.size - 1) % k∧1 + (a.size - 1) % k≤k
  omega
 refine ⟨hT,h1,h60,⟨by rw [List.length_map]; exact ha.len,fun a hm=>?_⟩,fun a hm=>?_⟩
 ·obtain ⟨b,hb,rfl⟩:=List.mem_map.mp hm
  have ok:=ha.ok b hb
  have:=key b
  exact ⟨ok.ends,this.1,by omega,ok.w0,ok.w1⟩
 ·obtain ⟨b,hb,rfl⟩:=List.mem_map.mp hm
  exact (key b).2
def xb:SpD:=fun ds q=>∃ (ps:List Int) (k:Int) (as:List Ask),ds=[aK ps (List.replicate ps.length k),be as]∧Tree ps (List.replicate ps.length k)∧1≤k∧k≤60∧AsksOk ps as∧q (be (as.map (lm k))) []
theorem pE (T:Txt K mg A) (hB:TabB base mg A.tc A.tP tqS):FnOk P w K mg base CX0 1 A.f_q23 A.d_q23 ["_law_tree","_law_asks_here"] (aW [false,false] true (xb)):=by
 have S:=wy
 refine fnD T.t_q23.F S ⟨[false,false],[false,false],true⟩ _ ?hl rfl rfl fun cdv Ar outer s H E hr=>⟨_,(af (br (QF.qm (jI ["_law_ask"] [0] ⟨rfl,rfl,by decide +kernel,rfl,rfl,(by first | exact trivial | exact ⟨rfl,trivial⟩ | exact ⟨rfl,rfl,trivial⟩ | exact ⟨rfl,rfl,rfl,trivial⟩ | exact ⟨rfl,rfl,rfl,rfl,trivial⟩),rfl⟩ rfl (a6 (aa 1)) (bH 0) (fun _ _ _ _=>⟨(bg (i:=0) (show List.Nodup (["_law_ask","_law_tree"]:List Str) by decide +kernel) rfl (Or.inl rfl)),cY,(cz (ae (ap ai dIx (aa 0) ac (fun _ _=>rfl)) (ae (ap ai dIx (aa 0) ac (fun _ _=>rfl)) (ae (aw bh dI ac (aw dL dIC (aw bx dI (ap ai dIx (aa 0) ac (fun _ _=>rfl)) ac) (ap ai dIx (ap ai dIx (aa 1) ac (fun _ _=>rfl)) ac (fun _ _=>rfl)))) (ae (ap ai dIx (aa 0) ac (fun _ _=>rfl)) ao)))))⟩))))),fun ds q h=>?_⟩
 case hl=>intro ds q h; obtain ⟨ps,k,as,rfl,_⟩:=h; rfl
 obtain ⟨ps,k,as,rfl,hT,h1,h60,ha,q0⟩:=h
 have hal:=ha.len
 have hlo:=hT.lo
 refine ⟨by rw [a5]; omega,?_⟩
 refine ce (tX k) ?_ ?_
 ·intro d hd q hq
  obtain ⟨a,hm,rfl⟩:=List.mem_map.mp hd
  have e:(List.replicate ps.length k).getD (0:Int).toNat 0=k:=by rw [List.getD_eq_getElem?_getD,List.getElem?_replicate,if_pos (by omega)]; rfl
  have hat:=bp (ns:=List.replicate ps.length k) (k:=0) (by decide) (by rw [List.length_replicate]; omega)
  rw [e] at hat
  refine aT hat ?_
  refine ⟨(show (0:Int)<k by omega),?_⟩
  exact hq
 ·rw [mT]
  exact ⟨mU _,q0⟩
end
end K37
namespace K37
open PySem L2
section
variable {P:Program} {w:World} {K:PySem.W.Frag} {mg:Str→Option Value} {base:Heap} {A:Adr}
def BestO (ps rs:List Int) (as:List Ask) (d:D):Prop:=d = .non∨∃ b,d = .int b∧BestT ps rs as b
structure MxR (ps:List Int) (k:Int) (as:List Ask) (ws nw:List Int) (P U:List Rat):Prop where
 kw:KeptOk ps (List.replicate ps.length k) as ws
 kn:KeptOk ps (List.replicate ps.length k) as nw
 tw:∀ z∈ws,k<2 * (av as z).size
 tn:∀ z∈nw,2 * (av as z).size≤k
 pp:PrK ps P
 pu:PrK ps U
 bo:fT ps k as P U≤((2 * bW as ws + 4 * bW as nw:Int):Rat)
theorem mx_R {ps:List Int} {k:Int} {as:List Ask} {o o2:List Int} (hk:RoomK ps k as) (ho:eF ps as o) (ho2:eF ps as o2):MxR ps k as (bc (bL ps (List.replicate ps.length k) as (bB ps as (bR k as) o).pile.reverse).keep) (bc (bL ps (List.replicate ps.length k) as (bB ps as (dC k as) o2).pile.reverse).keep) (bB ps as (bR k as) o).prs (bB ps as (dC k as) o2).prs:=by
 have hS:=qY hk.t hk.a (mR hk.t hk.a hk.s) mN ho
 have hV:=qY hk.t hk.a (pC hk.t hk.a) (pO hk.a) ho2
 refine ⟨hS.keep,hV.keep,fun z hz=>?_,fun z hz=>?_,pH hk.t hk.a ho hk.tw,pH hk.t hk.a ho2 hk.tn,?_⟩
 ·have h1:=hS.keep.k.lo z hz
  have h2:=hS.tm z hz
  unfold bR at h2
  rw [e8,if_pos (by omega)] at h2
  split at h2
  ·rename_i c; exact of_decide_eq_true c
  ·cases h2
 ·have h1:=hV.keep.k.lo z hz
  have h2:=hV.tm z hz
  cases q:(dC k as).getD z.toNat none with
  | none=>rw [q] at h2; cases h2
  | some wp =>
   obtain ⟨w,p⟩:=wp
   obtain ⟨_,g1,_,g2,_⟩:=fb hk.a _ _ _ q
   have g1:w=(av as z).size:=g1
   omega
 ·have h1:=mW hS hV
  have h2:=hS.worth
  have h3:=hV.worth
  rw [Rat.intCast_add,Rat.intCast_mul,Rat.intCast_mul,show ((2:Int):Rat)=2 from rfl,show ((4:Int):Rat)=4 from rfl]
  grind
theorem wg {ps:List Int} {k:Int} {as:List Ask} {P U:List Rat} (hk:RoomK ps k as):PrK ps P→PrK ps U→(fT ps k as P U).den<2 ^ 800
 | ⟨M1,b1,p1,p2,p3,p4⟩,⟨M2,b2,u1,u2,u3,u4⟩=>by
  have d1:∀ {r:Rat},DvM r M1→DvM r (M1 * M2):=fun h=>h.up M2
  have d2:∀ {r:Rat},DvM r M2→DvM r (M1 * M2):=fun h=>by rw [Nat.mul_comm]; exact h.up M1
  have h:DvM (fT ps k as P U) (M1 * M2):=by
   unfold fT
   refine DvM.add (DvM.add (d1 (DvM.sum fun r hr=>(p1.ok r hr).2.2)) (d2 (DvM.mulI k (DvM.sum fun r hr=>(u1.ok r hr).2.2)))) (DvM.sum fun r hr=>?_)
   obtain ⟨a,hm,rfl⟩:=List.mem_map.mp hr
   have ok:=hk.a.ok a hm
   have s0:=ok.s0
   unfold cH
   split
   ·exact d1 (e_ (w:=1) hk.t ok (by decide) p1).2.2
   ·exact d2 (e_ (w:=a.size) hk.t ok (by omega) u1).2.2
  exact Nat.lt_of_le_of_lt (Nat.le_of_dvd (Nat.mul_pos p2 u2) (h.den (Nat.mul_pos p2 u2))) (a8 (m:=400) (n:=400) p3 u3)
theorem sw {ps rs:List Int} {as:List Ask} {b:Int} (ha:AsksOk ps as):BestB ps rs as b→0≤b∧b≤30000000000000
 | ⟨bs,h1,h2,h3⟩=>by
  have key:∀ l:List Ask,(∀ a∈l,AskOk ps a)→0≤(l.map (·.worth)).sum∧(l.map (·.worth)).sum≤(l.length:Int) * 1000000000000:=fun l=>by
   induction l with
   | nil=>intro _; exact ⟨by decide,by decide⟩
   | cons a l ih =>
    intro h
    have h0:=ih fun x hx=>h x (.tail _ hx)
    have ok:=h a (.head _)
    have:=ok.w0; have:=ok.w1
    rw [List.map_cons,List.sum_cons,List.length_cons]
    omega
  have:=key bs fun a hm=>ha.ok a (h1.subset hm)
  have hl:=h1.length_le
  have:=ha.len
  omega
theorem jY {ps:List Int} {as:List Ask} {ks:List Int} (ha:AsksOk ps as) (hk:KeepOk as.length ks) : 0≤bW as ks∧bW as ks≤30000000000000:=by
 have key:∀ l:List Int,(∀ k∈l,0≤k∧k<(as.length:Int))→0≤bW as l∧bW as l≤(l.length:Int) * 1000000000000:=fun l=>by
  induction l with
  | nil=>intro _; exact ⟨Int.le_refl 0,Int.le_refl 0⟩
  | cons a l ih =>
   intro h
   have h0:=ih fun x hx=>h x (.tail _ hx)
   have hx:=h a (.head _)
   have ok:=bY ha hx.1 hx.2
   have:=ok.w0; have:=ok.w1
   have e:bW as (a :: l)=(av as a).worth + bW as l:=rfl
   rw [e,List.length_cons]
   omega
 have:=key ks hk.lo
 have:=hk.len
 have:=ha.len
 omega
theorem pX {b:Int} {q:Rat} (h:(b:Rat)≤q):b * (q.den:Int)≤q.num:=by
 have:=(Rat.le_iff _ _).mp h
 rw [Rat.num_intCast,Rat.den_intCast] at this
 omega
theorem jL:∀ l:List D,l.filterMap (fun _=>(none:Option D))=[]
 | []=>rfl
 | _ :: l=>by rw [List.filterMap_cons]; exact jL l
def nG:SpD:=fun ds q=>∃ (ps:List Int) (k:Int) (as:List Ask) (d:D),ds=[aK ps (List.replicate ps.length k),be as,d]∧RoomK ps k as∧BestO ps (List.replicate ps.length k) as d∧q (.bl true) []
theorem pR (T:Txt K mg A) (hB:TabB base mg A.tc A.tP tqS):FnOk P w K mg base CX0 11 A.f_q41 A.d_q41 ["_law_tree","_law_asks_here","_law_best_here"] (aW [false,false,false] false (nG)):=by
 have S:=uB
 refine fnD T.t_q41.F S ⟨[false,false,false],[false,false,false,false,false,false,false,false,false,false,false,false],false⟩ _ ?hl rfl rfl fun cdv Ar outer s H E hr=>⟨_,(ad (d8 (QF.qe (aI (uX T hB) hr T.t_q19 (ah (aa 0) (ah (aa 1) aj)))) (ci rfl (aA (ay (i:=3) S.nd rfl (Or.inl rfl)) (aA (ay (i:=4) S.nd rfl (Or.inl rfl)) (aA (ay (i:=5) S.nd rfl (Or.inl rfl)) (aA (ay (i:=6) S.nd rfl (Or.inl rfl)) bC)))) (am (am (am (am aV))))))
  (ad (ge (a_ (aX (du hr.units) dNe (c9 ["_law_k"] [0,1] ⟨rfl,rfl,by decide +kernel,rfl,rfl,(by first | exact trivial | exact ⟨rfl,trivial⟩ | exact ⟨rfl,rfl,trivial⟩ | exact ⟨rfl,rfl,rfl,trivial⟩ | exact ⟨rfl,rfl,rfl,rfl,trivial⟩),rfl⟩ rfl (a6 (aa 3)) (bH 0) (fun _ _ _ _=>⟨(bg (i:=0) (show List.Nodup (["_law_k","_law_tree","_law_asks_here"]:List Str) by decide +kernel) rfl (Or.inl rfl)),(eC (aX gz dB (aw cr dIC ac (ap ai dIx (ap ai dIx (aa 2) (aa 0) (fun _ _=>rfl)) ac (fun _ _=>rfl))) (ap ai dIx (ap ai dIx (aa 1) ac (fun _ _=>rfl)) ac (fun _ _=>rfl)) (aQ _))),(aa 0)⟩)) (bX ao) (aQ _)) (af (aJ dW)) aL))
  (ad (a_ (aX (du hr.units) dNe (c9 ["_law_k"] [0,1] ⟨rfl,rfl,by decide +kernel,rfl,rfl,(by first | exact trivial | exact ⟨rfl,trivial⟩ | exact ⟨rfl,rfl,trivial⟩ | exact ⟨rfl,rfl,rfl,trivial⟩ | exact ⟨rfl,rfl,rfl,rfl,trivial⟩),rfl⟩ rfl (a6 (aa 4)) (bH 0) (fun _ _ _ _=>⟨(bg (i:=0) (show List.Nodup (["_law_k","_law_tree","_law_asks_here"]:List Str) by decide +kernel) rfl (Or.inl rfl)),(eC (aX eG dB (aw cr dIC ac (ap ai dIx (ap ai dIx (aa 2) (aa 0) (fun _ _=>rfl)) ac (fun _ _=>rfl))) (ap ai dIx (ap ai dIx (aa 1) ac (fun _ _=>rfl)) ac (fun _ _=>rfl)) (aQ _))),(aa 0)⟩)) (bX ao) (aQ _)) (af (aJ dW)) aL)
  (ad (bz PassesOwn.never rfl (a6 (bX (ae (aa 3) (ae (aa 4) ao)))) (ay (i:=7) S.nd rfl (Or.inl rfl)) (af (a_ (aX mJ tJ (ag (xo T hB) hr T.t_q17 (ah (aa 0) (ah (aa 1) (ah (aa 7) aj)))) fG (aQ _)) (af (aJ dW)) aL)))
  (ad (aP (i:=8) S.nd rfl (Or.inl rfl) (ag (oR T hB) hr T.t_q36 (ah (aa 0) (ah (aa 1) (ah (aa 3) aj)))))
  (ad (ge (aP (i:=9) S.nd rfl (Or.inl rfl) (ag (oR T hB) hr T.t_q36 (ah (aa 0) (ah (aa 1) (ah (aa 4) aj))))))
  (ad (d8 (ag (wI T hB) hr T.t_q14 (ah (aa 0) (ah (aa 1) (ah (aa 5) (ah (aa 6) aj))))) (ci rfl (aA (ay (i:=10) S.nd rfl (Or.inl rfl)) (aA (ay (i:=11) S.nd rfl (Or.inl rfl)) bC)) (am (am aV))))
  (ad (a_ (QW.qt (fW (aX eG dB (aa 10) (aw bF dIC (aw bh dI (aw cr dIC ac (aa 8)) (aw cr dIC ac (aa 9))) (aa 11)) (aQ _)) (d6 (aX eG dB (aa 10) (aw bF dIC (aw cr dIC ac (aE (cI rfl) kT rfl T.z_max fE (ae (aa 8) (ae (aa 9) ao)))) (aa 11)) (aQ _))))) (af (aJ dW)) aL)
  (ad (a_ (aX vb dIsN (aa 2) fG (aQ _)) (af (aJ dW)) aL)
  (af (aJ (de (dt gz dB (aE (cI rfl) kT rfl T.z_max fE (ae (aa 8) (ae (aa 9) ao))) (aa 2) (aQ _)) (de (dt gz dB (aw bF dIC (aa 2) (aa 11)) (aa 10) (aQ _)) (eJ (dt gz dB (aa 2) (aw cr dIC ac (aE (cI rfl) kT rfl T.z_max fE (ae (aa 8) (ae (aa 9) ao)))) (aQ _)))))))))))))))),fun ds q h=>?_⟩
 case hl=>intro ds q h; obtain ⟨ps,k,as,d,rfl,_⟩:=h; rfl
 obtain ⟨ps,k,as,d,rfl,hk,hb,q0⟩:=h
 have hT:=hk.t
 have ha:=hk.a
 have hal:=ha.len
 have hlo:=hT.lo
 have hat:=bp (ns:=List.replicate ps.length k) (k:=0) (by decide) (by rw [List.length_replicate]; omega)
 rw [show (0:Int).toNat=0 from rfl,jJ (by omega)] at hat
 refine ⟨ps,k,as,rfl,hk,fun o o2 ho ho2=>?_⟩
 refine ⟨fun ρ=>∃ (ws nw:List Int) (P U:List Rat),ρ=[some (aK ps (List.replicate ps.length k)),some (be as),some d,some (au ws),some (au nw),some (dQs P),some (dQs U),none,none,none,none,none]∧MxR ps k as ws nw P U,?_,?_⟩
 ·have hR:=mx_R hk ho ho2
  generalize bc (bL ps (List.replicate ps.length k) as (bB ps as (bR k as) o).pile.reverse).keep=ws at hR
  have hwl:=hR.kw.k.len
  refine ⟨by rw [ar]; omega,?_⟩
  refine dr (fun _=>none) ?_ ?_
  ·intro d hd q hq
   obtain ⟨z,hz,rfl⟩:=cF hd
   have hzb:=hR.kw.k.lo z hz
   refine aT (dq hzb.1 hzb.2) ?_
   refine ⟨Or.inl ⟨by decide,by decide⟩,?_⟩
   refine aT hat ?_
   have:=hR.tw z hz
   have this:k<2 * (as.getD z.toNat aS).size:=this
   refine (cj (c:=decide (2 * (as.getD z.toNat aS).size≤k)=true) (fun c=>absurd (of_decide_eq_true c) (by omega)) (fun _=>hq))
  rw [jL]
  refine ⟨cP [],cP [],?_⟩
  refine (cj (c:=(!eqD (au []) (au []))=true) (fun c=>?_) (fun _=>?_))
  ·rw [eqDi] at c; cases c
  exact ⟨_,_,_,_,rfl,hR⟩
 rintro ρ ⟨ws,nw,P,U,rfl,hR⟩
 have hwl:=hR.kw.k.len
 have hnl:=hR.kn.k.len
 refine ⟨by rw [ar]; omega,?_⟩
 refine dr (fun _=>none) ?_ ?_
 ·intro d hd q hq
  obtain ⟨z,hz,rfl⟩:=cF hd
  have hzb:=hR.kn.k.lo z hz
  refine aT (dq hzb.1 hzb.2) ?_
  refine ⟨Or.inl ⟨by decide,by decide⟩,?_⟩
  refine aT hat ?_
  have:=hR.tn z hz
  have this : 2 * (as.getD z.toNat aS).size≤k:=this
  refine (cj (c:=decide (k<2 * (as.getD z.toNat aS).size)=true) (fun c=>absurd (of_decide_eq_true c) (by omega)) (fun _=>hq))
 rw [jL]
 refine ⟨cP [],cP [],?_⟩
 refine (cj (c:=(!eqD (au []) (au []))=true) (fun c=>?_) (fun _=>?_))
 ·rw [eqDi] at c; cases c
 refine ⟨fun j ρ=>∃ v7,ρ=[some (aK ps (List.replicate ps.length k)),some (be as),some d,some (au ws),some (au nw),some (dQs P),some (dQs U),v7,none,none,none,none],⟨_,rfl⟩,?_,?_⟩
 ·rintro j dd ρ hd ⟨v7,rfl⟩
  obtain ⟨ks,hks,rfl⟩:∃ ks,KeptOk ps (List.replicate ps.length k) as ks∧dd=au ks:=by
   match j,hd with
   | 0,hd=>exact ⟨ws,hR.kw,(Option.some.inj hd).symm⟩
   | 1,hd=>exact ⟨nw,hR.kn,(Option.some.inj hd).symm⟩
   | n + 2,hd=>cases hd
  refine ⟨ps,_,as,ks,rfl,hT,ha,hks.k,?_⟩
  rw [hks.first]
  exact ⟨_,rfl⟩
 rintro ρ ⟨v7,rfl⟩
 refine ⟨ps,_,as,ws,rfl,hT,ha,hR.kw.k,?_⟩
 refine ⟨fun ρ=>ρ=[some (aK ps (List.replicate ps.length k)),some (be as),some d,some (au ws),some (au nw),some (dQs P),some (dQs U),v7,some (.int (bW as ws)),some (.int (bW as nw)),none,none],?_,?_⟩
 ·refine ⟨ps,_,as,nw,rfl,hT,ha,hR.kn.k,?_⟩
  rfl
 rintro ρ rfl
 have hbo:=hR.bo
 have hd8:=wg hk hR.pp hR.pu
 have hw1:=jY ha hR.kw.k
 have hw2:=jY ha hR.kn.k
 have hbl:∀ b,BestT ps (List.replicate ps.length k) as b→(b:Rat)≤fT ps k as P U:=fun b h=>h.ex.le2 hT ha hR.pp.len hR.pp.nn hR.pu.len hR.pu.nn
 have hbk:∀ b,BestT ps (List.replicate ps.length k) as b→bW as ws≤b:=fun b h=>h.kept hT ha hR.kw
 have hbn:∀ b,BestT ps (List.replicate ps.length k) as b→bW as nw≤b:=fun b h=>h.kept hT ha hR.kn
 refine ⟨ps,k,as,P,U,rfl,hk,hR.pp,hR.pu,?_⟩
 generalize bW as ws=W at *
 generalize bW as nw=V at *
 generalize fT ps k as P U=x at *
 have hxd:=bE x
 have h1:x.num≤(2 * W + 4 * V) * (x.den:Int):=by
  have:=(Rat.le_iff _ _).mp hbo
  rw [Rat.num_intCast,Rat.den_intCast] at this
  omega
 obtain ⟨m,em⟩:∃ m,m=if V > W then V else W:=⟨_,rfl⟩
 have hm:W≤m∧V≤m∧m≤30000000000000∧(m=W∨m=V):=by rw [em]; split <;> omega
 have h2:(2 * W + 4 * V) * (x.den:Int)≤6 * m * (x.den:Int):=Int.mul_le_mul_of_nonneg_right (by omega) (by omega)
 have sd:Sm (x.den:Int):=cT (n:=2 ^ 800) (by omega) (by decide +kernel)
 refine ⟨Or.inl ⟨by decide,by decide⟩,Or.inl ⟨by decide,by decide⟩,⟨cT (n:=1000000000000000) (by omega) (by decide +kernel),sd⟩,?_⟩
 refine (cj (c:=decide ((2 * W + 4 * V) * (x.den:Int)<x.num)=true) (fun c=>absurd (of_decide_eq_true c) (by omega)) (fun _=>?_))
 refine ⟨Or.inl ⟨by decide,by decide⟩,⟨?_,sd⟩,?_⟩
 ·rw [← em]; exact cT (n:=1000000000000000) (by omega) (by decide +kernel)
 rw [← em]
 refine (cj (c:=decide (6 * m * (x.den:Int)<x.num)=true) (fun c=>absurd (of_decide_eq_true c) (by omega)) (fun _=>?_))
 rcases hb with rfl | ⟨b,rfl,hbt⟩
 ·exact q0
 have b1:=hbl b hbt
 have b2:=hbk b hbt
 have b3:=hbn b hbt
 have b4:=sw ha hbt.ex
 have b5:=pX b1
 have b6:b≤6 * m:=by
  have:b * (x.den:Int)≤6 * m * (x.den:Int):=by omega
  exact Int.le_of_mul_le_mul_right this hxd
 have b7:m≤b:=by omega
 subst em
 refine (cj (c:=decide ((if V > W then V else W)≤b)=true) (fun _=>?_) (fun c=>absurd (decide_eq_true b7) c))
 refine ⟨⟨cT (n:=1000000000000000) (by omega) (by decide +kernel),sd⟩,?_⟩
 refine (cj (c:=decide (b * (x.den:Int)≤x.num)=true) (fun _=>?_) (fun c=>absurd (decide_eq_true b5) c))
 refine ⟨Or.inl ⟨by decide,by decide⟩,?_⟩
 show q (.bl (decide (b≤6 * (if V > W then V else W)))) []
 rw [decide_eq_true b6]
 exact q0
end
end K37
namespace K37
open PySem L2
section
variable {P:Program} {w:World} {K:PySem.W.Frag} {mg:Str→Option Value} {base:Heap} {A:Adr}
theorem xj (T:Txt K mg A) (hB:TabB base mg A.tc A.tP tqS):FnOk P w K mg base CX0 12 A.f_law A.d_law ["_law_script"] (aW [false] false ((oN K))):=by
 have S:=u8
 refine fnD T.t_law.F S ⟨[false],[false,false,true,false,false,false],false⟩ _ ?hl rfl rfl fun cdv Ar outer s H E hr=>⟨_,(ad (bz PassesOwn.never rfl (fi rfl T.z_range (ae (aE (cI rfl) kT rfl T.z_max fE (ae ac (ae (aE (iS rfl) dMin rfl T.z_min q8 (ae ac (ae (aE az dz rfl T.z_len bj (ae (aa 0) ao)) ao))) ao))) ao)) (ay (i:=1) S.nd rfl (Or.inl rfl)) (ad (bO (i:=2) S.nd rfl (Or.inl rfl) (aI (vx T hB) hr T.t_q51 (ah (aa 0) (ah (aa 1) aj))))
  (ad (aP (i:=3) S.nd rfl (Or.inl rfl) (QF.qe (aI (oq T hB) hr T.t_q40 (eH 2 (ah ac aj)))))
  (ad (aP (i:=4) S.nd rfl (Or.inl rfl) (QF.qe (aI (pE T hB) hr T.t_q23 (ah (aa 3) (ah (QF.qe (aI (qM T hB) hr T.t_q49 (eH 2 (ah (aa 3) (ah ac (ah ac (ah (bX (ae ac (ae ac ao))) aj))))))) aj)))))
  (ad (a_ (bv (bf (ag (pR T hB) hr T.t_q41 (ah (aa 3) (ah (aa 4) (ah fG aj)))))) (af (aJ dW)) aL)
  (ad (ge (aP (i:=5) S.nd rfl (Or.inl rfl) (QF.qe (aI (oq T hB) hr T.t_q40 (eH 2 (ah ac aj))))))
  (ad (aP (i:=4) S.nd rfl (Or.inl rfl) (QF.qe (aI (pE T hB) hr T.t_q23 (ah (aa 5) (ah (QF.qe (aI (qM T hB) hr T.t_q49 (eH 2 (ah (aa 5) (ah ac (ah ac (ah (bX (ae ac (ae ac ao))) aj))))))) aj)))))
  (af (a_ (QW.qt (uD (aX (gt hr.units) dEq (aa 1) ac (aQ _)) (sm (bv (bf (ag (pR T hB) hr T.t_q41 (ah (aa 5) (ah (aa 4) (ah (ag (uZ T hB) hr T.t_q50 (ah (aa 5) (ah (aa 4) aj))) aj))))))))) (af (aJ dW)) aL)))))))))
  (af (aJ dW))),fun ds q h=>?_⟩
 case hl=>intro ds q h; obtain ⟨φ,ns,rfl,_⟩:=h; rfl
 obtain ⟨φ,ns,rfl,hφ,hl,q0⟩:=h
 refine ⟨hφ,?_⟩
 refine ⟨⟨by simp; omega,by simp; omega⟩,?_⟩
 refine ⟨fun i ρ=>∃ v1 v2 v3 v4 v5,ρ=[some (.scr φ ns),v1,v2,v3,v4,v5],⟨_,_,_,_,_,rfl⟩,?_,?_⟩
 rotate_left
 ·rintro ρ ⟨v1,v2,v3,v4,v5,rfl⟩
  exact q0
 rintro i d ρ hd ⟨v1,v2,v3,v4,v5,rfl⟩
 obtain ⟨hi,rfl⟩:=e9 hd
 have hi:i<2:=by simp at hi; omega
 refine ⟨φ,ns,0 + (i:Int),rfl,hφ,by omega,by omega,fun c m c0=>?_⟩
 refine ⟨c,m,16,rfl,c0,by decide,by decide,fun ps r c1 m1 hT r1 r60 hps h1=>?_⟩
 refine ⟨c1,m1,ps,_,0,20,[2,60],rfl,h1,hT,by decide,by decide,by decide,by decide,by decide,(by decide),fun as c2 m2 ha _ has hsz h2=>?_⟩
 refine ⟨ps,r,as,rfl,hT,r1,r60,ha,?_⟩
 refine ⟨ps,r,_,.non,rfl,kv hT r1 r60 ha,.inl rfl,?_⟩
 refine ⟨fun ρ=>∃ ps2 r2 c4 m4 v4,ρ=[some (.scr φ ns),some (.int (0 + (i:Int))),some (au [c4,m4]),some (aK ps (List.replicate ps.length r)),v4,some (aK ps2 (List.replicate ps2.length r2))]∧Tree ps2 (List.replicate ps2.length r2)∧1≤r2∧r2≤60∧0≤c4,?_,?_⟩
 ·refine ⟨c2,m2,8,rfl,h2,by decide,by decide,fun ps2 r2 c3 m3 hT2 r21 r260 hps2 h3=>?_⟩
  exact ⟨ps2,r2,c3,m3,_,rfl,hT2,r21,r260,h3⟩
 rintro ρ ⟨ps2,r2,c4,m4,v4,rfl,hT2,r21,r260,h4⟩
 refine ⟨c4,m4,ps2,_,0,7,[2,60],rfl,h4,hT2,by decide,by decide,by decide,by decide,by decide,(by decide),fun as2 c5 m5 ha2 _ has2 hsz2 h5=>?_⟩
 refine ⟨ps2,r2,as2,rfl,hT2,r21,r260,ha2,?_⟩
 have hk2:=kv hT2 r21 r260 ha2
 have hl2:(as2.map (lm r2)).length≤8:=by rw [List.length_map]; omega
 generalize as2.map (lm r2)=as3 at hk2 hl2
 refine (cj (c:=decide (0 + (i:Int)=0)=true) (fun _=>?_) (fun _=>?_))
 ·refine ⟨ps2,_,as3,rfl,hT2,hk2.a,hl2,fun b hb=>?_⟩
  refine ⟨ps2,r2,as3,.int b,rfl,hk2,.inr ⟨b,rfl,hb⟩,?_⟩
  exact ⟨_,_,_,_,_,rfl⟩
 ·exact ⟨_,_,_,_,_,rfl⟩
end
end K37
namespace K37
open PySem L2
theorem fF {us:List Value} {n:Nat} (h:us.length=n + 1):∃ a r,us=a :: r∧r.length=n:=by
 cases us with
 | nil=>cases h
 | cons a r=>exact ⟨a,r,rfl,Nat.succ.inj h⟩
theorem us1 {fd:FuncData} {ps:List Str} (h:∀ a0,bindArgs fd ⟨[a0],[]⟩=pure (ps.zip [a0])):∀ us:List Value,us.length=1→bindArgs fd ⟨us,[]⟩=pure (ps.zip us):=fun us hl=>by
 obtain ⟨a0,u0,rfl,h0⟩:=fF hl
 cases List.eq_nil_of_length_eq_zero h0
 exact h a0
theorem us2 {fd:FuncData} {ps:List Str} (h:∀ a0 a1,bindArgs fd ⟨[a0,a1],[]⟩=pure (ps.zip [a0,a1])):∀ us:List Value,us.length=2→bindArgs fd ⟨us,[]⟩=pure (ps.zip us):=fun us hl=>by
 obtain ⟨a0,u0,rfl,h0⟩:=fF hl
 obtain ⟨a1,u1,rfl,h1⟩:=fF h0
 cases List.eq_nil_of_length_eq_zero h1
 exact h a0 a1
theorem us3 {fd:FuncData} {ps:List Str} (h:∀ a0 a1 a2,bindArgs fd ⟨[a0,a1,a2],[]⟩=pure (ps.zip [a0,a1,a2])):∀ us:List Value,us.length=3→bindArgs fd ⟨us,[]⟩=pure (ps.zip us):=fun us hl=>by
 obtain ⟨a0,u0,rfl,h0⟩:=fF hl
 obtain ⟨a1,u1,rfl,h1⟩:=fF h0
 obtain ⟨a2,u2,rfl,h2⟩:=fF h1
 cases List.eq_nil_of_length_eq_zero h2
 exact h a0 a1 a2
theorem us4 {fd:FuncData} {ps:List Str} (h:∀ a0 a1 a2 a3,bindArgs fd ⟨[a0,a1,a2,a3],[]⟩=pure (ps.zip [a0,a1,a2,a3])):∀ us:List Value,us.length=4→bindArgs fd ⟨us,[]⟩=pure (ps.zip us):=fun us hl=>by
 obtain ⟨a0,u0,rfl,h0⟩:=fF hl
 obtain ⟨a1,u1,rfl,h1⟩:=fF h0
 obtain ⟨a2,u2,rfl,h2⟩:=fF h1
 obtain ⟨a3,u3,rfl,h3⟩:=fF h2
 cases List.eq_nil_of_length_eq_zero h3
 exact h a0 a1 a2 a3
theorem us5 {fd:FuncData} {ps:List Str} (h:∀ a0 a1 a2 a3 a4,bindArgs fd ⟨[a0,a1,a2,a3,a4],[]⟩=pure (ps.zip [a0,a1,a2,a3,a4])):∀ us:List Value,us.length=5→bindArgs fd ⟨us,[]⟩=pure (ps.zip us):=fun us hl=>by
 obtain ⟨a0,u0,rfl,h0⟩:=fF hl
 obtain ⟨a1,u1,rfl,h1⟩:=fF h0
 obtain ⟨a2,u2,rfl,h2⟩:=fF h1
 obtain ⟨a3,u3,rfl,h3⟩:=fF h2
 obtain ⟨a4,u4,rfl,h4⟩:=fF h3
 cases List.eq_nil_of_length_eq_zero h4
 exact h a0 a1 a2 a3 a4
theorem all_mk {l:PySem.W.OpenLaw} {w:World} {K:PySem.W.Frag} {h:Heap} {mg:Str→Option Value} {fa:Addr} (X:K.In h) (G:h.Ns mainGlobals mg) (hfa:mg "law" = some (.ref fa))
 {f_q34:Addr} {d_q34:FuncData} (h_q34:FH K "is_whole" qx f_q34 d_q34)
 {f_q18:Addr} {d_q18:FuncData} (h_q18:FH K "is_between" qv f_q18 d_q18)
 {f_q0:Addr} {d_q0:FuncData} (h_q0:FH K "greatest_common" s_q0 f_q0 d_q0)
 {f_q13:Addr} {d_q13:FuncData} (h_q13:FH K "is_fraction" oO f_q13 d_q13)
 {f_q4:Addr} {d_q4:FuncData} (h_q4:FH K "has_two_lists" s_q4 f_q4 d_q4)
 {f_q9:Addr} {d_q9:FuncData} (h_q9:FH K "look_at_tree" s_q9 f_q9 d_q9)
 {f_q47:Addr} {d_q47:FuncData} (h_q47:FH K "depths" oK f_q47 d_q47)
 {f_q32:Addr} {d_q32:FuncData} (h_q32:FH K "is_place" qc f_q32 d_q32)
 {f_q30:Addr} {d_q30:FuncData} (h_q30:FH K "are_ends" oE f_q30 d_q30)
 {f_q48:Addr} {d_q48:FuncData} (h_q48:FH K "is_ask" qE f_q48 d_q48)
 {f_q5:Addr} {d_q5:FuncData} (h_q5:FH K "look_at_asks" s_q5 f_q5 d_q5)
 {f_q31:Addr} {d_q31:FuncData} (h_q31:FH K "fraction" p6 f_q31 d_q31)
 {f_q64:Addr} {d_q64:FuncData} (h_q64:FH K "plus" pz f_q64 d_q64)
 {f_q60:Addr} {d_q60:FuncData} (h_q60:FH K "minus" ph f_q60 d_q60)
 {f_q61:Addr} {d_q61:FuncData} (h_q61:FH K "times" qD f_q61 d_q61)
 {f_q54:Addr} {d_q54:FuncData} (h_q54:FH K "parted" o6 f_q54 d_q54)
 {f_q55:Addr} {d_q55:FuncData} (h_q55:FH K "sum_of" nV f_q55 d_q55)
 {f_q62:Addr} {d_q62:FuncData} (h_q62:FH K "under" nO f_q62 d_q62)
 {f_q6:Addr} {d_q6:FuncData} (h_q6:FH K "look_at_ends" s_q6 f_q6 d_q6)
 {f_q57:Addr} {d_q57:FuncData} (h_q57:FH K "climb" p_ f_q57 d_q57)
 {f_q16:Addr} {d_q16:FuncData} (h_q16:FH K "way_between" oD f_q16 d_q16)
 {f_q56:Addr} {d_q56:FuncData} (h_q56:FH K "way_of" rf f_q56 d_q56)
 {f_q20:Addr} {d_q20:FuncData} (h_q20:FH K "meeting_of" pw f_q20 d_q20)
 {f_q11:Addr} {d_q11:FuncData} (h_q11:FH K "tops_between" nS f_q11 d_q11)
 {f_q33:Addr} {d_q33:FuncData} (h_q33:FH K "is_price" qH f_q33 d_q33)
 {f_q2:Addr} {d_q2:FuncData} (h_q2:FH K "look_at_prices" s_q2 f_q2 d_q2)
 {f_q35:Addr} {d_q35:FuncData} (h_q35:FH K "spare_of" nZ f_q35 d_q35)
 {f_q7:Addr} {d_q7:FuncData} (h_q7:FH K "look_at_keep" s_q7 f_q7 d_q7)
 {f_q53:Addr} {d_q53:FuncData} (h_q53:FH K "lay_on" oy f_q53 d_q53)
 {f_q25:Addr} {d_q25:FuncData} (h_q25:FH K "load_with" oG f_q25 d_q25)
 {f_q42:Addr} {d_q42:FuncData} (h_q42:FH K "over_on" pG f_q42 d_q42)
 {f_q26:Addr} {d_q26:FuncData} (h_q26:FH K "over_with" oX f_q26 d_q26)
 {f_q59:Addr} {d_q59:FuncData} (h_q59:FH K "loads" qZ f_q59 d_q59)
 {f_q17:Addr} {d_q17:FuncData} (h_q17:FH K "first_over" o_ f_q17 d_q17)
 {f_q36:Addr} {d_q36:FuncData} (h_q36:FH K "worth_of" rj f_q36 d_q36)
 {f_q12:Addr} {d_q12:FuncData} (h_q12:FH K "common_room" oC f_q12 d_q12)
 {f_q8:Addr} {d_q8:FuncData} (h_q8:FH K "look_at_most" s_q8 f_q8 d_q8)
 {f_q3:Addr} {d_q3:FuncData} (h_q3:FH K "deepest_first" s_q3 f_q3 d_q3)
 {f_q21:Addr} {d_q21:FuncData} (h_q21:FH K "raise_tops" qJ f_q21 d_q21)
 {f_q43:Addr} {d_q43:FuncData} (h_q43:FH K "pile_up" pK f_q43 d_q43)
 {f_q1:Addr} {d_q1:FuncData} (h_q1:FH K "keep_from_last" s_q1 f_q1 d_q1)
 {f_q10:Addr} {d_q10:FuncData} (h_q10:FH K "room_for_all" ou f_q10 d_q10)
 {f_q39:Addr} {d_q39:FuncData} (h_q39:FH K "is_wide" q9 f_q39 d_q39)
 {f_q19:Addr} {d_q19:FuncData} (h_q19:FH K "keep_mixed" om f_q19 d_q19)
 {f_q15:Addr} {d_q15:FuncData} (h_q15:FH K "mixed_spare" o5 f_q15 d_q15)
 {f_q14:Addr} {d_q14:FuncData} (h_q14:FH K "mixed_bound" p9 f_q14 d_q14)
 {f_q22:Addr} {d_q22:FuncData} (h_q22:FH K "_law_cell_at" oJ f_q22 d_q22)
 {f_q51:Addr} {d_q51:FuncData} (h_q51:FH K "_law_pool" nQ f_q51 d_q51)
 {f_q52:Addr} {d_q52:FuncData} (h_q52:FH K "_law_take" qd f_q52 d_q52)
 {f_q40:Addr} {d_q40:FuncData} (h_q40:FH K "_law_alike" qo f_q40 d_q40)
 {f_q49:Addr} {d_q49:FuncData} (h_q49:FH K "_law_asks" pS f_q49 d_q49)
 {f_q63:Addr} {d_q63:FuncData} (h_q63:FH K "_law_up" o7 f_q63 d_q63)
 {f_q24:Addr} {d_q24:FuncData} (h_q24:FH K "_law_meeting" oQ f_q24 d_q24)
 {f_q58:Addr} {d_q58:FuncData} (h_q58:FH K "_law_way" n_ f_q58 d_q58)
 {f_q23:Addr} {d_q23:FuncData} (h_q23:FH K "_law_fitting" oV f_q23 d_q23)
 {f_q50:Addr} {d_q50:FuncData} (h_q50:FH K "_law_best" qp f_q50 d_q50)
 {f_q41:Addr} {d_q41:FuncData} (h_q41:FH K "_law_right" qw f_q41 d_q41)
 {f_law:Addr} {d_law:FuncData} (h_law:FH K "law" oS f_law d_law)
 {t_MOST_TIES:Tok} (c_MOST_TIES:PySem.W.nsIn K mainGlobals "MOST_TIES" = some (some (.int 23 t_MOST_TIES)))
 {t_MOST_ROOM:Tok} (c_MOST_ROOM:PySem.W.nsIn K mainGlobals "MOST_ROOM" = some (some (.int 1000000 t_MOST_ROOM)))
 {t_MOST_ASKS:Tok} (c_MOST_ASKS:PySem.W.nsIn K mainGlobals "MOST_ASKS" = some (some (.int 30 t_MOST_ASKS)))
 {t_MOST_SIZE:Tok} (c_MOST_SIZE:PySem.W.nsIn K mainGlobals "MOST_SIZE" = some (some (.int 1000000 t_MOST_SIZE)))
 {t_MOST_WORTH:Tok} (c_MOST_WORTH:PySem.W.nsIn K mainGlobals "MOST_WORTH" = some (some (.int 1000000000000 t_MOST_WORTH)))
 {t_MOST_COMMON_ROOM:Tok} (c_MOST_COMMON_ROOM:PySem.W.nsIn K mainGlobals "MOST_COMMON_ROOM" = some (some (.int 60 t_MOST_COMMON_ROOM)))
 (z_bool:PySem.W.nsIn K mainGlobals "bool" = some none)
 (z_enumerate:PySem.W.nsIn K mainGlobals "enumerate" = some none)
 (z_int:PySem.W.nsIn K mainGlobals "int" = some none)
 (z_isinstance:PySem.W.nsIn K mainGlobals "isinstance" = some none)
 (z_len:PySem.W.nsIn K mainGlobals "len" = some none)
 (z_list:PySem.W.nsIn K mainGlobals "list" = some none)
 (z_max:PySem.W.nsIn K mainGlobals "max" = some none)
 (z_min:PySem.W.nsIn K mainGlobals "min" = some none)
 (z_range:PySem.W.nsIn K mainGlobals "range" = some none)
 (z_reversed:PySem.W.nsIn K mainGlobals "reversed" = some none)
 (z_sorted:PySem.W.nsIn K mainGlobals "sorted" = some none)
 (z_sum:PySem.W.nsIn K mainGlobals "sum" = some none)
 (z_tuple:PySem.W.nsIn K mainGlobals "tuple" = some none)
 {tc tP:Addr} (hc:d_q3.code = .ref tc)
   :∃ fd:FuncData,(∀ (s:Shared) (v:Value),BindsTo s fd ⟨[v],[]⟩ [("_law_script",v)])∧∀ base:Heap,K.In base→base.Ns mainGlobals mg→TabB base mg tc tP tqS→FnOk l.prog w K mg base CX0 12 fa fd ["_law_script"] (jK K):=by
 have e:=hfa.symm.trans (PySem.W.mg_of X G h_law.a)
 cases e
 have T:Txt K mg ⟨f_q34,_,f_q18,_,f_q0,_,f_q13,_,f_q4,_,f_q9,_,f_q47,_,f_q32,_,f_q30,_,f_q48,_,f_q5,_,f_q31,_,f_q64,_,f_q60,_,f_q61,_,f_q54,_,f_q55,_,f_q62,_,f_q6,_,f_q57,_,f_q16,_,f_q56,_,f_q20,_,f_q11,_,f_q33,_,f_q2,_,f_q35,_,f_q7,_,f_q53,_,f_q25,_,f_q42,_,f_q26,_,f_q59,_,f_q17,_,f_q36,_,f_q12,_,f_q8,_,f_q3,_,f_q21,_,f_q43,_,f_q1,_,f_q10,_,f_q39,_,f_q19,_,f_q15,_,f_q14,_,f_q22,_,f_q51,_,f_q52,_,f_q40,_,f_q49,_,f_q63,_,f_q24,_,f_q58,_,f_q23,_,f_q50,_,f_q41,_,fa,_,tc,tP⟩:=⟨h_q34.ft X G fun _ _ _ _ _ _=>us1 fun _=>rfl,h_q18.ft X G fun _ _ _ _ _ _=>us3 fun _ _ _=>rfl,h_q0.ft X G fun _ _ _ _ _ _=>us2 fun _ _=>rfl,h_q13.ft X G fun _ _ _ _ _ _=>us1 fun _=>rfl,h_q4.ft X G fun _ _ _ _ _ _=>us1 fun _=>rfl,h_q9.ft X G fun _ _ _ _ _ _=>us1 fun _=>rfl,h_q47.ft X G fun _ _ _ _ _ _=>us1 fun _=>rfl,h_q32.ft X G fun _ _ _ _ _ _=>us2 fun _ _=>rfl,h_q30.ft X G fun _ _ _ _ _ _=>us3 fun _ _ _=>rfl,h_q48.ft X G fun _ _ _ _ _ _=>us2 fun _ _=>rfl,h_q5.ft X G fun _ _ _ _ _ _=>us2 fun _ _=>rfl,h_q31.ft X G fun _ _ _ _ _ _=>us2 fun _ _=>rfl,h_q64.ft X G fun _ _ _ _ _ _=>us2 fun _ _=>rfl,h_q60.ft X G fun _ _ _ _ _ _=>us2 fun _ _=>rfl,h_q61.ft X G fun _ _ _ _ _ _=>us2 fun _ _=>rfl,h_q54.ft X G fun _ _ _ _ _ _=>us2 fun _ _=>rfl,h_q55.ft X G fun _ _ _ _ _ _=>us1 fun _=>rfl,h_q62.ft X G fun _ _ _ _ _ _=>us2 fun _ _=>rfl,h_q6.ft X G fun _ _ _ _ _ _=>us3 fun _ _ _=>rfl,h_q57.ft X G fun _ _ _ _ _ _=>us3 fun _ _ _=>rfl,h_q16.ft X G fun _ _ _ _ _ _=>us3 fun _ _ _=>rfl,h_q56.ft X G fun _ _ _ _ _ _=>us2 fun _ _=>rfl,h_q20.ft X G fun _ _ _ _ _ _=>us3 fun _ _ _=>rfl,h_q11.ft X G fun _ _ _ _ _ _=>us3 fun _ _ _=>rfl,h_q33.ft X G fun _ _ _ _ _ _=>us1 fun _=>rfl,h_q2.ft X G fun _ _ _ _ _ _=>us2 fun _ _=>rfl,h_q35.ft X G fun _ _ _ _ _ _=>us4 fun _ _ _ _=>rfl,h_q7.ft X G fun _ _ _ _ _ _=>us3 fun _ _ _=>rfl,h_q53.ft X G fun _ _ _ _ _ _=>us3 fun _ _ _=>rfl,h_q25.ft X G fun _ _ _ _ _ _=>us3 fun _ _ _=>rfl,h_q42.ft X G fun _ _ _ _ _ _=>us4 fun _ _ _ _=>rfl,h_q26.ft X G fun _ _ _ _ _ _=>us3 fun _ _ _=>rfl,h_q59.ft X G fun _ _ _ _ _ _=>us3 fun _ _ _=>rfl,h_q17.ft X G fun _ _ _ _ _ _=>us3 fun _ _ _=>rfl,h_q36.ft X G fun _ _ _ _ _ _=>us3 fun _ _ _=>rfl,h_q12.ft X G fun _ _ _ _ _ _=>us1 fun _=>rfl,h_q8.ft X G fun _ _ _ _ _ _=>us2 fun _ _=>rfl,h_q3.ft X G fun _ _ _ _ _ _=>us2 fun _ _=>rfl,h_q21.ft X G fun _ _ _ _ _ _=>us4 fun _ _ _ _=>rfl,h_q43.ft X G fun _ _ _ _ _ _=>us3 fun _ _ _=>rfl,h_q1.ft X G fun _ _ _ _ _ _=>us3 fun _ _ _=>rfl,h_q10.ft X G fun _ _ _ _ _ _=>us2 fun _ _=>rfl,h_q39.ft X G fun _ _ _ _ _ _=>us2 fun _ _=>rfl,h_q19.ft X G fun _ _ _ _ _ _=>us2 fun _ _=>rfl,h_q15.ft X G fun _ _ _ _ _ _=>us5 fun _ _ _ _ _=>rfl,h_q14.ft X G fun _ _ _ _ _ _=>us4 fun _ _ _ _=>rfl,h_q22.ft X G fun _ _ _ _ _ _=>us2 fun _ _=>rfl,h_q51.ft X G fun _ _ _ _ _ _=>us2 fun _ _=>rfl,h_q52.ft X G fun _ _ _ _ _ _=>us2 fun _ _=>rfl,h_q40.ft X G fun _ _ _ _ _ _=>us2 fun _ _=>rfl,h_q49.ft X G fun _ _ _ _ _ _=>us5 fun _ _ _ _ _=>rfl,h_q63.ft X G fun _ _ _ _ _ _=>us2 fun _ _=>rfl,h_q24.ft X G fun _ _ _ _ _ _=>us3 fun _ _ _=>rfl,h_q58.ft X G fun _ _ _ _ _ _=>us3 fun _ _ _=>rfl,h_q23.ft X G fun _ _ _ _ _ _=>us2 fun _ _=>rfl,h_q50.ft X G fun _ _ _ _ _ _=>us2 fun _ _=>rfl,h_q41.ft X G fun _ _ _ _ _ _=>us3 fun _ _ _=>rfl,h_law.ft X G fun _ _ _ _ _ _=>us1 fun _=>rfl,PySem.W.mg_none_of X G z_bool,PySem.W.mg_none_of X G z_enumerate,PySem.W.mg_none_of X G z_int,PySem.W.mg_none_of X G z_isinstance,PySem.W.mg_none_of X G z_len,PySem.W.mg_none_of X G z_list,PySem.W.mg_none_of X G z_max,PySem.W.mg_none_of X G z_min,PySem.W.mg_none_of X G z_range,PySem.W.mg_none_of X G z_reversed,PySem.W.mg_none_of X G z_sorted,PySem.W.mg_none_of X G z_sum,PySem.W.mg_none_of X G z_tuple,⟨_,PySem.W.mg_of X G c_MOST_TIES⟩,⟨_,PySem.W.mg_of X G c_MOST_ROOM⟩,⟨_,PySem.W.mg_of X G c_MOST_ASKS⟩,⟨_,PySem.W.mg_of X G c_MOST_SIZE⟩,⟨_,PySem.W.mg_of X G c_MOST_WORTH⟩,⟨_,PySem.W.mg_of X G c_MOST_COMMON_ROOM⟩,hc⟩
 obtain ⟨_,_,_,_,_,_,_,_,_,rfl,_,_⟩:=h_law.F.ex
 exact ⟨_,fun s v=>.of_eq rfl,fun base _ _ hB=>(xj T hB).imp fun _ _ _ _ h=>mS h⟩
theorem walk {l:PySem.W.OpenLaw} {q:Program} {loose:List Str} {XP:(Str→Option Value)→Heap→Prop} {YP:World→Heap→Prop} {d:DefRec} {K:Params→PySem.W.Frag} {c Pt:Addr} (hn:l.most=some 63) (hdf:d.params.defaults=[])
 (hY:∀ (w:World) (h:Heap),YP w h→(K w.params).In h∧h.get? Pt=some (PySem.W.tabObj #[])) (hcd0:∀ w:World,PySem.W.codeHdIn (K w.params) c Pt=true) (hKP:∀ w:World,(K w.params).lookup Pt=none)
 (F:∀ (w:World) (mg:Str→Option Value) (fa:Addr) (h:Heap),(K w.params).In h→h.Ns mainGlobals mg→mg d.name=some (.ref fa) →
  ∃ fd:FuncData,(∀ (s:Shared) (u:Value),BindsTo s fd ⟨[u],[]⟩ [("_law_script",u)])∧∀ base:Heap,(K w.params).In base→base.Ns mainGlobals mg→TabB base mg c Pt tqS→FnOk l.prog w (K w.params) mg base CX0 12 fa fd ["_law_script"] (jK (K w.params))) :
 PySem.W.WalkO q loose XP YP l.row.toRowW d [] (fun f vs=>PySem.call f vs) :=
 L2.rp (n:=63) (k:=12) (x:="_law_script") (sp:=fun w=>jK (K w.params)) hn (by decide) hdf ⟨rfl,by decide,by decide,rfl⟩ hY hcd0 hKP F (fun _ _ a ns hl hO hS=>⟨a,ns,rfl,hO,hS,hl,fun _=>rfl⟩) fun _ _ _ _ z=>z
end K37
open PySem PySem.W PyProof.Rows
set_option maxRecDepth 100000 in
theorem PySem.Challenge.cw_treeasks_k37_whole_a_sixth_of_the_bound_holds : PySem.Challenge.rw_treeasks_k37_whole_a_sixth_of_the_bound.Holds := by
 w_on; o_law; k_head; (case hw=>w_witness2)
 k_fill
 refine' K37.walk (l:=PySem.Challenge.rw_treeasks_k37_whole_a_sixth_of_the_bound) rfl rfl (fun w h Y=>⟨PySem.W.km_in_of Y,PySem.W.km_tabs_of Y _ (List.Mem.head _)⟩) ?hcd ?hKP ?F
 case F =>
  intro w mg fa h KX G hmg
  refine' K37.all_mk KX G hmg (L2.aN ?_ ?_ ?_ ?_) (L2.aN ?_ ?_ ?_ ?_) (L2.aN ?_ ?_ ?_ ?_) (L2.aN ?_ ?_ ?_ ?_) (L2.aN ?_ ?_ ?_ ?_) (L2.aN ?_ ?_ ?_ ?_) (L2.aN ?_ ?_ ?_ ?_) (L2.aN ?_ ?_ ?_ ?_) (L2.aN ?_ ?_ ?_ ?_) (L2.aN ?_ ?_ ?_ ?_) (L2.aN ?_ ?_ ?_ ?_) (L2.aN ?_ ?_ ?_ ?_) (L2.aN ?_ ?_ ?_ ?_) (L2.aN ?_ ?_ ?_ ?_) (L2.aN ?_ ?_ ?_ ?_) (L2.aN ?_ ?_ ?_ ?_) (L2.aN ?_ ?_ ?_ ?_) (L2.aN ?_ ?_ ?_ ?_) (L2.aN ?_ ?_ ?_ ?_) (L2.aN ?_ ?_ ?_ ?_) (L2.aN ?_ ?_ ?_ ?_) (L2.aN ?_ ?_ ?_ ?_) (L2.aN ?_ ?_ ?_ ?_) (L2.aN ?_ ?_ ?_ ?_) (L2.aN ?_ ?_ ?_ ?_) (L2.aN ?_ ?_ ?_ ?_) (L2.aN ?_ ?_ ?_ ?_) (L2.aN ?_ ?_ ?_ ?_) (L2.aN ?_ ?_ ?_ ?_) (L2.aN ?_ ?_ ?_ ?_) (L2.aN ?_ ?_ ?_ ?_) (L2.aN ?_ ?_ ?_ ?_) (L2.aN ?_ ?_ ?_ ?_) (L2.aN ?_ ?_ ?_ ?_) (L2.aN ?_ ?_ ?_ ?_) (L2.aN ?_ ?_ ?_ ?_) (L2.aN ?_ ?_ ?_ ?_) (L2.aN ?_ ?_ ?_ ?_) (L2.aN ?_ ?_ ?_ ?_) (L2.aN ?_ ?_ ?_ ?_) (L2.aN ?_ ?_ ?_ ?_) (L2.aN ?_ ?_ ?_ ?_) (L2.aN ?_ ?_ ?_ ?_) (L2.aN ?_ ?_ ?_ ?_) (L2.aN ?_ ?_ ?_ ?_) (L2.aN ?_ ?_ ?_ ?_) (L2.aN ?_ ?_ ?_ ?_) (L2.aN ?_ ?_ ?_ ?_) (L2.aN ?_ ?_ ?_ ?_) (L2.aN ?_ ?_ ?_ ?_) (L2.aN ?_ ?_ ?_ ?_) (L2.aN ?_ ?_ ?_ ?_) (L2.aN ?_ ?_ ?_ ?_) (L2.aN ?_ ?_ ?_ ?_) (L2.aN ?_ ?_ ?_ ?_) (L2.aN ?_ ?_ ?_ ?_) (L2.aN ?_ ?_ ?_ ?_) (L2.aN ?_ ?_ ?_ ?_) ?_ ?_ ?_ ?_ ?_ ?_ ?_ ?_ ?_ ?_ ?_ ?_ ?_ ?_ ?_ ?_ ?_ ?_ ?_ ?_
  all_goals try k_is
  all_goals first | rfl | (rw [← Array.all_toList]; rfl)
 case hcd=>intro w; first | kernel_rfl | rfl
 case hKP=>intro w; first | kernel_rfl | rfl
end
