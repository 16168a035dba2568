import PyProof.Rows.All
import Wide.All
import OpenK.AllK
import Wide.FinOn
import Lean
import PyProof.EqAt
import PyProof.EqKinds
import PyProof.TupleCall
import PyProof.Rows.ListRangeD
import KE.LcSums
import KE.KRevSl
import PyProof.Rows.SetFrom
import PyProof.Rows.ListMulArg
import KE.KSortKey
import PySem.Challenge.RW_treeasks_k35_bound_of_two_prices
set_option Elab.async false
set_option linter.all false
set_option maxRecDepth 100000
set_option genSizeOf false
set_option maxHeartbeats 4000000
set_option exponentiation.threshold 9000
noncomputable section
theorem PySem.W.Fast.te14377196189695923515:True:=trivial
def PySem.W.Fast.tw14377196189695923515:Nat:=0
theorem PySem.W.Fast.te8342429504625594765:True:=trivial
def PySem.W.Fast.tw8342429504625594765:Nat:=0
def PySem.W.Fast.tw7538303042160075081:PySem.Program:=PySem.Challenge.pw_treeasks_k35_bound_of_two_prices
theorem PySem.W.Fast.te7538303042160075081:PySem.Challenge.pw_treeasks_k35_bound_of_two_prices=PySem.W.Fast.tw7538303042160075081:=rfl
def PySem.W.Fast.tw2567785392273660037:List PySem.Stmt:=((PySem.Challenge.pw_treeasks_k35_bound_of_two_prices.main.body.drop 6).take 1)
theorem PySem.W.Fast.te2567785392273660037:((PySem.Challenge.pw_treeasks_k35_bound_of_two_prices.main.body.drop 6).take 1)=PySem.W.Fast.tw2567785392273660037:=rfl
def PySem.W.Fast.tw7450529730336766877:List PySem.Stmt:=((PySem.Challenge.pw_treeasks_k35_bound_of_two_prices.main.body.drop 2).take 1)
theorem PySem.W.Fast.te7450529730336766877:((PySem.Challenge.pw_treeasks_k35_bound_of_two_prices.main.body.drop 2).take 1)=PySem.W.Fast.tw7450529730336766877:=rfl
def PySem.W.Fast.tw16014844543129358143:List PySem.Stmt:=((PySem.Challenge.pw_treeasks_k35_bound_of_two_prices.main.body.drop 61).take 13)
theorem PySem.W.Fast.te16014844543129358143:((PySem.Challenge.pw_treeasks_k35_bound_of_two_prices.main.body.drop 61).take 13)=PySem.W.Fast.tw16014844543129358143:=rfl
def PySem.W.Fast.tw15946568020523010019:List PySem.Stmt:=((PySem.Challenge.pw_treeasks_k35_bound_of_two_prices.main.body.drop 7).take 9)
theorem PySem.W.Fast.te15946568020523010019:((PySem.Challenge.pw_treeasks_k35_bound_of_two_prices.main.body.drop 7).take 9)=PySem.W.Fast.tw15946568020523010019:=rfl
def PySem.W.Fast.tw13996131841954035413:List PySem.Stmt:=((PySem.Challenge.pw_treeasks_k35_bound_of_two_prices.main.body.drop 74).take 12)
theorem PySem.W.Fast.te13996131841954035413:((PySem.Challenge.pw_treeasks_k35_bound_of_two_prices.main.body.drop 74).take 12)=PySem.W.Fast.tw13996131841954035413:=rfl
def PySem.W.Fast.tw13880158653616348286:List PySem.Stmt:=((PySem.Challenge.pw_treeasks_k35_bound_of_two_prices.main.body.drop 32).take 15)
theorem PySem.W.Fast.te13880158653616348286:((PySem.Challenge.pw_treeasks_k35_bound_of_two_prices.main.body.drop 32).take 15)=PySem.W.Fast.tw13880158653616348286:=rfl
def PySem.W.Fast.tw1408782807078800881:List PySem.Stmt:=((PySem.Challenge.pw_treeasks_k35_bound_of_two_prices.main.body.drop 3).take 1)
theorem PySem.W.Fast.te1408782807078800881:((PySem.Challenge.pw_treeasks_k35_bound_of_two_prices.main.body.drop 3).take 1)=PySem.W.Fast.tw1408782807078800881:=rfl
def PySem.W.Fast.tw7312983916769675725:List PySem.Stmt:=((PySem.Challenge.pw_treeasks_k35_bound_of_two_prices.main.body.drop 5).take 1)
theorem PySem.W.Fast.te7312983916769675725:((PySem.Challenge.pw_treeasks_k35_bound_of_two_prices.main.body.drop 5).take 1)=PySem.W.Fast.tw7312983916769675725:=rfl
def PySem.W.Fast.tw16718126192673334736:List PySem.Stmt:=((PySem.Challenge.pw_treeasks_k35_bound_of_two_prices.main.body.drop 4).take 1)
theorem PySem.W.Fast.te16718126192673334736:((PySem.Challenge.pw_treeasks_k35_bound_of_two_prices.main.body.drop 4).take 1)=PySem.W.Fast.tw16718126192673334736:=rfl
def PySem.W.Fast.tw1801804389391835208:PySem.Program:=({ PySem.Challenge.pw_treeasks_k35_bound_of_two_prices with main:={ PySem.Challenge.pw_treeasks_k35_bound_of_two_prices.main with body:=(PySem.Challenge.pw_treeasks_k35_bound_of_two_prices.main.body.drop 1).take 7++(PySem.Challenge.pw_treeasks_k35_bound_of_two_prices.main.body.drop 9).take 4++(PySem.Challenge.pw_treeasks_k35_bound_of_two_prices.main.body.drop 14).take 7++(PySem.Challenge.pw_treeasks_k35_bound_of_two_prices.main.body.drop 22).take 5++(PySem.Challenge.pw_treeasks_k35_bound_of_two_prices.main.body.drop 28).take 7++(PySem.Challenge.pw_treeasks_k35_bound_of_two_prices.main.body.drop 36).take 6++(PySem.Challenge.pw_treeasks_k35_bound_of_two_prices.main.body.drop 43).take 3++(PySem.Challenge.pw_treeasks_k35_bound_of_two_prices.main.body.drop 47).take 4++(PySem.Challenge.pw_treeasks_k35_bound_of_two_prices.main.body.drop 52).take 7++(PySem.Challenge.pw_treeasks_k35_bound_of_two_prices.main.body.drop 60).take 5++(PySem.Challenge.pw_treeasks_k35_bound_of_two_prices.main.body.drop 66).take 20 } }:PySem.Program)
theorem PySem.W.Fast.te1801804389391835208:({ PySem.Challenge.pw_treeasks_k35_bound_of_two_prices with main:={ PySem.Challenge.pw_treeasks_k35_bound_of_two_prices.main with body:=(PySem.Challenge.pw_treeasks_k35_bound_of_two_prices.main.body.drop 1).take 7++(PySem.Challenge.pw_treeasks_k35_bound_of_two_prices.main.body.drop 9).take 4++(PySem.Challenge.pw_treeasks_k35_bound_of_two_prices.main.body.drop 14).take 7++(PySem.Challenge.pw_treeasks_k35_bound_of_two_prices.main.body.drop 22).take 5++(PySem.Challenge.pw_treeasks_k35_bound_of_two_prices.main.body.drop 28).take 7++(PySem.Challenge.pw_treeasks_k35_bound_of_two_prices.main.body.drop 36).take 6++(PySem.Challenge.pw_treeasks_k35_bound_of_two_prices.main.body.drop 43).take 3++(PySem.Challenge.pw_treeasks_k35_bound_of_two_prices.main.body.drop 47).take 4++(PySem.Challenge.pw_treeasks_k35_bound_of_two_prices.main.body.drop 52).take 7++(PySem.Challenge.pw_treeasks_k35_bound_of_two_prices.main.body.drop 60).take 5++(PySem.Challenge.pw_treeasks_k35_bound_of_two_prices.main.body.drop 66).take 20 } }:PySem.Program)=PySem.W.Fast.tw1801804389391835208:=rfl
def PySem.W.Fast.tw10879627298176222994:List PySem.Stmt:=((PySem.Challenge.pw_treeasks_k35_bound_of_two_prices.main.body.drop 16).take 16)
theorem PySem.W.Fast.te10879627298176222994:((PySem.Challenge.pw_treeasks_k35_bound_of_two_prices.main.body.drop 16).take 16)=PySem.W.Fast.tw10879627298176222994:=rfl
def PySem.W.Fast.tw3289495115434953646:List PySem.Stmt:=((PySem.Challenge.pw_treeasks_k35_bound_of_two_prices.main.body.drop 47).take 14)
theorem PySem.W.Fast.te3289495115434953646:((PySem.Challenge.pw_treeasks_k35_bound_of_two_prices.main.body.drop 47).take 14)=PySem.W.Fast.tw3289495115434953646:=rfl
def PySem.W.Fast.tw3114496408721035084:List PySem.Stmt:=((PySem.Challenge.pw_treeasks_k35_bound_of_two_prices.main.body.drop 0).take 2)
theorem PySem.W.Fast.te3114496408721035084:((PySem.Challenge.pw_treeasks_k35_bound_of_two_prices.main.body.drop 0).take 2)=PySem.W.Fast.tw3114496408721035084:=rfl
namespace Ob
noncomputable section
open PySem
open PySem.Str renaming ofString → S
open PySem.Value renaming str → v, ref → r, int → i, none → n
abbrev F := Params → Obj
noncomputable def d (P : Params) (s : Str) (t : Tok) (w : Value) : DictEntry := ⟨PyData.keyHash P s, .str s t, w⟩
noncomputable def g (k : Nat) (q : Str → Str) : FuncData := match PySem.Challenge.pw_treeasks_k35_bound_of_two_prices.main.body[k]? with
  | some (.FunctionDef a b c _ _ _ s _ _ _) => ⟨a,q a,b,.stmts c,s,0,[],n,n,n,n,none,n,n,0⟩
  | some (.ClassDef _ _ _ (.FunctionDef a b c _ _ _ s _ _ _ :: _) _ _ _ _ _ _ _) => ⟨a,q a,b,.stmts c,s,0,[],n,n,n,n,none,n,n,0⟩
  | _ => default
noncomputable def x (k : Nat) : F := fun _ => ⟨n,none,.func (g k id),#[]⟩
noncomputable def X (k : Nat) (q : Str) : F := fun _ => ⟨n,none,.func (g k fun _ => q),#[]⟩
noncomputable def y (k : Nat) (m c : Value) : F := fun _ => ⟨.type "function",none,.func { g k id with globals := 3, pyModule := m, code := c },#[]⟩
noncomputable def Y (k : Nat) (q : Str) (m c : Value) : F := fun _ => ⟨.type "function",none,.func { g k (fun _ => q) with globals := 3, pyModule := m, code := c },#[]⟩
noncomputable def u (l : List Value) : F := fun _ => ⟨.type "tuple",none,.seq l.toArray 0,#[]⟩
noncomputable def z (l : List Value) : F := fun _ => ⟨n,none,.fields l.toArray,#[]⟩
noncomputable def V (s : String) (t : Tok) : Value := v (S s) t
noncomputable def q (s : String) (t1 t2 t3 : Tok) (l a b c e : Int) (r1 : Addr) (m : Int) (r2 r3 r4 r5 : Addr) (t : Int) (t4 : Tok) : F := fun _ => ⟨.type "code",none,.fields #[v (S s) t1,v (S s) t2,v (S "/claim/cut.py") t3,i l 0,i a 0,i b 0,i c 0,i e 0,r r1,.bool true,i m 0,r r2,n,r r3,r r4,r r5,i t 0,i l 0,v (S "/claim/cut.py") t4],#[]⟩
noncomputable def k (l : List Value) : F := fun _ => ⟨.type "code",none,.fields l.toArray,#[]⟩
noncomputable def w (f : F) (a b : Params → W.BT) : Params → W.BT := fun P => .node (f P) (a P) (b P)
noncomputable def e : Params → W.BT := fun _ => .nil
noncomputable def o (f : F) : Params → W.BT := w f e e
noncomputable def ha(p0:String)(p1:Nat)(p2:String):F:=u [(V p0 p1),(V p2 (p1+1))]
noncomputable def hb(p0:String)(p1:Nat)(p2:String)(p3:String):F:=u [(V p0 p1),(V p2 (p1+1)),(V p3 (p1+2))]
noncomputable def hc(p0:String)(p1:Nat)(p2:Int)(p3:Int)(p4:Nat)(p5:Int):F:=k [(V p0 p1),(V p0 (p1+1)),(V "/claim/cut.py" (p1+2)),(i p2 0),(i p3 0),(i 0 0),(i 0 0),(i 3 0),(r p4),(.bool .true),(i 181 0),(r (p4+1)),n,n,n,(r (p4+2)),(i p5 0),(i p2 0),(V "/claim/cut.py" (p1+4))]
noncomputable def hd(p0:String)(p1:Nat)(p2:Int)(p3:Nat)(p4:Int):F:=k [(V p0 p1),(V p0 (p1+1)),(V "/claim/cut.py" (p1+2)),(i p2 0),(i 0 0),(i 0 0),(i 0 0),(i 0 0),(r p3),(.bool .false),(i 181 0),(r (p3+1)),n,n,n,n,(i p4 0),(i p2 0),(V "/claim/cut.py" (p1+4))]
noncomputable def he(p0:Nat)(p1:Nat)(p2:String)(p3:Nat):F:=fun P=>⟨(.type "frame"),none,.plain,#[(some (r p0)),(some (r 3)),(some (r p1)),none,(some (V p2 p3)),none,(some (r 0))]⟩
noncomputable def hf(p0:String)(p1:Nat)(p2:String)(p3:String)(p4:String)(p5:String):F:=u [(V p0 p1),(V p2 (p1+1)),(V p3 (p1+2)),(V p4 (p1+3)),(V p5 (p1+4))]
noncomputable def hg(p0:Nat):F:=fun P=>⟨(.type "builtin_function_or_method"),none,(.fields #[(.builtin "object.__init_subclass__"),(r p0)]),#[]⟩
noncomputable def hh(p0:Nat):F:=fun P=>⟨(.type "super"),none,(.fields #[(r p0),(r p0),(r p0)]),#[]⟩
noncomputable def hi(p0:String)(p1:Nat)(p2:Nat)(p3:Nat)(p4:Nat):F:=fun P=>⟨(.type "type"),none,(.cls ⟨(S p0),[(r 24)],[(r p1),(r 24),(.type "ValueError"),(.type "Exception"),(.type "BaseException"),(.type "object")],p2,(S p0),.true,[],[],.false,none,.false⟩),#[(some (r p3)),none,(some (V p0 p4)),(some (V p0 (p4+8))),(some (.builtin "ValueError.__new__")),(some (.bool .true))]⟩
noncomputable def hj(p0:Nat)(p1:Int)(p2:String)(p3:Nat)(p4:Nat)(p5:String)(p6:Nat)(p7:Nat)(p8:Nat):F:=fun P=>⟨(.type "dict"),none,(.dict #[(d P (S "__module__") p0 (v (S "treeasks.errors") 187)),(d P (S "__firstlineno__") (p0+4) (i p1 (p0+3))),(d P (S p2) p3 (r p4)),(d P (S p5) p6 (r p7)),(d P (S "__doc__") (p6+1) n)] p8),#[]⟩
noncomputable def hk(p0:String)(p1:Nat)(p2:String)(p3:String)(p4:String):F:=u [(V p0 p1),(V p2 (p1+1)),(V p3 (p1+2)),(V p4 (p1+3))]
noncomputable def hl(p0:Nat)(p1:String)(p2:Nat):F:=Y p0 (S p1) (V "treeasks.errors" 187) (r p2)
noncomputable def hm(p0:Int)(p1:Nat):F:=z [(i p0 0),(i 4 0),(r p1)]
noncomputable def hn(p0:Nat)(p1:String)(p2:Int)(p3:Int)(p4:Nat)(p5:Int)(p6:Nat):F:=k [(V "__init__" p0),(V p1 (p0+1)),(V "/claim/cut.py" (p0+2)),(i p2 0),(i p3 0),(i 0 0),(i 0 0),(i 3 0),(r p4),(.bool .true),(i 181 0),(r (p4+1)),n,(r (p4+2)),(r (p4+3)),(r (p4+4)),(i p5 0),(i p2 0),(V "/claim/cut.py" p6)]
noncomputable def ho(p0:Nat)(p1:String)(p2:Int)(p3:Nat)(p4:Nat)(p5:Nat):F:=fun P=>⟨(.type "dict"),none,(.dict #[(d P (S "__module__") p0 (v (S "treeasks.errors") 187)),(d P (S "__qualname__") (p0+2) (v (S p1) (p0+1))),(d P (S "__firstlineno__") (p0+4) (i p2 (p0+3))),(d P (S "__init__") p3 (r p4)),(d P (S "__static_attributes__") p5 (r (p4+1)))] 5),#[]⟩
noncomputable def hp(p0:Nat)(p1:String)(p2:Int)(p3:Nat):F:=fun P=>⟨(.type "dict"),none,(.dict #[(d P (S "__module__") p0 (v (S "treeasks.errors") 187)),(d P (S "__qualname__") (p0+2) (v (S p1) (p0+1))),(d P (S "__firstlineno__") (p0+4) (i p2 (p0+3))),(d P (S "__static_attributes__") (p0+5) (r p3))] 4),#[]⟩
noncomputable def hq(p0:Nat)(p1:Int)(p2:Nat):F:=fun P=>⟨(.type "dict"),none,(.dict #[(d P (S "__module__") p0 (v (S "treeasks.errors") 187)),(d P (S "__firstlineno__") (p0+4) (i p1 (p0+3))),(d P (S "__static_attributes__") (p0+5) (r p2)),(d P (S "__doc__") (p0+6) n)] 2),#[]⟩
noncomputable def zl:List (Nat×Nat×Nat)→List Value
  | []=>[]
  | (a,b,c)::t=>i (Int.ofNat a) 0::i (Int.ofNat b) 0::r c::zl t
def zz:List Value:=zl [(2,0,20),(4,0,33),(10,0,52),(15,0,71),(20,0,90),(25,0,109),(27,0,121),(30,0,133),(32,0,140),(34,0,147),(38,0,154),(48,0,161),(55,0,168),(65,0,175),(71,0,182),(73,0,189),(79,0,196),(84,0,203),(92,0,210),(101,0,217),(103,0,224),(105,0,231),(107,0,238),(109,0,243),(114,0,250),(117,0,257),(121,0,264),(128,0,271),(132,0,278),(134,0,285),(138,0,290),(143,0,297),(145,0,304),(155,0,309),(160,0,316),(163,0,323),(167,0,328),(169,0,335),(173,0,342),(178,0,349),(182,0,354),(186,0,361),(189,0,368),(201,0,375),(210,0,382),(215,0,389),(217,0,394),(224,0,401),(228,0,406),(235,0,413),(239,0,420),(245,0,427),(255,0,434),(261,0,441),(271,0,448),(277,0,453),(280,0,458)]
def A64:F:=fun P=>⟨(.type "dict"),none,(.dict #[(d P (S "__name__") 165 (v (S "treeasks.errors") 187)),(d P (S "__doc__") 166 n),(d P (S "__package__") 167 n),(d P (S "__loader__") 168 (.builtin "__main__.__loader__#opaque")),(d P (S "__spec__") 169 n),(d P (S "__annotations__") 170 (r 6)),(d P (S "__builtins__") 171 (r 4)),(d P (S "__file__") 173 (v (S "/claim/cut.py") 172)),(d P (S "__cached__") 174 n),(d P (S "AskError") 206 (r 24)),(d P (S "NoTree") 233 (r 44))] 11),#[]⟩
def a0k:F:=fun P=>⟨(.type "type"),none,(.cls ⟨(S "AskError"),[(.type "ValueError")],[(r 24),(.type "ValueError"),(.type "Exception"),(.type "BaseException"),(.type "object")],23,(S "AskError"),.true,[],[(r 44)],.false,none,.false⟩),#[(some (r 15)),none,(some (V "AskError" 189)),(some (V "AskError" 197)),(some (.builtin "ValueError.__new__")),(some (.bool .true))]⟩
def a0m:F:=z [(i 2 0),(i 0 0),(r 20),(i 4 0),(i 0 0),(r 33)]
def A86:F:=fun P=>⟨(.type "dict"),none,(.dict #[(d P (S "__name__") 165 (v (S "treeasks.errors") 187)),(d P (S "__doc__") 166 n),(d P (S "__package__") 167 n),(d P (S "__loader__") 168 (.builtin "__main__.__loader__#opaque")),(d P (S "__spec__") 169 n),(d P (S "__annotations__") 170 (r 6)),(d P (S "__builtins__") 171 (r 4)),(d P (S "__file__") 173 (v (S "/claim/cut.py") 172)),(d P (S "__cached__") 174 n),(d P (S "AskError") 206 (r 24)),(d P (S "NoTree") 233 (r 44)),(d P (S "NoAsks") 258 (r 63))] 12),#[]⟩
def a1c:F:=fun P=>⟨(.type "type"),none,(.cls ⟨(S "AskError"),[(.type "ValueError")],[(r 24),(.type "ValueError"),(.type "Exception"),(.type "BaseException"),(.type "object")],23,(S "AskError"),.true,[],[(r 44),(r 63)],.false,none,.false⟩),#[(some (r 15)),none,(some (V "AskError" 189)),(some (V "AskError" 197)),(some (.builtin "ValueError.__new__")),(some (.bool .true))]⟩
def a1e:F:=z [(i 2 0),(i 0 0),(r 20),(i 4 0),(i 0 0),(r 33),(i 10 0),(i 0 0),(r 52)]
def A108:F:=fun P=>⟨(.type "dict"),none,(.dict #[(d P (S "__name__") 165 (v (S "treeasks.errors") 187)),(d P (S "__doc__") 166 n),(d P (S "__package__") 167 n),(d P (S "__loader__") 168 (.builtin "__main__.__loader__#opaque")),(d P (S "__spec__") 169 n),(d P (S "__annotations__") 170 (r 6)),(d P (S "__builtins__") 171 (r 4)),(d P (S "__file__") 173 (v (S "/claim/cut.py") 172)),(d P (S "__cached__") 174 n),(d P (S "AskError") 206 (r 24)),(d P (S "NoTree") 233 (r 44)),(d P (S "NoAsks") 258 (r 63)),(d P (S "NoPrices") 283 (r 82))] 13),#[]⟩
def a1v:F:=fun P=>⟨(.type "type"),none,(.cls ⟨(S "AskError"),[(.type "ValueError")],[(r 24),(.type "ValueError"),(.type "Exception"),(.type "BaseException"),(.type "object")],23,(S "AskError"),.true,[],[(r 44),(r 63),(r 82)],.false,none,.false⟩),#[(some (r 15)),none,(some (V "AskError" 189)),(some (V "AskError" 197)),(some (.builtin "ValueError.__new__")),(some (.bool .true))]⟩
def a1x:F:=z [(i 2 0),(i 0 0),(r 20),(i 4 0),(i 0 0),(r 33),(i 10 0),(i 0 0),(r 52),(i 15 0),(i 0 0),(r 71)]
def A130:F:=fun P=>⟨(.type "dict"),none,(.dict #[(d P (S "__name__") 165 (v (S "treeasks.errors") 187)),(d P (S "__doc__") 166 n),(d P (S "__package__") 167 n),(d P (S "__loader__") 168 (.builtin "__main__.__loader__#opaque")),(d P (S "__spec__") 169 n),(d P (S "__annotations__") 170 (r 6)),(d P (S "__builtins__") 171 (r 4)),(d P (S "__file__") 173 (v (S "/claim/cut.py") 172)),(d P (S "__cached__") 174 n),(d P (S "AskError") 206 (r 24)),(d P (S "NoTree") 233 (r 44)),(d P (S "NoAsks") 258 (r 63)),(d P (S "NoPrices") 283 (r 82)),(d P (S "NoShare") 308 (r 101))] 14),#[]⟩
def a2h:F:=fun P=>⟨(.type "type"),none,(.cls ⟨(S "AskError"),[(.type "ValueError")],[(r 24),(.type "ValueError"),(.type "Exception"),(.type "BaseException"),(.type "object")],23,(S "AskError"),.true,[],[(r 44),(r 63),(r 82),(r 101)],.false,none,.false⟩),#[(some (r 15)),none,(some (V "AskError" 189)),(some (V "AskError" 197)),(some (.builtin "ValueError.__new__")),(some (.bool .true))]⟩
def a2j:F:=z [(i 2 0),(i 0 0),(r 20),(i 4 0),(i 0 0),(r 33),(i 10 0),(i 0 0),(r 52),(i 15 0),(i 0 0),(r 71),(i 20 0),(i 0 0),(r 90)]
def A152:F:=fun P=>⟨(.type "dict"),none,(.dict #[(d P (S "__name__") 165 (v (S "treeasks.errors") 187)),(d P (S "__doc__") 166 n),(d P (S "__package__") 167 n),(d P (S "__loader__") 168 (.builtin "__main__.__loader__#opaque")),(d P (S "__spec__") 169 n),(d P (S "__annotations__") 170 (r 6)),(d P (S "__builtins__") 171 (r 4)),(d P (S "__file__") 173 (v (S "/claim/cut.py") 172)),(d P (S "__cached__") 174 n),(d P (S "AskError") 206 (r 24)),(d P (S "NoTree") 233 (r 44)),(d P (S "NoAsks") 258 (r 63)),(d P (S "NoPrices") 283 (r 82)),(d P (S "NoShare") 308 (r 101)),(d P (S "NoNumber") 324 (r 113))] 15),#[]⟩
def a2y:F:=fun P=>⟨(.type "type"),none,(.cls ⟨(S "AskError"),[(.type "ValueError")],[(r 24),(.type "ValueError"),(.type "Exception"),(.type "BaseException"),(.type "object")],23,(S "AskError"),.true,[],[(r 44),(r 63),(r 82),(r 101),(r 113)],.false,none,.false⟩),#[(some (r 15)),none,(some (V "AskError" 189)),(some (V "AskError" 197)),(some (.builtin "ValueError.__new__")),(some (.bool .true))]⟩
def a30:F:=z [(i 2 0),(i 0 0),(r 20),(i 4 0),(i 0 0),(r 33),(i 10 0),(i 0 0),(r 52),(i 15 0),(i 0 0),(r 71),(i 20 0),(i 0 0),(r 90),(i 25 0),(i 0 0),(r 109)]
def A167:F:=fun P=>⟨(.type "dict"),none,(.dict #[(d P (S "__name__") 165 (v (S "treeasks.trees") 376)),(d P (S "__doc__") 166 n),(d P (S "__package__") 167 n),(d P (S "__loader__") 168 (.builtin "__main__.__loader__#opaque")),(d P (S "__spec__") 169 n),(d P (S "__annotations__") 170 (r 6)),(d P (S "__builtins__") 171 (r 4)),(d P (S "__file__") 173 (v (S "/claim/cut.py") 172)),(d P (S "__cached__") 174 n),(d P (S "AskError") 206 (r 24)),(d P (S "NoTree") 233 (r 44)),(d P (S "NoAsks") 258 (r 63)),(d P (S "NoPrices") 283 (r 82)),(d P (S "NoShare") 308 (r 101)),(d P (S "NoNumber") 324 (r 113)),(d P (S "NoPlace") 340 (r 125)),(d P (S "is_whole") 349 (r 134)),(d P (S "is_between") 358 (r 141)),(d P (S "greatest_common") 366 (r 148)),(d P (S "is_fraction") 375 (r 155)),(d P (S "MOST_TIES") 379 (i 23 378)),(d P (S "MOST_ROOM") 381 (i 1000000 380))] 22),#[]⟩
def a3r:F:=fun P=>⟨(.type "type"),none,(.cls ⟨(S "AskError"),[(.type "ValueError")],[(r 24),(.type "ValueError"),(.type "Exception"),(.type "BaseException"),(.type "object")],23,(S "AskError"),.true,[],[(r 44),(r 63),(r 82),(r 101),(r 113),(r 125)],.false,none,.false⟩),#[(some (r 15)),none,(some (V "AskError" 189)),(some (V "AskError" 197)),(some (.builtin "ValueError.__new__")),(some (.bool .true))]⟩
def a3v:F:=z [(i 2 0),(i 0 0),(r 20),(i 4 0),(i 0 0),(r 33),(i 10 0),(i 0 0),(r 52),(i 15 0),(i 0 0),(r 71),(i 20 0),(i 0 0),(r 90),(i 25 0),(i 0 0),(r 109),(i 27 0),(i 0 0),(r 121),(i 30 0),(i 0 0),(r 133),(i 32 0),(i 0 0),(r 140),(i 34 0),(i 0 0),(r 147),(i 38 0),(i 0 0),(r 154)]
def A210:F:=fun P=>⟨(.type "dict"),none,(.dict #[(d P (S "__name__") 165 (v (S "treeasks.fractions") 459)),(d P (S "__doc__") 166 n),(d P (S "__package__") 167 n),(d P (S "__loader__") 168 (.builtin "__main__.__loader__#opaque")),(d P (S "__spec__") 169 n),(d P (S "__annotations__") 170 (r 6)),(d P (S "__builtins__") 171 (r 4)),(d P (S "__file__") 173 (v (S "/claim/cut.py") 172)),(d P (S "__cached__") 174 n),(d P (S "AskError") 206 (r 24)),(d P (S "NoTree") 233 (r 44)),(d P (S "NoAsks") 258 (r 63)),(d P (S "NoPrices") 283 (r 82)),(d P (S "NoShare") 308 (r 101)),(d P (S "NoNumber") 324 (r 113)),(d P (S "NoPlace") 340 (r 125)),(d P (S "is_whole") 349 (r 134)),(d P (S "is_between") 358 (r 141)),(d P (S "greatest_common") 366 (r 148)),(d P (S "is_fraction") 375 (r 155)),(d P (S "MOST_TIES") 379 (i 23 378)),(d P (S "MOST_ROOM") 381 (i 1000000 380)),(d P (S "has_two_lists") 390 (r 162)),(d P (S "look_at_tree") 402 (r 169)),(d P (S "depths") 411 (r 176)),(d P (S "is_place") 419 (r 183)),(d P (S "are_ends") 428 (r 190)),(d P (S "MOST_ASKS") 432 (i 30 431)),(d P (S "MOST_SIZE") 434 (i 1000000 433)),(d P (S "MOST_WORTH") 436 (i 1000000000000 435)),(d P (S "is_ask") 448 (r 197)),(d P (S "look_at_asks") 458 (r 204)),(d P (S "fraction") 469 (r 211)),(d P (S "plus") 477 (r 218)),(d P (S "minus") 485 (r 225)),(d P (S "times") 493 (r 232))] 36),#[]⟩
def a5n:F:=z (zz.take 66)
def A289:F:=fun P=>⟨(.type "dict"),none,(.dict #[(d P (S "__name__") 165 (v (S "treeasks.keeps") 600)),(d P (S "__doc__") 166 n),(d P (S "__package__") 167 n),(d P (S "__loader__") 168 (.builtin "__main__.__loader__#opaque")),(d P (S "__spec__") 169 n),(d P (S "__annotations__") 170 (r 6)),(d P (S "__builtins__") 171 (r 4)),(d P (S "__file__") 173 (v (S "/claim/cut.py") 172)),(d P (S "__cached__") 174 n),(d P (S "AskError") 206 (r 24)),(d P (S "NoTree") 233 (r 44)),(d P (S "NoAsks") 258 (r 63)),(d P (S "NoPrices") 283 (r 82)),(d P (S "NoShare") 308 (r 101)),(d P (S "NoNumber") 324 (r 113)),(d P (S "NoPlace") 340 (r 125)),(d P (S "is_whole") 349 (r 134)),(d P (S "is_between") 358 (r 141)),(d P (S "greatest_common") 366 (r 148)),(d P (S "is_fraction") 375 (r 155)),(d P (S "MOST_TIES") 379 (i 23 378)),(d P (S "MOST_ROOM") 381 (i 1000000 380)),(d P (S "has_two_lists") 390 (r 162)),(d P (S "look_at_tree") 402 (r 169)),(d P (S "depths") 411 (r 176)),(d P (S "is_place") 419 (r 183)),(d P (S "are_ends") 428 (r 190)),(d P (S "MOST_ASKS") 432 (i 30 431)),(d P (S "MOST_SIZE") 434 (i 1000000 433)),(d P (S "MOST_WORTH") 436 (i 1000000000000 435)),(d P (S "is_ask") 448 (r 197)),(d P (S "look_at_asks") 458 (r 204)),(d P (S "fraction") 469 (r 211)),(d P (S "plus") 477 (r 218)),(d P (S "minus") 485 (r 225)),(d P (S "times") 493 (r 232)),(d P (S "parted") 501 (r 239)),(d P (S "sum_of") 507 (r 244)),(d P (S "under") 515 (r 251)),(d P (S "look_at_ends") 526 (r 258)),(d P (S "climb") 537 (r 265)),(d P (S "way_between") 548 (r 272)),(d P (S "way_of") 556 (r 279)),(d P (S "meeting_of") 567 (r 286)),(d P (S "tops_between") 573 (r 291)),(d P (S "is_price") 582 (r 298)),(d P (S "look_at_prices") 593 (r 305)),(d P (S "spare_of") 599 (r 310))] 48),#[]⟩
def a7t:F:=z (zz.take 102)
def A369:F:=fun P=>⟨(.type "dict"),none,(.dict #[(d P (S "__name__") 165 (v (S "treeasks.mixed") 703)),(d P (S "__doc__") 166 n),(d P (S "__package__") 167 n),(d P (S "__loader__") 168 (.builtin "__main__.__loader__#opaque")),(d P (S "__spec__") 169 n),(d P (S "__annotations__") 170 (r 6)),(d P (S "__builtins__") 171 (r 4)),(d P (S "__file__") 173 (v (S "/claim/cut.py") 172)),(d P (S "__cached__") 174 n),(d P (S "AskError") 206 (r 24)),(d P (S "NoTree") 233 (r 44)),(d P (S "NoAsks") 258 (r 63)),(d P (S "NoPrices") 283 (r 82)),(d P (S "NoShare") 308 (r 101)),(d P (S "NoNumber") 324 (r 113)),(d P (S "NoPlace") 340 (r 125)),(d P (S "is_whole") 349 (r 134)),(d P (S "is_between") 358 (r 141)),(d P (S "greatest_common") 366 (r 148)),(d P (S "is_fraction") 375 (r 155)),(d P (S "MOST_TIES") 379 (i 23 378)),(d P (S "MOST_ROOM") 381 (i 1000000 380)),(d P (S "has_two_lists") 390 (r 162)),(d P (S "look_at_tree") 402 (r 169)),(d P (S "depths") 411 (r 176)),(d P (S "is_place") 419 (r 183)),(d P (S "are_ends") 428 (r 190)),(d P (S "MOST_ASKS") 432 (i 30 431)),(d P (S "MOST_SIZE") 434 (i 1000000 433)),(d P (S "MOST_WORTH") 436 (i 1000000000000 435)),(d P (S "is_ask") 448 (r 197)),(d P (S "look_at_asks") 458 (r 204)),(d P (S "fraction") 469 (r 211)),(d P (S "plus") 477 (r 218)),(d P (S "minus") 485 (r 225)),(d P (S "times") 493 (r 232)),(d P (S "parted") 501 (r 239)),(d P (S "sum_of") 507 (r 244)),(d P (S "under") 515 (r 251)),(d P (S "look_at_ends") 526 (r 258)),(d P (S "climb") 537 (r 265)),(d P (S "way_between") 548 (r 272)),(d P (S "way_of") 556 (r 279)),(d P (S "meeting_of") 567 (r 286)),(d P (S "tops_between") 573 (r 291)),(d P (S "is_price") 582 (r 298)),(d P (S "look_at_prices") 593 (r 305)),(d P (S "spare_of") 599 (r 310)),(d P (S "lay_on") 611 (r 317)),(d P (S "load_with") 621 (r 324)),(d P (S "over_on") 627 (r 329)),(d P (S "over_with") 636 (r 336)),(d P (S "MOST_COMMON_ROOM") 640 (i 60 639)),(d P (S "common_room") 648 (r 343)),(d P (S "look_at_most") 658 (r 350)),(d P (S "deepest_first") 664 (r 355)),(d P (S "raise_tops") 675 (r 362)),(d P (S "pile_up") 690 (r 369)),(d P (S "keep_from_last") 702 (r 376)),(d P (S "room_for_all") 713 (r 383))] 60),#[]⟩
def a9y:F:=z (zz.take 135)
def A444:F:=fun P=>⟨(.type "dict"),none,(.dict #[(d P (S "__name__") 165 (v (S "law_treeasks_k35_bound_of_two_prices") 745)),(d P (S "__doc__") 166 n),(d P (S "__package__") 167 n),(d P (S "__loader__") 168 (.builtin "__main__.__loader__#opaque")),(d P (S "__spec__") 169 n),(d P (S "__annotations__") 170 (r 6)),(d P (S "__builtins__") 171 (r 4)),(d P (S "__file__") 173 (v (S "/claim/cut.py") 172)),(d P (S "__cached__") 174 n),(d P (S "AskError") 206 (r 24)),(d P (S "NoTree") 233 (r 44)),(d P (S "NoAsks") 258 (r 63)),(d P (S "NoPrices") 283 (r 82)),(d P (S "NoShare") 308 (r 101)),(d P (S "NoNumber") 324 (r 113)),(d P (S "NoPlace") 340 (r 125)),(d P (S "is_whole") 349 (r 134)),(d P (S "is_between") 358 (r 141)),(d P (S "greatest_common") 366 (r 148)),(d P (S "is_fraction") 375 (r 155)),(d P (S "MOST_TIES") 379 (i 23 378)),(d P (S "MOST_ROOM") 381 (i 1000000 380)),(d P (S "has_two_lists") 390 (r 162)),(d P (S "look_at_tree") 402 (r 169)),(d P (S "depths") 411 (r 176)),(d P (S "is_place") 419 (r 183)),(d P (S "are_ends") 428 (r 190)),(d P (S "MOST_ASKS") 432 (i 30 431)),(d P (S "MOST_SIZE") 434 (i 1000000 433)),(d P (S "MOST_WORTH") 436 (i 1000000000000 435)),(d P (S "is_ask") 448 (r 197)),(d P (S "look_at_asks") 458 (r 204)),(d P (S "fraction") 469 (r 211)),(d P (S "plus") 477 (r 218)),(d P (S "minus") 485 (r 225)),(d P (S "times") 493 (r 232)),(d P (S "parted") 501 (r 239)),(d P (S "sum_of") 507 (r 244)),(d P (S "under") 515 (r 251)),(d P (S "look_at_ends") 526 (r 258)),(d P (S "climb") 537 (r 265)),(d P (S "way_between") 548 (r 272)),(d P (S "way_of") 556 (r 279)),(d P (S "meeting_of") 567 (r 286)),(d P (S "tops_between") 573 (r 291)),(d P (S "is_price") 582 (r 298)),(d P (S "look_at_prices") 593 (r 305)),(d P (S "spare_of") 599 (r 310)),(d P (S "lay_on") 611 (r 317)),(d P (S "load_with") 621 (r 324)),(d P (S "over_on") 627 (r 329)),(d P (S "over_with") 636 (r 336)),(d P (S "MOST_COMMON_ROOM") 640 (i 60 639)),(d P (S "common_room") 648 (r 343)),(d P (S "look_at_most") 658 (r 350)),(d P (S "deepest_first") 664 (r 355)),(d P (S "raise_tops") 675 (r 362)),(d P (S "pile_up") 690 (r 369)),(d P (S "keep_from_last") 702 (r 376)),(d P (S "room_for_all") 713 (r 383)),(d P (S "is_wide") 721 (r 390)),(d P (S "keep_mixed") 727 (r 395)),(d P (S "mixed_spare") 738 (r 402)),(d P (S "mixed_bound") 744 (r 407)),(d P (S "_law_cell_at") 754 (r 414)),(d P (S "_law_pool") 764 (r 421)),(d P (S "_law_take") 775 (r 428)),(d P (S "_law_alike") 786 (r 435)),(d P (S "_law_asks") 804 (r 442)),(d P (S "_law_up") 813 (r 449)),(d P (S "_law_meeting") 819 (r 454)),(d P (S "_law_way") 825 (r 459))] 72),#[]⟩
def ac2:F:=z (zz.take 171)
lay_quick Ob.A64
noncomputable def od : List F → List F
  | a::_::l=>a::od l
  | l=>l
noncomputable def ev : List F → List F
  | _::b::l=>b::ev l
  | _=>[]
noncomputable def bt : Nat → List F → Params → W.BT
  | k+1,f::l=>w f (bt k (od l)) (bt k (ev l))
  | _,_=>e
open W in
def lL (Q P0 P1:F):List F:=[boot_o_0,boot_o_1,boot_o_2,Q,boot_o_4,boot_o_5,boot_o_6,boot_o_7,boot_o_8,boot_o_9,boot_o_10,u [],P0,hd "<module>" 182 1 11 185,he 13 3 "__main__" 164,u [(.type "ValueError")],(fun P=>⟨(.type "builtin_function_or_method"),none,(.fields #[(.builtin "type.__prepare__"),(.type "type")]),#[]⟩),hp 196 "AskError" 2 22,u [],z [],hd "AskError" 191 2 18 194,he 20 17 "treeasks.errors" 187,u [],hj 196 2 "__static_attributes__" 201 22 "__weakref__" 203 25 3,P1,(fun P=>⟨(.type "getset_descriptor"),none,(.fields #[(V "__weakref__" 202),(r 24),(.builtin "ExceptionGroup.__weakref__"),n]),#[]⟩),hh 24,hg 24,u [(r 24)],(fun P=>⟨(.type "builtin_function_or_method"),none,(.fields #[(.builtin "type.__prepare__"),(.type "type")]),#[]⟩),ho 214 "NoTree" 4 227 41 230,u [],hm 6 40,hd "NoTree" 209 4 31 212,he 33 30 "treeasks.errors" 187,u [],z [],hb "self" 222 "part" "number",u [],X 2 (S "NoTree.__init__"),hn 219 "NoTree.__init__" 6 3 35 225 226,hl 2 "NoTree.__init__" 40,ha "number" 228 "part",hj 214 4 "__init__" 227 41 "__static_attributes__" 230 42 2,hi "NoTree" 44 43 28 207,hh 44,hg 44,u [(r 24)],(fun P=>⟨(.type "builtin_function_or_method"),none,(.fields #[(.builtin "type.__prepare__"),(.type "type")]),#[]⟩),ho 241 "NoAsks" 10 253 60 255,u [],hm 12 59,hd "NoAsks" 236 10 50 239,he 52 49 "treeasks.errors" 187,u [],z [],ha "self" 249 "number",u [],X 3 (S "NoAsks.__init__"),hn 246 "NoAsks.__init__" 12 2 54 251 252,hl 3 "NoAsks.__init__" 59,u [(V "number" 254)],hj 241 10 "__init__" 253 60 "__static_attributes__" 255 61 2,hi "NoAsks" 63 62 47 234,hh 63,hg 63,u [(r 24)],(fun P=>⟨(.type "builtin_function_or_method"),none,(.fields #[(.builtin "type.__prepare__"),(.type "type")]),#[]⟩),ho 266 "NoPrices" 15 278 79 280,u [],hm 17 78,hd "NoPrices" 261 15 69 264,he 71 68 "treeasks.errors" 187,u [],z [],ha "self" 274 "number",u [],X 4 (S "NoPrices.__init__"),hn 271 "NoPrices.__init__" 17 2 73 276 277,hl 4 "NoPrices.__init__" 78,u [(V "number" 279)],hj 266 15 "__init__" 278 79 "__static_attributes__" 280 80 2,hi "NoPrices" 82 81 66 259,hh 82,hg 82,u [(r 24)],(fun P=>⟨(.type "builtin_function_or_method"),none,(.fields #[(.builtin "type.__prepare__"),(.type "type")]),#[]⟩),ho 291 "NoShare" 20 303 98 305,u [],hm 22 97,hd "NoShare" 286 20 88 289,he 90 87 "treeasks.errors" 187,u [],z [],ha "self" 299 "number",u [],X 5 (S "NoShare.__init__"),hn 296 "NoShare.__init__" 22 2 92 301 302,hl 5 "NoShare.__init__" 97,u [(V "number" 304)],hj 291 20 "__init__" 303 98 "__static_attributes__" 305 99 2,hi "NoShare" 101 100 85 284,hh 101,hg 101,u [(r 24)],(fun P=>⟨(.type "builtin_function_or_method"),none,(.fields #[(.builtin "type.__prepare__"),(.type "type")]),#[]⟩),hp 316 "NoNumber" 25 111,u [],z [],hd "NoNumber" 311 25 107 314,he 109 106 "treeasks.errors" 187,u [],hq 316 25 111,hi "NoNumber" 113 112 104 309,hh 113,hg 113,u [(r 24)],(fun P=>⟨(.type "builtin_function_or_method"),none,(.fields #[(.builtin "type.__prepare__"),(.type "type")]),#[]⟩),hp 332 "NoPlace" 27 123,u [],z [],hd "NoPlace" 327 27 119 330,he 121 118 "treeasks.errors" 187,u [],hq 332 27 123,hi "NoPlace" 125 124 116 325,hh 125,hg 125,u [],z [],u [(V "thing" 346)],u [],x 9,q "is_whole" 343 344 345 30 1 0 0 3 128 181 129 130 131 132 347 348,y 9 (V "treeasks.numbers" 341) (r 133),u [],z [],hb "thing" 353 "least" "most",u [],x 10,q "is_between" 350 351 352 32 3 0 0 3 135 181 136 137 138 139 356 357,y 10 (V "treeasks.numbers" 341) (r 140),u [],z [],ha "number" 362 "bottom",u [],x 11,q "greatest_common" 359 360 361 34 2 0 0 3 142 181 143 144 145 146 364 365,y 11 (V "treeasks.numbers" 341) (r 147),u [],z [],hb "thing" 370 "top" "bottom",u [],x 12,q "is_fraction" 367 368 369 38 1 0 0 3 149 181 150 151 152 153 373 374,y 12 (V "treeasks.numbers" 341) (r 154),u [],z [],hb "thing" 385 "parents" "rooms",u [],x 16,q "has_two_lists" 382 383 384 48 1 0 0 3 156 181 157 158 159 160 388 389,y 16 (V "treeasks.trees" 376) (r 161),u [],z [],u [(V "thing" 394),(V "parents" 395),(V "rooms" 396),(V "number" 397),(V "parent" 398),(V "room" 399)],u [],x 17,q "look_at_tree" 391 392 393 55 1 0 0 3 163 181 164 165 166 167 400 401,y 17 (V "treeasks.trees" 376) (r 168),u [],z [],hb "tree" 406 "found" "parent",u [],x 18,q "depths" 403 404 405 65 1 0 0 3 170 181 171 172 173 174 409 410,y 18 (V "treeasks.trees" 376) (r 175),u [],z [],ha "tree" 415 "thing",u [],x 19,q "is_place" 412 413 414 71 2 0 0 3 177 181 178 179 180 181 417 418,y 19 (V "treeasks.trees" 376) (r 182),u [],z [],hb "tree" 423 "one" "other",u [],x 20,q "are_ends" 420 421 422 73 3 0 0 3 184 181 185 186 187 188 426 427,y 20 (V "treeasks.trees" 376) (r 189),u [],z [],u [(V "tree" 440),(V "thing" 441),(V "one" 442),(V "other" 443),(V "size" 444),(V "worth" 445)],u [],x 25,q "is_ask" 437 438 439 79 2 0 0 3 191 181 192 193 194 195 446 447,y 25 (V "treeasks.asks" 429) (r 196),u [],z [],hk "tree" 452 "thing" "number" "ask",u [],x 26,q "look_at_asks" 449 450 451 84 2 0 0 3 198 181 199 200 201 202 456 457,y 26 (V "treeasks.asks" 429) (r 203),u [],z [],hb "top" 464 "bottom" "common",u [],x 28,q "fraction" 461 462 463 92 2 0 0 3 205 181 206 207 208 209 467 468,y 28 (V "treeasks.fractions" 459) (r 210),u [],z [],ha "one" 473 "other",u [],x 29,q "plus" 470 471 472 101 2 0 0 3 212 181 213 214 215 216 475 476,y 29 (V "treeasks.fractions" 459) (r 217),u [],z [],ha "one" 481 "other",u [],x 30,q "minus" 478 479 480 103 2 0 0 3 219 181 220 221 222 223 483 484,y 30 (V "treeasks.fractions" 459) (r 224),u [],z [],ha "one" 489 "other",u [],x 31,q "times" 486 487 488 105 2 0 0 3 226 181 227 228 229 230 491 492,y 31 (V "treeasks.fractions" 459) (r 231),u [],z [],ha "one" 497 "other",u [],x 32,q "parted" 494 495 496 107 2 0 0 3 233 181 234 235 236 237 499 500,y 32 (V "treeasks.fractions" 459) (r 238),u [],z [],x 33,hc "sum_of" 502 109 1 240 505,y 33 (V "treeasks.fractions" 459) (r 243),u [],z [],ha "one" 511 "other",u [],x 34,q "under" 508 509 510 114 2 0 0 3 245 181 246 247 248 249 513 514,y 34 (V "treeasks.fractions" 459) (r 250),u [],z [],hb "tree" 521 "one" "other",u [],x 36,q "look_at_ends" 518 519 520 117 3 0 0 3 252 181 253 254 255 256 524 525,y 36 (V "treeasks.ways" 516) (r 257),u [],z [],hf "tree" 530 "one" "other" "way" "low",u [],x 37,q "climb" 527 528 529 121 3 0 0 3 259 181 260 261 262 263 535 536,y 37 (V "treeasks.ways" 516) (r 264),u [],z [],hf "tree" 541 "one" "other" "way" "meeting",u [],x 38,q "way_between" 538 539 540 128 3 0 0 3 266 181 267 268 269 270 546 547,y 38 (V "treeasks.ways" 516) (r 271),u [],z [],ha "tree" 552 "ask",u [],x 39,q "way_of" 549 550 551 132 2 0 0 3 273 181 274 275 276 277 554 555,y 39 (V "treeasks.ways" 516) (r 278),u [],z [],hf "tree" 560 "one" "other" "way" "meeting",u [],x 40,q "meeting_of" 557 558 559 134 3 0 0 3 280 181 281 282 283 284 565 566,y 40 (V "treeasks.ways" 516) (r 285),u [],z [],x 41,hc "tops_between" 568 138 3 287 571,y 41 (V "treeasks.ways" 516) (r 290),u [],z [],u [(V "thing" 579)],u [],x 43,q "is_price" 576 577 578 143 1 0 0 3 292 181 293 294 295 296 580 581,y 43 (V "treeasks.prices" 574) (r 297),u [],z [],hf "tree" 586 "thing" "ties" "number" "price",u [],x 44,q "look_at_prices" 583 584 585 145 2 0 0 3 299 181 300 301 302 303 591 592,y 44 (V "treeasks.prices" 574) (r 304),u [],z [],x 45,hc "spare_of" 594 155 4 306 597,y 45 (V "treeasks.prices" 574) (r 309),u [],z [],hk "ask" 605 "way" "load" "tie",u [],x 47,q "lay_on" 602 603 604 160 3 0 0 3 311 181 312 313 314 315 609 610,y 47 (V "treeasks.keeps" 600) (r 316),u [],z [],hk "tree" 615 "ask" "load" "found",u [],x 48,q "load_with" 612 613 614 163 3 0 0 3 318 181 319 320 321 322 619 620,y 48 (V "treeasks.keeps" 600) (r 323),u [],z [],x 49,hc "over_on" 622 167 4 325 625,y 49 (V "treeasks.keeps" 600) (r 328),u [],z [],hb "tree" 631 "ask" "load",u [],x 50,q "over_with" 628 629 630 169 3 0 0 3 330 181 331 332 333 334 634 635,y 50 (V "treeasks.keeps" 600) (r 335),u [],z [],ha "tree" 644 "room",u [],x 53,q "common_room" 641 642 643 173 1 0 0 3 337 181 338 339 340 341 646 647,y 53 (V "treeasks.rules" 637) (r 342),u [],z [],hk "asks" 652 "most" "number" "ask",u [],x 54,q "look_at_most" 649 650 651 178 2 0 0 3 344 181 345 346 347 348 656 657,y 54 (V "treeasks.rules" 637) (r 349),u [],z [],x 55,hc "deepest_first" 659 182 2 351 662,y 55 (V "treeasks.rules" 637) (r 354),u [],z [],hf "tree" 668 "ask" "prices" "step" "tie",u [],x 56,q "raise_tops" 665 666 667 186 4 0 0 3 356 181 357 358 359 360 673 674,y 56 (V "treeasks.rules" 637) (r 361),u [],z [],u [(V "tree" 679),(V "asks" 680),(V "terms" 681),(V "prices" 682),(V "rests" 683),(V "pile" 684),(V "number" 685),(V "weight" 686),(V "part" 687)],u [],x 57,q "pile_up" 676 677 678 189 3 0 0 3 363 181 364 365 366 367 688 689,y 57 (V "treeasks.rules" 637) (r 368),u [],z [],u [(V "tree" 694),(V "asks" 695),(V "pile" 696),(V "load" 697),(V "keep" 698),(V "number" 699)],u [],x 58,q "keep_from_last" 691 692 693 201 3 0 0 3 370 181 371 372 373 374 700 701,y 58 (V "treeasks.rules" 637) (r 375),u [],z [],hb "tree" 708 "asks" "room",u [],x 60,q "room_for_all" 705 706 707 210 2 0 0 3 377 181 378 379 380 381 711 712,y 60 (V "treeasks.mixed" 703) (r 382),u [],z [],ha "room" 717 "ask",u [],x 61,q "is_wide" 714 715 716 215 2 0 0 3 384 181 385 386 387 388 719 720,y 61 (V "treeasks.mixed" 703) (r 389),u [],z [],x 62,hc "keep_mixed" 722 217 2 391 725,y 62 (V "treeasks.mixed" 703) (r 394),u [],z [],hf "tree" 731 "room" "ask" "pieces" "units",u [],x 63,q "mixed_spare" 728 729 730 224 5 0 0 3 396 181 397 398 399 400 736 737,y 63 (V "treeasks.mixed" 703) (r 401),u [],z [],x 64,hc "mixed_bound" 739 228 4 403 742,y 64 (V "treeasks.mixed" 703) (r 406),u [],z [],ha "_law_script" 750 "_law_k",u [],x 66,q "_law_cell_at" 747 748 749 235 2 0 0 3 408 181 409 410 411 412 752 753,y 66 (V "law_treeasks_k35_bound_of_two_prices" 745) (r 413),u [],z [],hk "_law_script" 758 "_law_k" "_law_cell" "_law_mixed",u [],x 67,q "_law_pool" 755 756 757 239 2 0 0 3 415 181 416 417 418 419 762 763,y 67 (V "law_treeasks_k35_bound_of_two_prices" 745) (r 420),u [],z [],hf "_law_pool_here" 768 "_law_many" "_law_found" "_law_made" "_law_turn",u [],x 68,q "_law_take" 765 766 767 245 2 0 0 3 422 181 423 424 425 426 773 774,y 68 (V "law_treeasks_k35_bound_of_two_prices" 745) (r 427),u [],z [],hf "_law_pool_here" 779 "_law_most" "_law_way_here" "_law_parents" "_law_k",u [],x 69,q "_law_alike" 776 777 778 255 2 0 0 3 429 181 430 431 432 433 784 785,y 69 (V "law_treeasks_k35_bound_of_two_prices" 745) (r 434),u [],z [],u [(V "_law_pool_here" 790),(V "_law_tree" 791),(V "_law_least" 792),(V "_law_most" 793),(V "_law_sizes" 794),(V "_law_places" 795),(V "_law_asks_here" 796),(V "_law_k" 797),(V "_law_one" 798),(V "_law_other" 799),(V "_law_size" 800),(V "_law_worth" 801)],u [],x 70,q "_law_asks" 787 788 789 261 5 0 0 3 436 181 437 438 439 440 802 803,y 70 (V "law_treeasks_k35_bound_of_two_prices" 745) (r 441),u [],z [],hb "_law_tree" 808 "_law_place" "_law_found",u [],x 71,q "_law_up" 805 806 807 271 2 0 0 3 443 181 444 445 446 447 811 812,y 71 (V "law_treeasks_k35_bound_of_two_prices" 745) (r 448),u [],z [],x 72,hc "_law_meeting" 814 277 3 450 817,y 72 (V "law_treeasks_k35_bound_of_two_prices" 745) (r 453),u [],z [],x 73,hc "_law_way" 820 280 3 455 823,y 73 (V "law_treeasks_k35_bound_of_two_prices" 745) (r 458)]
def Ttree_85 (Q : F) : Params → W.BT := bt 11 ((lL Q a0m a0k).take 47)
def _root_.PySem.W.Fast.tw10280652682003413644 : Params → W.BT := Ttree_85 PySem.W.Fast.tw6963075612888702905
theorem _root_.PySem.W.Fast.te10280652682003413644 : Ttree_85 Ob.A64 = PySem.W.Fast.tw10280652682003413644 := (congrArg Ttree_85 PySem.W.Fast.te6963075612888702905)
lay_quick Ob.A86
def Ttree_107 (Q : F) : Params → W.BT := bt 11 ((lL Q a1e a1c).take 66)
def _root_.PySem.W.Fast.tw4677677165488204106 : Params → W.BT := Ttree_107 PySem.W.Fast.tw11147188043990879120
theorem _root_.PySem.W.Fast.te4677677165488204106 : Ttree_107 Ob.A86 = PySem.W.Fast.tw4677677165488204106 := (congrArg Ttree_107 PySem.W.Fast.te11147188043990879120)
lay_quick Ob.A108
def Ttree_129 (Q : F) : Params → W.BT := bt 11 ((lL Q a1x a1v).take 85)
def _root_.PySem.W.Fast.tw3644210316091569750 : Params → W.BT := Ttree_129 PySem.W.Fast.tw4549916873101738619
theorem _root_.PySem.W.Fast.te3644210316091569750 : Ttree_129 Ob.A108 = PySem.W.Fast.tw3644210316091569750 := (congrArg Ttree_129 PySem.W.Fast.te4549916873101738619)
lay_quick Ob.A130
def Ttree_151 (Q : F) : Params → W.BT := bt 11 ((lL Q a2j a2h).take 104)
def _root_.PySem.W.Fast.tw14115637051299115978 : Params → W.BT := Ttree_151 PySem.W.Fast.tw16405788764653981887
theorem _root_.PySem.W.Fast.te14115637051299115978 : Ttree_151 Ob.A130 = PySem.W.Fast.tw14115637051299115978 := (congrArg Ttree_151 PySem.W.Fast.te16405788764653981887)
lay_quick Ob.A152
def Ttree_166 (Q : F) : Params → W.BT := bt 11 ((lL Q a30 a2y).take 116)
def _root_.PySem.W.Fast.tw11756440847418370309 : Params → W.BT := Ttree_166 PySem.W.Fast.tw6053701103550676820
theorem _root_.PySem.W.Fast.te11756440847418370309 : Ttree_166 Ob.A152 = PySem.W.Fast.tw11756440847418370309 := (congrArg Ttree_166 PySem.W.Fast.te6053701103550676820)
lay_quick Ob.A167
def Ttree_209 (Q : F) : Params → W.BT := bt 11 ((lL Q a3v a3r).take 156)
def _root_.PySem.W.Fast.tw8164796320077660686 : Params → W.BT := Ttree_209 PySem.W.Fast.tw9136528746814694042
theorem _root_.PySem.W.Fast.te8164796320077660686 : Ttree_209 Ob.A167 = PySem.W.Fast.tw8164796320077660686 := (congrArg Ttree_209 PySem.W.Fast.te9136528746814694042)
lay_quick Ob.A210
def Ttree_288 (Q : F) : Params → W.BT := bt 11 ((lL Q a5n a3r).take 233)
def _root_.PySem.W.Fast.tw14077276917990367120 : Params → W.BT := Ttree_288 PySem.W.Fast.tw4607216799605739056
theorem _root_.PySem.W.Fast.te14077276917990367120 : Ttree_288 Ob.A210 = PySem.W.Fast.tw14077276917990367120 := (congrArg Ttree_288 PySem.W.Fast.te4607216799605739056)
lay_quick Ob.A289
def Ttree_368 (Q : F) : Params → W.BT := bt 11 ((lL Q a7t a3r).take 311)
def _root_.PySem.W.Fast.tw536169666433163664 : Params → W.BT := Ttree_368 PySem.W.Fast.tw7496073707919494832
theorem _root_.PySem.W.Fast.te536169666433163664 : Ttree_368 Ob.A289 = PySem.W.Fast.tw536169666433163664 := (congrArg Ttree_368 PySem.W.Fast.te7496073707919494832)
lay_quick Ob.A369
def Ttree_443 (Q : F) : Params → W.BT := bt 11 ((lL Q a9y a3r).take 384)
def _root_.PySem.W.Fast.tw17347518032065020272 : Params → W.BT := Ttree_443 PySem.W.Fast.tw11532906241089852652
theorem _root_.PySem.W.Fast.te17347518032065020272 : Ttree_443 Ob.A369 = PySem.W.Fast.tw17347518032065020272 := (congrArg Ttree_443 PySem.W.Fast.te11532906241089852652)
lay_quick Ob.A444
def Ttree_521 (Q : F) : Params → W.BT := bt 11 ((lL Q ac2 a3r).take 460)
def _root_.PySem.W.Fast.tw17748053290833198697 : Params → W.BT := Ttree_521 PySem.W.Fast.tw7163032655466490834
theorem _root_.PySem.W.Fast.te17748053290833198697 : Ttree_521 Ob.A444 = PySem.W.Fast.tw17748053290833198697 := (congrArg Ttree_521 PySem.W.Fast.te7163032655466490834)
end
end Ob
namespace L2
open PySem PySem.Spec PyProof.Rows
abbrev Key:=Sum Int Str
def uD:Key→Value→Bool
 | .inl k,v=>Value.isInt k v
 | .inr x,v=>Value.isStrOf x v
def keyH (w:World):Key→Int
 | .inl k=>hashInt k
 | .inr x=>hashStr w x
theorem br:∀ {k:Key} {v:Value},uD k v=true→(∃ i t,k=Sum.inl i∧v=Value.int i t)∨(∃ x t,k=Sum.inr x∧v=Value.str x t)
 | .inl i,v,h=>by
  obtain ⟨t,e⟩:=Value.isInt_shape (k:=i) (v:=v) h
  exact .inl ⟨i,t,rfl,e⟩
 | .inr x,v,h=>by
  obtain ⟨t,e⟩:=Value.isStrOf_shape (x:=x) (v:=v) h
  exact .inr ⟨x,t,rfl,e⟩
theorem wn (a b:Int):decide ((Sum.inl a:Key)=Sum.inl b)=(a == b):=by
 by_cases e:a=b
 ·subst e; simp
 ·have h : ¬ (Sum.inl a:Key)=Sum.inl b:=fun q=>e (Sum.inl.inj q)
  rw [decide_eq_false h]
  exact (beq_eq_false_iff_ne.mpr e).symm
theorem vJ (a b:Str):decide ((Sum.inr a:Key)=Sum.inr b)=decide (a=b):=by
 by_cases e:a=b
 ·subst e; simp
 ·have h : ¬ (Sum.inr a:Key)=Sum.inr b:=fun q=>e (Sum.inr.inj q)
  rw [decide_eq_false h,decide_eq_false e]
theorem vQ (a:Int) (b:Str):decide ((Sum.inl a:Key)=Sum.inr b)=false:=decide_eq_false (fun q=>nomatch q)
theorem wk (a:Str) (b:Int):decide ((Sum.inr a:Key)=Sum.inl b)=false:=decide_eq_false (fun q=>nomatch q)
def mW (prog:Program) (w:World):PySem.KeyKind prog w Key where
 is:=uD
 hash:=keyH w
 inj:=fun v a b ha hb=>by
  rcases br ha with ⟨i,t,rfl,rfl⟩ | ⟨x,t,rfl,rfl⟩
  ·rcases br hb with ⟨j,u,rfl,e⟩ | ⟨y,u,rfl,e⟩
   ·injection e with e1 _; rw [e1]
   ·exact nomatch e
  ·rcases br hb with ⟨j,u,rfl,e⟩ | ⟨y,u,rfl,e⟩
   ·exact nomatch e
   ·injection e with e1 _; rw [e1]
 byValue:=fun k v h=>by
  rcases br h with ⟨i,t,rfl,rfl⟩ | ⟨x,t,rfl,rfl⟩ <;> rfl
 pyHash:=fun hv h=>by
  rcases br hv with ⟨i,t,rfl,rfl⟩ | ⟨x,t,rfl,rfl⟩
  ·exact wpAny_pyHash_int h
  ·exact wpAny_pyHash_str h
 eqBool:=fun hu hv h=>by
  rcases br hu with ⟨i,t,rfl,rfl⟩ | ⟨x,t,rfl,rfl⟩
  ·rcases br hv with ⟨j,u,rfl,rfl⟩ | ⟨y,u,rfl,rfl⟩
   ·rw [wn] at h; exact wpAny_eqBool_int h
   ·rw [vQ] at h; exact SeqAt.EqAt.int_str i t y u _ _ _ _ h
  ·rcases br hv with ⟨j,u,rfl,rfl⟩ | ⟨y,u,rfl,rfl⟩
   ·rw [wk] at h; exact SeqAt.EqAt.str_int x t j u _ _ _ _ h
   ·rw [vJ] at h; exact wpAny_eqBool_str h
 «strs»:=fun k x t v h=>by
  rcases br h with ⟨i,u,rfl,e⟩ | ⟨y,u,rfl,e⟩
  ·exact nomatch e
  ·injection e with e1 _
   subst e1
   cases v <;> rfl
inductive V where
 | non | bl (b:Bool) | int (i:Int) | str (x:Str) | byt (b:Array UInt8) | flt (b:UInt64) | ref (a:Addr) | ty (n:String)
 deriving DecidableEq
def a_:V→Value→Prop
 | .non,u=>u=Value.none
 | .bl b,u=>u=Value.bool b
 | .int i,u=>∃ t,u=Value.int i t
 | .str x,u=>∃ t,u=Value.str x t
 | .byt b,u=>∃ t,u=Value.bytes b t
 | .flt b,u=>∃ t,u=Value.float b t
 | .ref a,u=>u=Value.ref a
 | .ty n,u=>u=Value.type n
abbrev aV:List V→List Value→Prop:=Paired a_
theorem aV.length {xs:List V} {us:List Value} (r:aV xs us):xs.length=us.length:=Paired.length r
theorem aV.get:∀ {xs:List V} {us:List Value} {i:Nat} {x:V},aV xs us→xs[i]? = some x→∃ u,us[i]? = some u∧a_ x u
 | _,_,_,_,.nil,e=>by simp at e
 | _,_,0,_,.cons r _,e=>by simp at e; subst e; exact ⟨_,rfl,r⟩
 | _,_,i + 1,x,.cons _ t,e=>by
  obtain ⟨u,h1,h2⟩:=aV.get (i:=i) (x:=x) t (by simpa using e)
  exact ⟨u,by simpa using h1,h2⟩
theorem aV.set {x:V} {u:Value} (r:a_ x u):∀ {xs:List V} {us:List Value} (i:Nat),aV xs us→aV (xs.set i x) (us.set i u)
 | _,_,_,.nil=>.nil
 | _,_,0,.cons _ t=>.cons r t
 | _,_,i + 1,.cons q t=>.cons q (aV.set r i t)
theorem aV.append:∀ {xs ys:List V} {us ws:List Value},aV xs us→aV ys ws→aV (xs++ys) (us++ws)
 | _,_,_,_,.nil,s=>s
 | _,_,_,_,.cons r t,s=>.cons r (aV.append t s)
theorem aV.take:∀ {xs:List V} {us:List Value} (n:Nat),aV xs us→aV (xs.take n) (us.take n)
 | _,_,0,_=>.nil
 | _,_,_ + 1,.nil=>.nil
 | _,_,n + 1,.cons r t=>.cons r (aV.take n t)
theorem aV.drop:∀ {xs:List V} {us:List Value} (n:Nat),aV xs us→aV (xs.drop n) (us.drop n)
 | _,_,0,r=>r
 | _,_,_ + 1,.nil=>.nil
 | _,_,n + 1,.cons _ t=>aV.drop n t
def ou:Option V→Option Value→Prop
 | some v,some u=>a_ v u
 | none,none=>True
 | _,_=>False
def KV {κ:Type}:List (κ×V)→List (κ×Value)→Prop:=Paired fun (p : κ×V) (q : κ×Value)=>p.1=q.1∧a_ p.2 q.2
def kV:Key→V
 | .inl i=>.int i
 | .inr x=>.str x
inductive HO where

 | lst (xs:List V)

 | tup (xs:List V)

 | dK (kvs:List (Key×V)) | dT (kvs:List (List Key×V))

 | set (S:Int→Bool) (n:Nat)

 | ins (C dx:Addr) (fs:List (Str×V))

 | own (x:Addr)

 | xd (fs:List (Str×V))

 | met (f x:Addr)

 | rng (lo hi:Int)

 | frz (o:Obj) (u:HO)

 | tbl (ps:Array Value) (q:Str)

 | ext (φ:Heap→Prop)
abbrev Hp:=Addr→Option HO
def upd (H:Hp) (a:Addr) (o:HO):Hp:=fun b=>if b=a then some o else H b
theorem av {H:Hp} {a:Addr} {o:HO}:upd H a o a=some o:=by unfold upd; rw [if_pos rfl]
theorem aq {H:Hp} {a b:Addr} {o:HO} (h:b≠a):upd H a o b=H b:=by unfold upd; rw [if_neg h]
theorem gx {H:Hp} {a:Addr} {o u:HO}:upd (upd H a o) a u=upd H a u:=by
 funext b; unfold upd; split <;> rfl
theorem aD {H:Hp} {a b:Addr} {o:HO} (h:H a=some o) (h':H b=none):a≠b:=by
 intro e; subst e; rw [h] at h'; cases h'
def TbV (H:Hp) (ps:Array Value) (q:Str):Prop:=TriplesOk ps.toList∧∀ pos cv,codeAmong pos ps.toList=some cv→∃ c o vs t,cv = .ref c∧H c=some (.frz o (.own 0))∧o.data = .fields vs∧vs[1]? = some (.str q t)
theorem TbV.mono {H H':Hp} {ps:Array Value} {q:Str} (h:TbV H ps q) (hf:∀ b o u,H b=some (.frz o u)→H' b=some (.frz o u)):TbV H' ps q:=⟨h.1,fun pos cv e=>let ⟨c,o,vs,t,a,b,r⟩:=h.2 pos cv e; ⟨c,o,vs,t,a,hf _ _ _ b,r⟩⟩
section
variable (P:Program) (w:World)
def a5 (H:Hp) (h:Heap) (a:Addr):HO→Prop
 | .lst xs=>xs.length≤sizeLine∧∃ (its:List Value) (n:Nat),aV xs its∧h.get? a=some { cls:=.type "list",data:=.seq its.toArray n }
 | .tup xs=>xs.length≤sizeLine∧∃ its:List Value,aV xs its∧IsTup h a its.toArray
 | .dK kvs=>kvs.length≤sizeLine∧(a == sysModules)=false∧∃ vs,KV kvs vs∧h.DictOf (mW P w) a vs
 | .dT kvs=>kvs.length≤sizeLine∧(a == sysModules)=false∧∃ xs:List (List Key×Addr×Value),
  Paired (fun (p:List Key×V) (q:List Key×Addr×Value)=>p.1=q.1∧H q.2.1=some (.tup (p.1.map kV))∧a_ p.2 q.2.2) kvs xs ∧
  ∃ o es ep,h.get? a=some o∧o.ExactDict∧o.data = .dict es ep∧es.toList=xs.map (entryOfKey (tupleKind (mW P w)))∧(xs.map (·.1)).Nodup
 | .set S n=>h.SetOf (intKind P w) a S n
 | .ins C dx fs=>H dx=some (.own a)∧fs.length≤1000∧dx≠a∧h.get? a=some (PySem.W.instObj C dx) ∧
  ∃ mA,h.Ns1 dx mA∧(∀ f,ou (fs.lookup f) (mA f))∧PySem.Within mA (fs.map (·.1))
 | .own _=>∃ o,h.get? a=some o
 | .xd fs=>∃ mA,h.Ns1 a mA∧∀ f,ou (fs.lookup f) (mA f)
 | .rng lo hi=>∃ t u v,h.get? a=some { cls:=.type "range",data:=.fields #[.int lo t,.int hi u,.int 1 v] }
 | .frz o u=>h.get? a=some o∧a5 H h a u
 | .tbl ps q=>h.get? a=some { cls:=.none,data:=.fields ps }∧TbV H ps q
 | .met f x=>h.get? a=some (PySem.W.methodObj (.ref f) (.ref x))
 | .ext φ=>φ h∧(∃ o,h.get? a=some o)∧∀ h1 h2:Heap,φ h1→(∀ o,h1.get? a=some o→h2.get? a=some o)→φ h2
def HOk (H:Hp) (h:Heap):Prop:=∀ a o,H a=some o→a5 P w H h a o
end
section
variable {P:Program} {w:World} {H H':Hp} {h h':Heap} {a:Addr} {o:HO}
theorem a5.lt (x:a5 P w H h a o):a<h.objs.size:=by
 cases o with
 | lst xs=>obtain ⟨_,_,_,_,e⟩:=x; exact Heap.lt_size e
 | tup xs=>obtain ⟨_,_,_,p⟩:=x; exact p.lt
 | dK kvs=>obtain ⟨_,_,_,_,o,_,_,e,_⟩:=x; exact Heap.lt_size e
 | dT kvs=>obtain ⟨_,_,_,_,o,_,_,e,_⟩:=x; exact Heap.lt_size e
 | set S n=>obtain ⟨o,_,_,_,e,_⟩:=x; exact Heap.lt_size e
 | ins C dx fs=>obtain ⟨_,_,_,e,_⟩:=x; exact Heap.lt_size e
 | own y=>obtain ⟨_,e⟩:=x; exact Heap.lt_size e
 | xd fs=>obtain ⟨_,⟨_,_,_,e,_⟩,_⟩:=x; exact Heap.lt_size e
 | rng lo hi=>obtain ⟨_,_,_,e⟩:=x; exact Heap.lt_size e
 | frz ob u=>obtain ⟨e,_⟩:=x; exact Heap.lt_size e
 | tbl ps q=>obtain ⟨e,_⟩:=x; exact Heap.lt_size e
 | met f y=>exact Heap.lt_size (show h.get? a=some _ from x)
 | ext φ=>obtain ⟨_,⟨_,e⟩,_⟩:=x; exact Heap.lt_size e
theorem Paired.mapP {α β:Type} {F G : α→β→Prop}:∀ {l₁:List α} {l₂:List β},Paired F l₁ l₂→(∀ a b,F a b→G a b)→Paired G l₁ l₂
 | _,_,.nil,_=>.nil
 | _,_,.cons r t,f=>.cons (f _ _ r) (Paired.mapP t f)
theorem a5.stay (x:a5 P w H h a o) (k:∀ b u,(b=a∨H b=some (.own a))→h.get? b=some u→h'.get? b=some u)
 (ho:∀ b,H b=some (.own a)→H' b=some (.own a)) (ht:∀ b xs,H b=some (.tup xs)→H' b=some (.tup xs)) (hf:∀ b o u,H b=some (.frz o u)→H' b=some (.frz o u)):a5 P w H' h' a o:=by
 induction o with
 | lst xs=>obtain ⟨z,its,n,r,e⟩:=x; exact ⟨z,its,n,r,k _ _ (.inl rfl) e⟩
 | tup xs=>obtain ⟨z,its,r,ob,e,c⟩:=x; exact ⟨z,its,r,ob,k _ _ (.inl rfl) e,c⟩
 | dK kvs=>obtain ⟨z,y,vs,r,ob,es,ep,e,c⟩:=x; exact ⟨z,y,vs,r,ob,es,ep,k _ _ (.inl rfl) e,c⟩
 | dT kvs =>
  obtain ⟨z,y,xs,r,ob,es,ep,e,c⟩:=x
  exact ⟨z,y,xs,Paired.mapP r fun p q z=>⟨z.1,ht _ _ z.2.1,z.2.2⟩,ob,es,ep,k _ _ (.inl rfl) e,c⟩
 | set S n=>obtain ⟨ob,es,ep,t,e,c⟩:=x; exact ⟨ob,es,ep,t,k _ _ (.inl rfl) e,c⟩
 | ins C dx fs =>
  obtain ⟨d,z,ne,e,mA,⟨od,es,ep,e2,c⟩,r⟩:=x
  exact ⟨ho _ d,z,ne,k _ _ (.inl rfl) e,mA,⟨od,es,ep,k _ _ (.inr d) e2,c⟩,r⟩
 | own y=>obtain ⟨ob,e⟩:=x; exact ⟨ob,k _ _ (.inl rfl) e⟩
 | xd fs=>obtain ⟨mA,⟨od,es,ep,e,c⟩,r⟩:=x; exact ⟨mA,⟨od,es,ep,k _ _ (.inl rfl) e,c⟩,r⟩
 | rng lo hi=>obtain ⟨t,u,v,e⟩:=x; exact ⟨t,u,v,k _ _ (.inl rfl) e⟩
 | frz ob u ih=>obtain ⟨e,q⟩:=x; exact ⟨k _ _ (.inl rfl) e,ih q⟩
 | tbl ps q=>obtain ⟨e,v⟩:=x; exact ⟨k a _ (.inl rfl) e,v.mono hf⟩
 | met f y =>
  have e:h.get? a=some (PySem.W.methodObj (.ref f) (.ref y)):=x
  show h'.get? a=some (PySem.W.methodObj (.ref f) (.ref y))
  exact k a _ (.inl rfl) e
 | ext φ=>obtain ⟨p,⟨o,e⟩,st⟩:=x; exact ⟨st _ _ p fun o q=>k _ _ (.inl rfl) q,⟨o,k _ _ (.inl rfl) e⟩,st⟩
theorem HOk.lt (x:HOk P w H h) (e:H a=some o):a<h.objs.size:=(x a o e).lt
theorem HOk.fresh (x:HOk P w H h) (e:h.objs.size≤a):H a=none:=by
 cases q:H a with
 | none=>rfl
 | some u=>exact absurd (Nat.lt_of_lt_of_le (x.lt q) e) (Nat.lt_irrefl _)
theorem HOk.kept (x:HOk P w H h) (k:∀ b u,h.get? b=some u→h'.get? b=some u):HOk P w H h':=fun a o e =>
 (x a o e).stay (fun b u _ q=>k b u q) (fun _ q=>q) (fun _ _ q=>q) fun _ _ _ q=>q
theorem HOk.laid (x:HOk P w H h) (k:∀ b u,h.get? b=some u→h'.get? b=some u) (hp:h.objs.size≤a) (new:a5 P w (upd H a o) h' a o):HOk P w (upd H a o) h':=fun b u e=>by
 have hn:=x.fresh hp
 by_cases hb:b=a
 ·subst hb; rw [av] at e; cases e; exact new
 ·rw [aq hb] at e
  exact (x b u e).stay (fun c v _ q=>k c v q) (fun c q=>by rw [aq (aD q hn)]; exact q) (fun c xs q=>by rw [aq (aD q hn)]; exact q) fun c ob u q=>by rw [aq (aD q hn)]; exact q
end
def Rd (H:Hp) (a:Addr) (u:HO):Prop:=H a=some u∨∃ o,H a=some (.frz o u)
theorem Rd.ok {P:Program} {w:World} {H:Hp} {h:Heap} {a:Addr} {u:HO} (r:Rd H a u) (x:HOk P w H h):a5 P w H h a u:=by
 rcases r with r | ⟨o,r⟩
 ·exact x a u r
 ·obtain ⟨_,q⟩:=x a _ r
  exact q
def Mut:Option HO→Prop
 | some (.lst _)=>True
 | some (.dK _)=>True
 | some (.dT _)=>True
 | some (.set _ _)=>True
 | some (.ins _ _ _)=>True
 | some (.ext _)=>True
 | _=>False
section
variable {P:Program} {w:World} {H:Hp} {h h':Heap} {x e:Addr} {o':HO}
theorem HOk.write (ok:HOk P w H h) (mu:Mut (H x)) (he:e=x∨H e=some (.own x)) (k:∀ b u,b≠e→h.get? b=some u→h'.get? b=some u) (heo:∃ u,h'.get? e=some u)
 (new:a5 P w (upd H x o') h' x o'):HOk P w (upd H x o') h':=fun b u q=>by
 have nown:∀ c y,H c=some (.own y)→c≠x:=fun c y r z=>by subst z; rw [r] at mu; exact mu
 have ntup:∀ c xs,H c=some (.tup xs)→c≠x:=fun c xs r z=>by subst z; rw [r] at mu; exact mu
 have nfrz:∀ c ob u,H c=some (.frz ob u)→c≠x:=fun c ob u r z=>by subst z; rw [r] at mu; exact mu
 by_cases hb:b=x
 ·subst hb; rw [av] at q; cases q; exact new
 ·rw [aq hb] at q
  by_cases hbe:b=e
  ·have q':H b=some (.own x):=by
    rcases he with z | z
    ·exact absurd (hbe.trans z) hb
    ·rw [hbe]; exact z
   rw [q] at q'; cases q'
   obtain ⟨v,hv⟩:=heo
   exact ⟨v,by rw [hbe]; exact hv⟩
  ·refine (ok b u q).stay (fun c v hc r=>k c v ?_ r) (fun c r=>by rw [aq (nown c b r)]; exact r) (fun c xs r=>by rw [aq (ntup c xs r)]; exact r) fun c ob u r=>by rw [aq (nfrz c ob u r)]; exact r
   rcases hc with rfl | hc
   ·exact hbe
   ·rintro rfl
    rcases he with z | z
    ·exact nown c b hc z
    ·rw [hc] at z; cases z; exact hb rfl
end
structure Un (fs ex:List Addr) (H H':Hp) (h h':Heap):Prop where
 keep:∀ b o,h.get? b=some o→H b=none→b ∉ fs→b ∉ ex→h'.get? b=some o
 slot:∀ b o,h.get? b=some o→H b=none→b∈fs→b ∉ ex→∃ sl,h'.get? b=some { o with slots:=sl }
 free:∀ b o,h.get? b=some o→H b=none→b ∉ ex→H' b=none
 there:∀ b o,h.get? b=some o→b ∉ ex→∃ o',h'.get? b=some o'
 tups:∀ b xs,H b=some (.tup xs)→H' b=some (.tup xs)
 frzs:∀ b o u,H b=some (.frz o u)→H' b=some (.frz o u)
 tbls:∀ b ps q,H b=some (.tbl ps q)→∃ more,H' b=some (.tbl (ps++more) q)
section
variable {fs fs' ex ex':List Addr} {H H1 H2:Hp} {h h1 h2 h':Heap} {a x e:Addr} {o:HO}
theorem Un.any (u:Un fs ex H H1 h h1) {b:Addr} {ob:Obj} (q:h.get? b=some ob) (n:H b=none) (hx:b ∉ ex):∃ sl,h1.get? b=some { ob with slots:=sl }:=by
 by_cases hb:b∈fs
 ·exact u.slot b ob q n hb hx
 ·exact ⟨ob.slots,u.keep b ob q n hb hx⟩
theorem Un.kept (k:∀ b u,h.get? b=some u→h'.get? b=some u):Un fs ex H H h h' :=
 ⟨fun b ob q _ _ _=>k b ob q,fun b ob q _ _ _=>⟨ob.slots,k b ob q⟩,fun _ _ _ n _=>n,fun b ob q _=>⟨ob,k b ob q⟩,fun _ _ q=>q,fun _ _ _ q=>q,fun _ ps _ q=>⟨#[],by rw [q]; simp⟩⟩
theorem Un.refl:Un fs ex H H h h:=Un.kept fun _ _ q=>q
theorem Un.laid (k:∀ b u,h.get? b=some u→h'.get? b=some u) (hp:h.objs.size≤a) (hn:H a=none):Un fs ex H (upd H a o) h h' where
 keep:=fun b u q _ _ _=>k b u q
 slot:=fun b u q _ _ _=>⟨u.slots,k b u q⟩
 free:=fun b u q n _=>by rw [aq (Nat.ne_of_lt (Nat.lt_of_lt_of_le (Heap.lt_size q) hp))]; exact n
 there:=fun b u q _=>⟨u,k b u q⟩
 tups:=fun b xs q=>by rw [aq (aD q hn)]; exact q
 frzs:=fun b u xs q=>by rw [aq (aD q hn)]; exact q
 tbls:=fun b ps _ q=>⟨#[],by rw [aq (aD q hn),q]; simp⟩
theorem Un.write (mu:Mut (H x)) (he:e=x∨H e=some (.own x)) (k:∀ b u,b≠e→h.get? b=some u→h'.get? b=some u) (heo:∃ u,h'.get? e=some u):Un fs ex H (upd H x o) h h':=by
 have hx:∀ b,H b=none→b≠x:=fun b n z=>by subst z; rw [n] at mu; exact mu
 have hb:∀ b,H b=none→b≠e:=fun b n z=>by
  subst z
  rcases he with r | r
  ·exact hx b n r
  ·rw [n] at r; cases r
 have hm:∀ b u,H b=some u→¬ Mut (some u)→b≠x:=fun b u q nm z=>by subst z; rw [q] at mu; exact nm mu
 refine ⟨fun b u q n _ _=>k b u (hb b n) q,fun b u q n _ _=>⟨u.slots,k b u (hb b n) q⟩,fun b u q n _=>by rw [aq (hx b n)]; exact n,fun b u q _=>?_,
  fun b xs q=>by rw [aq (hm b _ q fun z=>z)]; exact q,fun b u xs q=>by rw [aq (hm b _ q fun z=>z)]; exact q,fun b ps _ q=>⟨#[],by rw [aq (hm b _ q fun z=>z),q]; simp⟩⟩
 by_cases hbe:b=e
 ·subst hbe; exact heo
 ·exact ⟨u,k b u hbe q⟩
theorem Un.mono (u:Un fs ex H H1 h h1) (hs:∀ b∈fs,b∈fs') (hx:∀ b∈ex,b∈ex'):Un fs' ex' H H1 h h1 :=
 ⟨fun b ob q n hb he=>u.keep b ob q n (fun z=>hb (hs b z)) fun z=>he (hx b z),fun _ _ q n _ he=>u.any q n fun z=>he (hx _ z),fun b ob q n he=>u.free b ob q n fun z=>he (hx b z),fun b ob q he=>u.there b ob q fun z=>he (hx b z),u.tups,u.frzs,u.tbls⟩
end
def gone (v:Value):Obj:=⟨v,none,.freed,#[]⟩
def lu (h:Heap) (H:Hp) (i:Addr):Obj:=match H i with
 | some (.tbl _ q)=>gone (.str q 0)
 | some _=>gone .none
 | none=>match h.get? i with
  | some o=>o
  | none=>gone .none
def dZ (h:Heap) (H:Hp):Heap:=⟨Array.ofFn (n:=h.objs.size) fun i=>lu h H i,h.life⟩
theorem fk (h:Heap) (H:Hp):(dZ h H).objs.size=h.objs.size:=by simp [dZ]
theorem li {h:Heap} {H:Hp} {b:Addr} {o:Obj} (e:(dZ h H).objs[b]? = some o):b<h.objs.size∧o=lu h H b:=by
 obtain ⟨hb,e⟩:=Array.getElem?_eq_some_iff.mp e
 rw [fk] at hb
 refine ⟨hb,?_⟩
 rw [← e]; simp [dZ]
theorem nofree {h:Heap} {b:Addr} {o:Obj} (e:h.get? b=some o):h.objs[b]? = some o∧o.data≠.freed:=by
 unfold Heap.get? at e
 split at e
 ·cases e
 ·rename_i hn
  refine ⟨e,fun z=>?_⟩
  obtain ⟨c,d,da,sl⟩:=o
  have z:da = .freed:=z
  subst z
  exact hn c d sl e
theorem tQ {h:Heap} {b:Addr} {o:Obj} (e:h.objs[b]? = some o) (n:o.data≠.freed):h.get? b=some o:=by
 unfold Heap.get?
 split
 ·rename_i c d sl e'
  rw [e] at e'; cases e'
  exact absurd rfl n
 ·exact e
theorem pF {h:Heap} {H:Hp} {b:Addr} {o:Obj} (e:h.get? b=some o) (n:H b=none):(dZ h H).get? b=some o:=by
 have hb:b<(dZ h H).objs.size:=by rw [fk]; exact Heap.lt_size e
 refine tQ ?_ (nofree e).2
 rw [Array.getElem?_eq_getElem hb]
 have:(dZ h H).objs[b]=lu h H b:=by simp [dZ]
 rw [this]; unfold lu; rw [n,e]
theorem tW {h:Heap} {H:Hp} {b:Addr} {o:Obj} (e:(dZ h H).get? b=some o):h.get? b=some o∧H b=none:=by
 obtain ⟨e1,nf⟩:=nofree e
 obtain ⟨_,e2⟩:=li e1
 unfold lu at e2
 split at e2
 ·rw [e2] at nf; exact absurd rfl nf
 ·rw [e2] at nf; exact absurd rfl nf
 ·rename_i hn
  split at e2
  ·rename_i o' e3
   exact ⟨e3.trans (by rw [e2]),hn⟩
  ·rw [e2] at nf; exact absurd rfl nf
def TMk (base:Heap) (P:Addr) (q:Str):Prop:=base.objs[P]? = some (gone (.str q 0))
def TbM (base:Heap) (H:Hp):Prop:=∀ P q,TMk base P q→∃ ps,H P=some (.tbl ps q)
theorem TbM.un {base h h':Heap} {H H':Hp} {fs ex:List Addr} (x:TbM base H) (u:Un fs ex H H' h h'):TbM base H':=fun P q m=>let ⟨ps,z⟩:=x P q m; let ⟨more,y⟩:=u.tbls P ps q z; ⟨_,y⟩
theorem TbM.hid {h:Heap} {H:Hp}:TbM (dZ h H) H:=fun P q m=>by
 obtain ⟨_,e⟩:=li m
 unfold lu at e
 split at e
 ·rename_i ps q' hq
  have e:gone (.str q 0)=gone (.str q' 0):=e
  cases e; exact ⟨ps,hq⟩
 ·cases e
 ·split at e
  ·rename_i o e3
   have:=(nofree e3).2
   rw [← e] at this; exact absurd rfl this
  ·cases e
theorem TMk.hid {h:Heap} {H:Hp} {P:Addr} {ps:Array Value} {q:Str} (hP:P<h.objs.size) (e:H P=some (.tbl ps q)):TMk (dZ h H) P q:=by
 have hb:P<(dZ h H).objs.size:=by rw [fk]; exact hP
 unfold TMk
 rw [Array.getElem?_eq_getElem hb]
 have:(dZ h H).objs[P]=lu h H P:=by simp [dZ]
 rw [this]; unfold lu; rw [e]
structure Mod (K:PySem.W.Frag) (mg:Str→Option Value) (base:Heap):Prop where
 kin:K.In base
 glob:base.Ns mainGlobals mg
 blt:∃ mb,base.Ns builtinsNs mb∧∀ x:Str,x ≠ "__name__" → mb x=bootBuiltins x
 nolimit:base.NoLimit
structure Cx where
 prog:Program
 w:World
 K:PySem.W.Frag
 mg:Str→Option Value
 base:Heap
 A:Around
 N:List Str
 s₀:Shared
 H₀:Hp
 env:Env
 outer:List Env
 stack:List Env
 ex:List Addr
 fn:Str→Bool
 calm:Bool
 pn:List (Addr×Obj)
 xe:Value→Shared→Prop
def frs (l:List Env):List Addr:=l.filterMap (·.frame)
abbrev Cx.fs (X:Cx):List Addr:=frs X.outer
def Vis (sc:Scope) (x:Str):Prop:=sc.names.lookup x=some .local∨sc.names.lookup x=some .cell∨sc.names.lookup x=some .free
def Loc (sc:Scope) (x:Str):Prop:=sc.names.lookup x=some .local∨sc.names.lookup x=some .cell
def Look (env:Env) (h:Heap) (m:Str→Option Value) (x:Str) (u:Value):Prop :=
 (env.kindOf x=some .local∧m x=some u)∨((env.kindOf x=some .cell∨env.kindOf x=some .free)∧∃ c,env.cells.lookup x=some c∧h.IsCell c (some u))
structure Cx.Ok (X:Cx):Prop where
 mod:Mod X.K X.mg X.base
 kind:X.env.scope.kind = .function
 glob:X.env.globals=mainGlobals
 blt:X.env.builtins=builtinsNs
 above:X.s₀.heap.objs.size≤X.env.locals
 inj:∀ x y c,X.env.cells.lookup x=some c→X.env.cells.lookup y=some c→x=y
 has:∀ x,(X.env.kindOf x=some .cell∨X.env.kindOf x=some .free)→∃ c,X.env.cells.lookup x=some c
 cab:∀ x c,X.fn x=true→X.env.cells.lookup x=some c→X.s₀.heap.objs.size≤c
 hd:X.calm=true→X.A.handled=none
 frames:X.A.frames=some X.stack
 stk:X.stack=X.outer∨(X.stack=X.env :: X.outer∧X.env.frame=some X.env.locals)
 exf:∀ b∈X.ex,b≠X.env.locals∧∀ x c,X.env.cells.lookup x=some c→c≠b
 bs:∀ b o,X.base.get? b=some o→X.s₀.heap.get? b=some o∧X.H₀ b=none
 bsz:X.base.objs.size≤X.s₀.heap.objs.size
 noex:∀ b o,X.base.get? b=some o→b ∉ X.ex
 exfs:∀ b∈X.ex,b ∉ X.fs
 funs:X.s₀.heap.FunFrames X.base X.outer
 frf:∀ b∈X.fs,X.H₀ b=none
 tb:TbM X.base X.H₀
structure Inv (X:Cx) (pins:List (Addr×Obj)) (σ:List (Option V)) (H:Hp) (s:Shared):Prop where
 ok:X.Ok
 os:s.os=X.s₀.os
 bare:AllBare s.gens
 base:Un X.fs X.ex X.H₀ H X.s₀.heap s.heap
 loc:∃ m,s.heap.Ns X.env.locals m∧∀ (i:Nat) (x:Str) (v:V),X.N[i]? = some x→σ[i]? = some (some v)→Vis X.env.scope x→∃ u,a_ v u∧Look X.env s.heap m x u
 cell:∀ x c,X.env.cells.lookup x=some c→∃ v,s.heap.IsCell c v
 free:H X.env.locals=none
 freeC:∀ x c,X.env.cells.lookup x=some c→H c=none
 pin:∀ p∈X.pn++pins,s.heap.get? p.1=some p.2∧H p.1=none∧p.1≠X.env.locals∧p.1 ∉ X.fs∧∀ v,p.2.data≠.cell v
 hok:HOk X.prog X.w H s.heap
 len : σ.length=X.N.length
section
variable {X:Cx} {pins:List (Addr×Obj)} {σ:List (Option V)} {H H':Hp} {s:Shared} {h':Heap}
theorem Cx.Ok.nofr (ok:X.Ok) {b:Addr} {o:Obj} (e:X.base.get? b=some o):b ∉ X.fs:=fun hb=>by
 have:=(ok.funs.mem hb).1
 rw [e] at this; cases this
theorem Inv.bs (I:Inv X pins σ H s):∀ b o,X.base.get? b=some o→s.heap.get? b=some o∧H b=none:=fun b o e =>
 ⟨I.base.keep b o (I.ok.bs b o e).1 (I.ok.bs b o e).2 (I.ok.nofr e) (I.ok.noex b o e),I.base.free b o (I.ok.bs b o e).1 (I.ok.bs b o e).2 (I.ok.noex b o e)⟩
theorem Inv.bk (I:Inv X pins σ H s):∀ b o,X.base.get? b=some o→s.heap.get? b=some o:=fun b o e=>(I.bs b o e).1
theorem Inv.mod (I:Inv X pins σ H s):Mod X.K X.mg X.base:=I.ok.mod
theorem Inv.kIn (I:Inv X pins σ H s):X.K.In s.heap:=I.ok.mod.kin.keeps I.bk
theorem Inv.fr (I:Inv X pins σ H s):∃ m,Fr X.base X.env.locals s.heap m :=
 let ⟨m,hn,_⟩:=I.loc
 ⟨m,hn,I.bk,Nat.le_trans I.ok.bsz I.ok.above⟩
theorem Inv.lt (I:Inv X pins σ H s):X.env.locals<s.heap.objs.size:=let ⟨_,hn,_⟩:=I.loc; hn.lt
theorem Inv.sz (I:Inv X pins σ H s):X.s₀.heap.objs.size≤s.heap.objs.size:=Nat.le_trans I.ok.above (Nat.le_of_lt I.lt)
theorem Inv.nofs (I:Inv X pins σ H s) {a:Addr} (h:s.heap.objs.size≤a):a ∉ X.fs:=fun hb=>by
 obtain ⟨_,o,ho,_⟩:=I.ok.funs.mem hb
 exact absurd (Nat.lt_of_lt_of_le (Heap.lt_size ho) (Nat.le_trans I.sz h)) (Nat.lt_irrefl _)
theorem Inv.cne (I:Inv X pins σ H s):∀ x c,X.env.cells.lookup x=some c→c≠X.env.locals:=fun x c e z=>by
 obtain ⟨v,o,ho,hd⟩:=I.cell x c e
 obtain ⟨m,⟨o',es,ep,ho',hd',_⟩,_⟩:=I.loc
 rw [z,ho'] at ho; cases ho; rw [hd'] at hd; cases hd
theorem Inv.funs (I:Inv X pins σ H s):s.heap.FunFrames X.base X.outer:=by
 have all:∀ (l:List Env),(∀ b∈frs l,b∈X.fs)→X.s₀.heap.FunFrames X.base l→s.heap.FunFrames X.base l:=by
  intro l
  induction l with
  | nil=>intro _ _; trivial
  | cons env r ih =>
   intro hs hl
   obtain ⟨hk,⟨L,o,hf,hn,ho,hd⟩,hr⟩:=hl
   have hL:L∈X.fs:=hs L (by unfold frs; rw [List.filterMap_cons,hf]; exact List.mem_cons_self)
   obtain ⟨sl,e⟩:=I.base.slot L o ho (I.ok.frf L hL) hL fun z=>I.ok.exfs L z hL
   exact ⟨hk,⟨L,_,hf,hn,e,hd⟩,ih (fun b hb=>hs b (by unfold frs; rw [List.filterMap_cons,hf]; exact List.mem_cons_of_mem _ hb)) hr⟩
 exact all X.outer (fun _ hb=>hb) I.ok.funs
theorem Inv.stack (I:Inv X pins σ H s):s.heap.FunFrames X.base X.stack:=by
 rcases I.ok.stk with e | ⟨e,hf⟩
 ·rw [e]; exact I.funs
 ·rw [e]
  obtain ⟨m,hn,_⟩:=I.loc
  refine .cons (by rw [I.ok.kind]; decide) hf hn ?_ I.funs
  exact Heap.get?_none_of_le (Nat.le_trans I.ok.bsz I.ok.above)
theorem Inv.stkSub (I:Inv X pins σ H s):∀ b∈frs X.stack,b∈X.env.locals :: X.fs:=fun b hb=>by
 rcases I.ok.stk with e | ⟨e,hf⟩
 ·rw [e] at hb; exact List.mem_cons_of_mem _ hb
 ·rw [e] at hb
  unfold frs at hb
  rw [List.filterMap_cons,hf] at hb
  exact hb
theorem Inv.stkFree (I:Inv X pins σ H s):∀ b∈frs X.stack,H b=none:=fun b hb=>by
 rcases List.mem_cons.mp (I.stkSub b hb) with e | hb
 ·rw [e]; exact I.free
 ·obtain ⟨_,o,ho,_⟩:=I.ok.funs.mem hb
  exact I.base.free b o ho (I.ok.frf b hb) fun z=>I.ok.exfs b z hb
theorem Inv.step {g':Array GenState} {t':Nat} {d':Drawn} {ch:List Addr} (I:Inv X pins σ H s)
 (hch:∀ b∈ch,(b∈X.ex∨X.s₀.heap.objs.size≤b)∧b≠X.env.locals∧(∀ x c,X.env.cells.lookup x=some c→c≠b)∧∀ p∈X.pn++pins,p.1≠b)
 (keep:∀ b o,b≠X.env.locals→b ∉ X.fs→b ∉ ch→s.heap.get? b=some o→H b=none→h'.get? b=some o)
 (slot:∀ b o,b≠X.env.locals→b∈X.fs→b ∉ ch→s.heap.get? b=some o→H b=none→∃ sl,h'.get? b=some { o with slots:=sl }) (free:∀ b o,b ∉ ch→s.heap.get? b=some o→H b=none→H' b=none)
 (there:∀ b o,b ∉ ch→s.heap.get? b=some o→∃ o',h'.get? b=some o')
 (tups:∀ b xs,H b=some (.tup xs)→H' b=some (.tup xs)) (frzs:∀ b o u,H b=some (.frz o u)→H' b=some (.frz o u)) (tbls:∀ b ps q,H b=some (.tbl ps q)→∃ more,H' b=some (.tbl (ps++more) q))
 (ns:∀ m,s.heap.Ns X.env.locals m→h'.Ns X.env.locals m) (hok:HOk X.prog X.w H' h') (hg:AllBare g') :
 Inv X pins σ H' { s with heap:=h',gens:=g',drawn:=d',toks:=t' }:=by
 have neL:∀ b o,X.s₀.heap.get? b=some o→b≠X.env.locals:=fun b o e=>Nat.ne_of_lt (Nat.lt_of_lt_of_le (Heap.lt_size e) I.ok.above)
 have neC:∀ b o,X.s₀.heap.get? b=some o→b ∉ X.ex→b ∉ ch:=fun b o e hx hb=>by
  rcases (hch b hb).1 with z | z
  ·exact hx z
  ·exact absurd (Nat.lt_of_lt_of_le (Heap.lt_size e) z) (Nat.lt_irrefl _)
 have cellK:∀ x c,X.env.cells.lookup x=some c→∀ v,s.heap.IsCell c v→h'.IsCell c v:=fun x c e v ⟨o,ho,hd⟩=>by
  have nch:c ∉ ch:=fun z=>(hch c z).2.2.1 x c e rfl
  by_cases hc:c∈X.fs
  ·obtain ⟨sl,q⟩:=slot c o (I.cne x c e) hc nch ho (I.freeC x c e)
   exact ⟨_,q,hd⟩
  ·exact ⟨o,keep c o (I.cne x c e) hc nch ho (I.freeC x c e),hd⟩
 refine ⟨I.ok,I.os,hg,⟨fun b o e n hb hx=>?_,fun b o e n hb hx=>?_,fun b o e n hx=>?_,fun b o e hx=>?_,fun b xs e=>tups b xs (I.base.tups b xs e),fun b o xs e=>frzs b o xs (I.base.frzs b o xs e),fun b ps q e=>?_⟩,?_,fun x c e=>?_,?_,fun x c e=>?_,fun p hp=>?_,hok,I.len⟩
 ·exact keep b o (neL b o e) hb (neC b o e hx) (I.base.keep b o e n hb hx) (I.base.free b o e n hx)
 ·obtain ⟨sl,e1⟩:=I.base.slot b o e n hb hx
  obtain ⟨sl',e2⟩:=slot b _ (neL b o e) hb (neC b o e hx) e1 (I.base.free b o e n hx)
  exact ⟨sl',e2⟩
 ·obtain ⟨o',e1⟩:=I.base.there b o e hx
  exact free b o' (neC b o e hx) e1 (I.base.free b o e n hx)
 ·obtain ⟨o',e1⟩:=I.base.there b o e hx
  exact there b o' (neC b o e hx) e1
 ·obtain ⟨m1,e1⟩:=I.base.tbls b ps q e
  obtain ⟨m2,e2⟩:=tbls b _ q e1
  exact ⟨m1++m2,by rw [e2,Array.append_assoc]⟩
 ·obtain ⟨m,hn,hl⟩:=I.loc
  refine ⟨m,ns m hn,fun i x v e1 e2 e3=>?_⟩
  obtain ⟨u,r,l⟩:=hl i x v e1 e2 e3
  refine ⟨u,r,?_⟩
  rcases l with l | ⟨k,c,e,z⟩
  ·exact .inl l
  ·exact .inr ⟨k,c,e,cellK x c e _ z⟩
 ·obtain ⟨v,z⟩:=I.cell x c e
  exact ⟨v,cellK x c e v z⟩
 ·obtain ⟨m,⟨o,_,_,ho,_⟩,_⟩:=I.loc
  exact free _ o (fun z=>(hch _ z).2.1 rfl) ho I.free
 ·obtain ⟨v,o,ho,hd⟩:=I.cell x c e
  exact free c o (fun z=>(hch c z).2.2.1 x c e rfl) ho (I.freeC x c e)
 ·obtain ⟨e,n,ne,nf,d⟩:=I.pin p hp
  have nch:p.1 ∉ ch:=fun z=>(hch p.1 z).2.2.2 p hp rfl
  exact ⟨keep p.1 p.2 ne nf nch e n,free p.1 p.2 nch e n,ne,nf,d⟩
theorem Inv.un {t':Nat} (I:Inv X pins σ H s) (u:Un X.fs [] H H' s.heap h') (hok:HOk X.prog X.w H' h'):Inv X pins σ H' { s with heap:=h',toks:=t' }:=by
 obtain ⟨m,⟨o,es,ep,ho,r⟩,_⟩:=id I.loc
 obtain ⟨sl,hL⟩:=u.any ho I.free (by simp)
 exact I.step (g':=s.gens) (d':=s.drawn) (ch:=[]) (fun _ z=>nomatch z) (fun b o _ hb _ e n=>u.keep b o e n hb (by simp)) (fun b o _ hb _ e n=>u.slot b o e n hb (by simp)) (fun b o _ e n=>u.free b o e n (by simp)) (fun b o _ e=>u.there b o e (by simp)) u.tups u.frzs u.tbls (fun m' hm=>by
  obtain ⟨o',es',ep',ho',r'⟩:=hm
  rw [ho] at ho'; cases ho'
  exact ⟨_,es',ep',hL,r'⟩) hok I.bare
theorem Inv.call {g':Array GenState} {t':Nat} {d':Drawn} {ch:List Addr} (I:Inv X pins σ H s) (u:Un (frs X.stack) ch H H' s.heap h') (hok:HOk X.prog X.w H' h') (hg:AllBare g')
 (hch:∀ b∈ch,(b∈X.ex∨X.s₀.heap.objs.size≤b)∧b≠X.env.locals∧(∀ x c,X.env.cells.lookup x=some c→c≠b)∧∀ p∈X.pn++pins,p.1≠b) :
 Inv X pins σ H' { s with heap:=h',gens:=g',drawn:=d',toks:=t' }:=by
 obtain ⟨m,⟨o,es,ep,ho,r⟩,_⟩:=id I.loc
 obtain ⟨sl,hL⟩:=u.any ho I.free fun z=>(hch _ z).2.1 rfl
 exact I.step (ch:=ch) hch (fun b o hL hb hc e n=>u.keep b o e n (fun z=>(List.mem_cons.mp (I.stkSub b z)).elim hL hb) hc) (fun b o _ _ hc e n=>u.any e n hc) (fun b o hc e n=>u.free b o e n hc) (fun b o hc e=>u.there b o e hc) u.tups u.frzs u.tbls (fun m' hm=>by
  obtain ⟨o',es',ep',ho',r'⟩:=hm
  rw [ho] at ho'; cases ho'
  exact ⟨_,es',ep',hL,r'⟩) hok hg
theorem Inv.turned {t':Nat} {it:Addr} (I:Inv X pins σ H s) (k:∀ b o,b≠it→s.heap.get? b=some o→h'.get? b=some o) (hn:H it=none) (hL:it≠X.env.locals)
 (h1:it∈X.ex∨X.s₀.heap.objs.size≤it) (h2:∀ x c,X.env.cells.lookup x=some c→c≠it) (h3:∀ p∈X.pn++pins,p.1≠it):Inv X pins σ H { s with heap:=h',toks:=t' }:=by
 have nit:∀ b u,H b=some u→b≠it:=fun b u e z=>by rw [z,hn] at e; cases e
 refine I.step (g':=s.gens) (d':=s.drawn) (ch:=[it]) (fun b hb=>?_) (fun b o _ _ hc e _=>k b o (fun z=>hc (by simp [z])) e) (fun b o _ _ hc e _=>⟨o.slots,k b o (fun z=>hc (by simp [z])) e⟩) (fun _ _ _ _ n=>n)
  (fun b o hc e=>⟨o,k b o (fun z=>hc (by simp [z])) e⟩) (fun _ _ e=>e) (fun _ _ _ e=>e) (fun b ps _ e=>⟨#[],by rw [e]; simp⟩) (fun m hm=>?_) (fun b u e=>?_) I.bare
 ·have e:b=it:=by simpa using hb
  subst e
  exact ⟨h1,hL,h2,h3⟩
 ·obtain ⟨o,es,ep,ho,r⟩:=hm
  exact ⟨o,es,ep,k _ o (Ne.symm hL) ho,r⟩
 ·refine (I.hok b u e).stay (fun c v hc q=>k c v ?_ q) (fun _ q=>q) (fun _ _ q=>q) fun _ _ _ q=>q
  rcases hc with z | z
  ·rw [z]; exact nit b u e
  ·exact nit c _ z
theorem Inv.tok (I:Inv X pins σ H s) (t:Nat):Inv X pins σ H { s with toks:=t }:=I.un (h':=s.heap) (t':=t) Un.refl I.hok
theorem Inv.kept {t':Nat} (I:Inv X pins σ H s) (k:∀ b u,s.heap.get? b=some u→h'.get? b=some u):Inv X pins σ H { s with heap:=h',toks:=t' }:=I.un (Un.kept k) (I.hok.kept k)
theorem Inv.laid {a:Addr} {o:HO} {t':Nat} (I:Inv X pins σ H s) (k:∀ b u,s.heap.get? b=some u→h'.get? b=some u) (hp:s.heap.objs.size≤a) (new:a5 X.prog X.w (upd H a o) h' a o) :
 Inv X pins σ (upd H a o) { s with heap:=h',toks:=t' }:=I.un (Un.laid k hp (I.hok.fresh hp)) (I.hok.laid k hp new)
theorem Inv.write {x e:Addr} {o:HO} {t':Nat} (I:Inv X pins σ H s) (mu:Mut (H x)) (he:e=x∨H e=some (.own x)) (k:∀ b u,b≠e→s.heap.get? b=some u→h'.get? b=some u) (heo:∃ u,h'.get? e=some u)
 (new:a5 X.prog X.w (upd H x o) h' x o):Inv X pins σ (upd H x o) { s with heap:=h',toks:=t' }:=I.un (Un.write mu he k heo) (I.hok.write mu he k heo new)
theorem Inv.weak {σ':List (Option V)} (I:Inv X pins σ H s) (hl : σ'.length=σ.length) (w:∀ (i:Nat) v,σ'[i]? = some (some v)→σ[i]? = some (some v)):Inv X pins σ' H s :=
 ⟨I.ok,I.os,I.bare,I.base,let ⟨m,hn,hl'⟩:=I.loc; ⟨m,hn,fun i x v e1 e2 e3=>hl' i x v e1 (w i v e2) e3⟩,I.cell,I.free,I.freeC,I.pin,I.hok,hl.trans I.len⟩
theorem Inv.pins_of {pins':List (Addr×Obj)} (I:Inv X pins σ H s) (h:∀ p∈pins',s.heap.get? p.1=some p.2∧H p.1=none∧p.1≠X.env.locals∧p.1 ∉ X.fs∧∀ v,p.2.data≠.cell v):Inv X pins' σ H s :=
 ⟨I.ok,I.os,I.bare,I.base,I.loc,I.cell,I.free,I.freeC,fun p hp=>(List.mem_append.mp hp).elim (fun z=>I.pin p (List.mem_append_left _ z)) (h p),I.hok,I.len⟩
theorem ip {N:List Str} (hN:N.Nodup) {i j:Nat} {x:Str} (a:N[i]? = some x) (b:N[j]? = some x):i=j:=by
 obtain ⟨h1,e1⟩:=List.getElem?_eq_some_iff.mp a
 obtain ⟨h2,e2⟩:=List.getElem?_eq_some_iff.mp b
 exact (List.getElem_inj hN).mp (e1.trans e2.symm)
theorem ju {M:Model} {A:Around} {E:Value→Shared→Prop} {i:Nat} {x:Str} {v:V} {u:Value} {Q:Unit→Shared→Prop} (I:Inv X pins σ H s) (hN:X.N.Nodup) (hi:X.N[i]? = some x) (hx:Loc X.env.scope x) (r:a_ v u)
 (h:∀ s',Inv X pins (σ.set i (some v)) H s'→(∃ a,Heap.SameBut a s.heap s'.heap∧(a=X.env.locals∨X.env.cells.lookup x=some a))→Q () s') (hf:X.fn x=true∨X.env.scope.names.lookup x=some .local:=by first | exact .inl rfl | exact .inr rfl | assumption):wpAny M A (storeName X.env x u) Q E s:=by
 obtain ⟨m,hn,hl⟩:=id I.loc
 have hcls:(X.env.scope.kind == .class||(X.env.scope.kind == .module&&X.env.locals != X.env.globals))=false:=by rw [I.ok.kind]; rfl
 have hiσ:i<σ.length:=by rw [I.len]; exact (List.getElem?_eq_some_iff.mp hi).1
 have cne:=I.cne
 have tracked:∀ {a:Addr} {h':Heap},(∃ o,s.heap.get? a=some o∧H a=none)→Heap.SameBut a s.heap h'→HOk X.prog X.w H h':=fun {a h'} ha hs b ob e=>by
  obtain ⟨_,_,hfree⟩:=ha
  refine (I.hok b ob e).stay (fun c w' hc q=>(hs.2 c ?_).trans q) (fun _ q=>q) (fun _ _ q=>q) fun _ _ _ q=>q
  rintro rfl
  rcases hc with rfl | hc
  ·rw [hfree] at e; cases e
  ·rw [hfree] at hc; cases hc
 rcases hx with hk | hk
 ·refine wpAny_storeName_local hk hn (fun h' hn' hs=>?_) hcls
  obtain ⟨oL,_,_,hoL,_⟩:=id hn
  refine h _ ⟨I.ok,I.os,I.bare,⟨fun b o e n hb hx=>?_,fun b o e n hb hx=>?_,I.base.free,fun b o e hx=>?_,I.base.tups,I.base.frzs,I.base.tbls⟩,⟨_,hn',fun j y v' e1 e2 e3=>?_⟩,fun y c e=>?_,I.free,I.freeC,fun p hp=>?_,tracked ⟨oL,hoL,I.free⟩ hs,by simpa using I.len⟩ ⟨_,hs,.inl rfl⟩
  ·exact (hs.2 b (Nat.ne_of_lt (Nat.lt_of_lt_of_le (Heap.lt_size e) I.ok.above))).trans (I.base.keep b o e n hb hx)
  ·obtain ⟨sl,e1⟩:=I.base.slot b o e n hb hx
   exact ⟨sl,(hs.2 b (Nat.ne_of_lt (Nat.lt_of_lt_of_le (Heap.lt_size e) I.ok.above))).trans e1⟩
  ·obtain ⟨o',e1⟩:=I.base.there b o e hx
   exact ⟨o',(hs.2 b (Nat.ne_of_lt (Nat.lt_of_lt_of_le (Heap.lt_size e) I.ok.above))).trans e1⟩
  ·by_cases hj:j=i
   ·subst hj
    rw [hi] at e1; cases e1
    rw [List.getElem?_set_self hiσ] at e2
    cases e2
    exact ⟨u,r,.inl ⟨hk,by simp⟩⟩
   ·rw [List.getElem?_set_ne (Ne.symm hj)] at e2
    obtain ⟨u',r',q⟩:=hl j y v' e1 e2 e3
    refine ⟨u',r',?_⟩
    rcases q with ⟨k,e⟩ | ⟨k,c,e,z⟩
    ·refine .inl ⟨k,?_⟩
     have:y≠x:=fun e=>hj (ip hN e1 (e ▸ hi))
     simp [this,e]
    ·exact .inr ⟨k,c,e,z.sameBut hs (cne y c e)⟩
  ·obtain ⟨w',z⟩:=I.cell y c e
   exact ⟨w',z.sameBut hs (cne y c e)⟩
  ·obtain ⟨e,n,ne,nf,d⟩:=I.pin p hp
   exact ⟨(hs.2 p.1 ne).trans e,n,ne,nf,d⟩
 ·have hfn:X.fn x=true:=by
   rcases hf with z | z
   ·exact z
   ·rw [z] at hk; cases hk
  obtain ⟨c,hc⟩:=I.ok.has x (.inl hk)
  obtain ⟨w',z⟩:=I.cell x c hc
  refine wpAny_storeName_cell I.ok.kind hk hc z (fun h' hc' hs=>?_)
  obtain ⟨oc,hoc,hocd⟩:=id z
  refine h { s with heap:=h' } ⟨I.ok,I.os,I.bare,⟨fun b o e n hb hx=>?_,fun b o e n hb hx=>?_,I.base.free,fun b o e hx=>?_,I.base.tups,I.base.frzs,I.base.tbls⟩,⟨m,hn.sameBut hs (Ne.symm (cne x c hc)),fun j y v' e1 e2 e3=>?_⟩,fun y c' e=>?_,I.free,I.freeC,fun p hp=>?_,tracked ⟨oc,hoc,I.freeC x c hc⟩ hs,by simpa using I.len⟩ ⟨c,hs,.inr hc⟩
  ·exact (hs.2 b (Nat.ne_of_lt (Nat.lt_of_lt_of_le (Heap.lt_size e) (I.ok.cab x c hfn hc)))).trans (I.base.keep b o e n hb hx)
  ·obtain ⟨sl,e1⟩:=I.base.slot b o e n hb hx
   exact ⟨sl,(hs.2 b (Nat.ne_of_lt (Nat.lt_of_lt_of_le (Heap.lt_size e) (I.ok.cab x c hfn hc)))).trans e1⟩
  ·obtain ⟨o',e1⟩:=I.base.there b o e hx
   exact ⟨o',(hs.2 b (Nat.ne_of_lt (Nat.lt_of_lt_of_le (Heap.lt_size e) (I.ok.cab x c hfn hc)))).trans e1⟩
  ·by_cases hj:j=i
   ·subst hj
    rw [hi] at e1; cases e1
    rw [List.getElem?_set_self hiσ] at e2
    cases e2
    exact ⟨u,r,.inr ⟨.inl hk,c,hc,hc'⟩⟩
   ·rw [List.getElem?_set_ne (Ne.symm hj)] at e2
    obtain ⟨u',r',q⟩:=hl j y v' e1 e2 e3
    refine ⟨u',r',?_⟩
    rcases q with q | ⟨k,c',e,z'⟩
    ·exact .inl q
    ·refine .inr ⟨k,c',e,z'.sameBut hs ?_⟩
     rintro rfl
     exact hj (ip hN e1 (I.ok.inj _ _ _ e hc ▸ hi))
  ·by_cases hcc:c'=c
   ·subst hcc; exact ⟨_,hc'⟩
   ·obtain ⟨w2,z2⟩:=I.cell y c' e
    exact ⟨w2,z2.sameBut hs hcc⟩
  ·obtain ⟨e,n,ne,nf,d⟩:=I.pin p hp
   refine ⟨(hs.2 p.1 ?_).trans e,n,ne,nf,d⟩
   intro q
   rw [q,hoc] at e
   have q':oc=p.2:=Option.some.inj e
   exact d w' (by rw [← q']; exact hocd)
theorem eU {M:Model} {A:Around} {E:Value→Shared→Prop} {i:Nat} {x:Str} {v:V} {u:Value} {Q:Unit→Shared→Prop} (I:Inv X pins σ H s) (hN:X.N.Nodup) (hi:X.N[i]? = some x) (hx:Loc X.env.scope x) (r:a_ v u)
 (h:∀ s',Inv X pins (σ.set i (some v)) H s'→Q () s') (hf:X.fn x=true∨X.env.scope.names.lookup x=some .local:=by first | exact .inl rfl | exact .inr rfl | assumption):wpAny M A (storeName X.env x u) Q E s :=
 ju I hN hi hx r (fun s' I' _=>h s' I') hf
theorem Inv.call' {s':Shared} {ch:List Addr} (I:Inv X pins σ H s) (ho:s'.os=s.os) (u:Un (frs X.stack) ch H H' s.heap s'.heap) (hok:HOk X.prog X.w H' s'.heap) (hg:AllBare s'.gens)
 (hch:∀ b∈ch,(b∈X.ex∨X.s₀.heap.objs.size≤b)∧b≠X.env.locals∧(∀ x c,X.env.cells.lookup x=some c→c≠b)∧∀ p∈X.pn++pins,p.1≠b):Inv X pins σ H' s':=by
 obtain ⟨h',g',d',t',o'⟩:=s'
 have e:o'=s.os:=ho
 subst e
 exact I.call (g':=g') (t':=t') (d':=d') u hok hg hch
end
abbrev XK:=Value→Option Addr→Hp→Prop
abbrev St:=List (Option V)
abbrev VK:=V→Hp→Prop
abbrev TE:=St→Hp→VK→Prop
abbrev TT:=St→Hp→(Bool→Hp→Prop)→Prop
abbrev TA:=St→Hp→(List V→Hp→Prop)→Prop
structure Ends where
 nx:St→Hp→Prop
 rt:VK
 bk:St→Hp→Prop:=fun _ _=>False
 ct:St→Hp→Prop:=fun _ _=>False
abbrev TS:=Ends→St→Hp→Prop
def EP (X:Cx) (pins:List (Addr×Obj)) (σ:St) (Q:VK) (u:Value) (s':Shared):Prop:=∃ v H',Inv X pins σ H' s'∧a_ v u∧Q v H'
def TP (X:Cx) (pins:List (Addr×Obj)) (σ:St) (Q:Bool→Hp→Prop) (b:Bool) (s':Shared):Prop:=∃ H',Inv X pins σ H' s'∧Q b H'
def AP (X:Cx) (pins:List (Addr×Obj)) (σ:St) (Q:List V→Hp→Prop) (us:List Value) (s':Shared):Prop:=∃ vs H',Inv X pins σ H' s'∧aV vs us∧Q vs H'
def SP (X:Cx) (pins:List (Addr×Obj)) (D:Ends) (f:Flow) (s':Shared):Prop :=
 match f with
 | .next=>∃ σ' H',Inv X pins σ' H' s'∧D.nx σ' H'
 | .brk=>∃ σ' H',Inv X pins σ' H' s'∧D.bk σ' H'
 | .cont=>∃ σ' H',Inv X pins σ' H' s'∧D.ct σ' H'
 | .ret u=>∃ v σ' H',Inv X pins σ' H' s'∧a_ v u∧D.rt v H'
structure PE (X:Cx) (e:Expr) (t:TE):Prop where
 go:∀ (pins:List (Addr×Obj)) (s:Shared) (σ:St) (H:Hp) (Q:VK),Inv X pins σ H s→t σ H Q→wpAny (model X.prog X.w) X.A (eval e X.env) (EP X pins σ Q) X.xe s
instance {X:Cx} {e:Expr} {t:TE}:CoeFun (PE X e t) fun _=>∀ (pins:List (Addr×Obj)) (s:Shared) (σ:St) (H:Hp) (Q:VK),Inv X pins σ H s→t σ H Q→wpAny (model X.prog X.w) X.A (eval e X.env) (EP X pins σ Q) X.xe s:=⟨fun h=>h.go⟩
structure PT (X:Cx) (e:Expr) (t:TT):Prop where
 go:∀ (pins:List (Addr×Obj)) (s:Shared) (σ:St) (H:Hp) (Q:Bool→Hp→Prop),Inv X pins σ H s→t σ H Q→wpAny (model X.prog X.w) X.A (isTrue e X.env (eval e X.env)) (TP X pins σ Q) X.xe s
instance {X:Cx} {e:Expr} {t:TT}:CoeFun (PT X e t) fun _=>∀ (pins:List (Addr×Obj)) (s:Shared) (σ:St) (H:Hp) (Q:Bool→Hp→Prop),Inv X pins σ H s→t σ H Q→wpAny (model X.prog X.w) X.A (isTrue e X.env (eval e X.env)) (TP X pins σ Q) X.xe s:=⟨fun h=>h.go⟩
structure PW (X:Cx) (e:Expr) (t:TT):Prop where
 go:∀ (whole:Sem Value) (pins:List (Addr×Obj)) (s:Shared) (σ:St) (H:Hp) (Q:Bool→Hp→Prop),Inv X pins σ H s→t σ H Q→wpAny (model X.prog X.w) X.A (isTrue e X.env whole) (TP X pins σ Q) X.xe s
instance {X:Cx} {e:Expr} {t:TT}:CoeFun (PW X e t) fun _=>∀ (whole:Sem Value) (pins:List (Addr×Obj)) (s:Shared) (σ:St) (H:Hp) (Q:Bool→Hp→Prop),Inv X pins σ H s→t σ H Q→wpAny (model X.prog X.w) X.A (isTrue e X.env whole) (TP X pins σ Q) X.xe s:=⟨fun h=>h.go⟩
theorem PW.pt {X:Cx} {e:Expr} {t:TT} (h:PW X e t):PT X e t:=⟨h.go _⟩
structure PA (X:Cx) (es:List Expr) (t:TA):Prop where
 go:∀ (pos:Pos) (pins:List (Addr×Obj)) (s:Shared) (σ:St) (H:Hp) (Q:List V→Hp→Prop),Inv X pins σ H s→t σ H Q→wpAny (model X.prog X.w) X.A (spliced (backTo pos (starEach es X.env))) (AP X pins σ Q) X.xe s
instance {X:Cx} {es:List Expr} {t:TA}:CoeFun (PA X es t) fun _=>∀ (pos:Pos) (pins:List (Addr×Obj)) (s:Shared) (σ:St) (H:Hp) (Q:List V→Hp→Prop),Inv X pins σ H s→t σ H Q→wpAny (model X.prog X.w) X.A (spliced (backTo pos (starEach es X.env))) (AP X pins σ Q) X.xe s:=⟨fun h=>h.go⟩
structure PS (X:Cx) (st:Stmt) (t:TS):Prop where
 go:∀ (pins:List (Addr×Obj)) (s:Shared) (σ:St) (H:Hp) (D:Ends),Inv X pins σ H s→t D σ H→wpAny (model X.prog X.w) X.A (exec st X.env) (SP X pins D) X.xe s
instance {X:Cx} {st:Stmt} {t:TS}:CoeFun (PS X st t) fun _=>∀ (pins:List (Addr×Obj)) (s:Shared) (σ:St) (H:Hp) (D:Ends),Inv X pins σ H s→t D σ H→wpAny (model X.prog X.w) X.A (exec st X.env) (SP X pins D) X.xe s:=⟨fun h=>h.go⟩
structure PSs (X:Cx) (st:List Stmt) (t:TS):Prop where
 go:∀ (pins:List (Addr×Obj)) (s:Shared) (σ:St) (H:Hp) (D:Ends),Inv X pins σ H s→t D σ H→wpAny (model X.prog X.w) X.A (execs st X.env) (SP X pins D) X.xe s
instance {X:Cx} {st:List Stmt} {t:TS}:CoeFun (PSs X st t) fun _=>∀ (pins:List (Addr×Obj)) (s:Shared) (σ:St) (H:Hp) (D:Ends),Inv X pins σ H s→t D σ H→wpAny (model X.prog X.w) X.A (execs st X.env) (SP X pins D) X.xe s:=⟨fun h=>h.go⟩
theorem thn {α:Type} {t:Sem α} {Q Q' : α→Shared→Prop} {M:Model} {A:Around} {E:Value→Shared→Prop} {s:Shared} (h:wpAny M A t Q E s) (hQ:∀ a s,Q a s→Q' a s):wpAny M A t Q' E s:=wpAny_mono h hQ fun _ _ x=>x
section
variable {X:Cx}
theorem bin {a b:Expr} {ta tb:TE} (ha:PE X a ta) (hb:PE X b tb) {pins:List (Addr×Obj)} {s:Shared} {σ:St} {H:Hp} {R:V→V→Hp→Prop} (I:Inv X pins σ H s) (h:ta σ H fun x H1=>tb σ H1 fun y H2=>R x y H2)
 {α:Type} {Q : α→Shared→Prop} {f:Value→Value→Sem α}
 (hf:∀ v u s2 x y H2,Inv X pins σ H2 s2→a_ x v→a_ y u→R x y H2→wpAny (model X.prog X.w) X.A (f v u) Q X.xe s2) :
 wpAny (model X.prog X.w) X.A (eval a X.env) (fun v s₁=>wpAny (model X.prog X.w) X.A (eval b X.env) (fun u s₂=>wpAny (model X.prog X.w) X.A (f v u) Q X.xe s₂) X.xe s₁) X.xe s:=by
 refine thn (ha pins s σ H _ I h) fun v s1 ⟨x,H1,I1,r1,q1⟩=>?_
 refine thn (hb pins s1 σ H1 _ I1 q1) fun u s2 ⟨y,H2,I2,r2,q2⟩=>?_
 exact hf v u s2 x y H2 I2 r1 r2 q2
def tVar (i:Nat):TE:=fun σ H Q=>∃ v,σ[i]? = some (some v)∧Q v H
def tC (v:V):TE:=fun _ H Q=>Q v H
theorem eO {i:Nat} {x:Str} {pos:Pos} (hN:X.N[i]? = some x) (hv:Vis X.env.scope x) (hd:(x == ("__debug__":Str))=false:=by decide) (hcd:(x == ("__classdict__":Str))=false:=by decide):PE X (.Name x pos) (tVar i):=by
 (try refine ⟨?_⟩); intro pins s σ H Q I h
 obtain ⟨v,e,h⟩:=h
 obtain ⟨m,hn,hl⟩:=I.loc
 obtain ⟨u,r,l⟩:=hl i x v hN e hv
 have fin:EP X pins σ Q u s:=⟨v,H,I,r,h⟩
 rcases l with ⟨hk,hm⟩ | ⟨hk,c,hc,hcell⟩
 ·exact wpAny_Name (wpAny_loadName_local I.ok.kind hk hn hm fin) hd
 ·rcases hk with hk | hk
  ·exact wpAny_Name (wpAny_loadName_cell I.ok.kind hk hc hcell fin) hd
  ·exact wpAny_Name (wpAny_loadName_free I.ok.kind hk hc hcell fin hcd) hd
theorem vA {i j pos}:PE X (.Constant (.int i) j pos) (tC (.int i)):=⟨fun _ _ _ H _ I h=>wpAny_Constant_int ⟨.int i,H,I.tok _,⟨_,rfl⟩,h⟩⟩
theorem uu {b j pos}:PE X (.Constant (.bool b) j pos) (tC (.bl b)):=⟨fun _ _ _ H _ I h=>Constant_bool ⟨.bl b,H,I,rfl,h⟩⟩
theorem wJ {j pos}:PE X (.Constant .none j pos) (tC .non):=⟨fun _ _ _ H _ I h=>Constant_none ⟨.non,H,I,rfl,h⟩⟩
theorem pD {x j pos}:PE X (.Constant (.str x) j pos) (tC (.str x)):=⟨fun _ _ _ H _ I h=>Calls.Constant_str ⟨.str x,H,I.tok _,⟨_,rfl⟩,h⟩⟩
def Gl (X:Cx) (x:Str):Prop:=X.env.kindOf x=some .globalImplicit
theorem fg {E:Value→Shared→Prop} {pins:List (Addr×Obj)} {s:Shared} {σ:St} {H:Hp} {x:Str} {u:Value} {pos:Pos} {Q:Value→Shared→Prop} (I:Inv X pins σ H s) (hg:Gl X x) (hm:X.mg x=some u) (h:Q u s)
 (hd:(x == ("__debug__":Str))=false:=by decide):wpAny (model X.prog X.w) X.A (eval (.Name x pos) X.env) Q E s :=
 Calls.Name_function_global I.ok.kind hg (Calls.loadGlobal_global (by rw [I.ok.glob]; exact I.mod.glob.keeps I.bk) hm h) hd
theorem gK {E:Value→Shared→Prop} {pins:List (Addr×Obj)} {s:Shared} {σ:St} {H:Hp} {x:Str} {u:Value} {pos:Pos} {Q:Value→Shared→Prop} (I:Inv X pins σ H s) (hg:Gl X x) (hm:X.mg x=none) (hv:bootBuiltins x=some u) (h:Q u s)
 (hn:x ≠ "__name__":=by decide) (hd:(x == ("__debug__":Str))=false:=by decide):wpAny (model X.prog X.w) X.A (eval (.Name x pos) X.env) Q E s:=by
 obtain ⟨mb,h1,h2⟩:=I.mod.blt
 exact Calls.Name_function_global I.ok.kind hg (Calls.loadGlobal_builtin (by rw [I.ok.glob]; exact I.mod.glob.keeps I.bk) hm (by rw [I.ok.blt]; exact h1.keeps I.bk) ((h2 x hn).trans hv) h) hd
theorem gg {x:Str} {v:V} {u:Value} {pos:Pos} (hg:Gl X x) (hm:X.mg x=some u) (r:a_ v u) (hd:(x == ("__debug__":Str))=false:=by decide):PE X (.Name x pos) (tC v):=⟨fun _ _ _ H _ I h=>fg I hg hm ⟨v,H,I,r,h⟩ hd⟩
theorem cE {x:Str} {v:V} {u:Value} {pos:Pos} (hg:Gl X x) (hm:X.mg x=none) (hv:bootBuiltins x=some u) (r:a_ v u) (hn:x ≠ "__name__":=by decide) (hd:(x == ("__debug__":Str))=false:=by decide):PE X (.Name x pos) (tC v):=⟨fun _ _ _ H _ I h=>gK I hg hm hv ⟨v,H,I,r,h⟩ hn hd⟩
variable {a b:Expr} {ta tb:TE} {pos:Pos}
def tB (t:TE):TT:=fun σ H Q=>t σ H fun x H1=>∃ c,x = .bl c∧Q c H1
theorem xi {e:Expr} {t:TE} (h:PE X e t) (he:∀ whole,isTrue e X.env whole=(do let v ← whole; standAt e.pos; holding [v] (truthy v)):=by intro _; rfl):PT X e (tB t):=by
 (try refine ⟨?_⟩); intro pins s σ H Q I hw
 refine isTrue_plain (thn (h pins s σ H _ I hw) fun v s1 ⟨x,H1,I1,r1,q1⟩=>?_) (he _)
 obtain ⟨d,rfl,q⟩:=q1
 cases r1
 exact wpAny_truthy_bool ⟨H1,I1,q⟩
variable {tA tB':TT} {rest:List Expr}
def tOr (t u:TT):TT:=fun σ H Q=>t σ H fun c H1=>if c=true then Q true H1 else u σ H1 Q
def tNot (t:TT):TT:=fun σ H Q=>t σ H fun c H1=>Q (!c) H1
theorem wq (ha:PT X a tA):PW X (.BoolOp .Or [a] pos) tA:=by
 (try refine ⟨?_⟩); intro wh pins s σ H Q I h
 refine isTrue_or (thn (ha pins s σ H Q I h) fun c s1 e=>?_)
 cases c with
 | false=>exact isTrue_or_nil e
 | true=>exact e
theorem pw_or (ha:PT X a tA) (hb:PW X (.BoolOp .Or (b :: rest) pos) tB'):PW X (.BoolOp .Or (a :: b :: rest) pos) (tOr tA tB'):=by
 (try refine ⟨?_⟩); intro wh pins s σ H Q I h
 refine isTrue_or (thn (ha pins s σ H _ I h) fun c s1 ⟨H1,I1,q1⟩=>?_)
 cases c with
 | true=>exact ⟨H1,I1,q1⟩
 | false=>exact hb wh pins s1 σ H1 Q I1 q1
theorem vm (ha:PT X a tA):PT X (.UnaryOp .Not a pos) (tNot tA):=by
 (try refine ⟨?_⟩); intro pins s σ H Q I h
 exact isTrue_not (ha pins s σ H (fun c H1=>Q (!c) H1) I h)
def tAndV (ta tb:TE):TE:=fun σ H Q=>ta σ H fun x H1=>∃ c,x = .bl c∧if c=true then tb σ H1 Q else Q (.bl false) H1
def tNotV (ta:TE):TE:=fun σ H Q=>ta σ H fun x H1=>∃ c,x = .bl c∧Q (.bl (!c)) H1
theorem xj {op} {t:TE} (h:PE X a t):PE X (.BoolOp op [a] pos) t:=⟨fun pins s σ H Q I hw=>BoolOp_one (h pins s σ H Q I hw)⟩
theorem vL (ha:PE X a ta) (hb:PE X (.BoolOp .And (b :: rest) pos) tb):PE X (.BoolOp .And (a :: b :: rest) pos) (tAndV ta tb):=by
 (try refine ⟨?_⟩); intro pins s σ H Q I h
 refine BoolOp_and (thn (ha pins s σ H _ I h) fun v s1 ⟨x,H1,I1,r1,q1⟩=>?_)
 obtain ⟨c,rfl,q1⟩:=q1
 cases r1
 refine wpAny_truthy_bool ?_
 cases c with
 | true=>exact hb pins s1 σ H1 Q I1 q1
 | false=>exact ⟨.bl false,H1,I1,rfl,q1⟩
theorem vM (ha:PE X a ta):PE X (.UnaryOp .Not a pos) (tNotV ta):=by
 (try refine ⟨?_⟩); intro pins s σ H Q I h
 refine UnaryOp_ (thn (ha pins s σ H _ I h) fun v s1 ⟨x,H1,I1,r1,q1⟩=>?_)
 obtain ⟨c,rfl,q1⟩:=q1
 cases r1
 exact not_of (wpAny_truthy_bool ⟨.bl (!c),H1,I1,rfl,q1⟩)
def tIf (t:TT) (ta tb:TE):TE:=fun σ H Q=>t σ H fun c H1=>if c=true then ta σ H1 Q else tb σ H1 Q
theorem rh {c:Expr} (hc:PT X c tA) (ha:PE X a ta) (hb:PE X b tb):PE X (.IfExp c a b pos) (tIf tA ta tb):=by
 (try refine ⟨?_⟩); intro pins s σ H Q I h
 refine wpAny_IfExp (thn (hc pins s σ H _ I h) fun d s1 ⟨H1,I1,q1⟩=>?_)
 cases d with
 | true=>exact ha pins s1 σ H1 Q I1 q1
 | false=>exact hb pins s1 σ H1 Q I1 q1
end
def SqL (K:PySem.W.Frag) (H:Hp) (a:Addr) (xs:List V):Prop :=
 Rd H a (.lst xs) ∨
  ∃ (o:Obj) (its:Array Value) (n:Nat),K.lookup a=some o∧o.cls = .type "list" ∧ o.dict=none∧o.data = .seq its n∧its.size≤sizeLine∧aV xs its.toList
def SqT (K:PySem.W.Frag) (H:Hp) (a:Addr) (xs:List V):Prop :=
 Rd H a (.tup xs) ∨
  ∃ (o:Obj) (its:Array Value) (n:Nat),K.lookup a=some o∧o.cls = .type "tuple" ∧ o.data = .seq its n∧its.size≤sizeLine∧aV xs its.toList
def absV:Value→Option V
 | .none=>some .non
 | .bool b=>some (.bl b)
 | .int i _=>some (.int i)
 | .str x _=>some (.str x)
 | .bytes b _=>some (.byt b)
 | .float b _=>some (.flt b)
 | .ref a=>some (.ref a)
 | .type n=>some (.ty n)
 | _=>none
theorem a_.abs {x:V} {u:Value} (r:a_ x u):absV u=some x:=by
 cases x with
 | non=>cases r; rfl
 | bl _=>cases r; rfl
 | int _=>obtain ⟨t,rfl⟩:=r; rfl
 | str _=>obtain ⟨t,rfl⟩:=r; rfl
 | byt _=>obtain ⟨t,rfl⟩:=r; rfl
 | flt _=>obtain ⟨t,rfl⟩:=r; rfl
 | ref _=>cases r; rfl
 | ty _=>cases r; rfl
theorem a_.inj {x y:V} {u:Value} (r:a_ x u) (q:a_ y u):x=y:=Option.some.inj (r.abs.symm.trans q.abs)
theorem aV.inj:∀ {xs ys:List V} {us:List Value},aV xs us→aV ys us→xs=ys
 | _,_,_,.nil,.nil=>rfl
 | _,_,_,.cons r t,.cons r' t'=>by rw [r.inj r',aV.inj t t']
section
variable {X:Cx} {pins:List (Addr×Obj)} {σ:St} {H:Hp} {s:Shared} {a:Addr} {xs ys:List V}
theorem SqL.of {K:PySem.W.Frag} (h:H a=some (.lst xs)):SqL K H a xs:=.inl (.inl h)
theorem SqT.of {K:PySem.W.Frag} (h:H a=some (.tup xs)):SqT K H a xs:=.inl (.inl h)
theorem Inv.list (I:Inv X pins σ H s) (h:SqL X.K H a xs):∃ its:List Value,aV xs its∧PlainL s.heap a its.toArray∧xs.length≤sizeLine:=by
 rcases h with h | ⟨o,its,n,hk,hc,hd,hs,hz,r⟩
 ·obtain ⟨z,its,n,r,e⟩:=h.ok I.hok
  exact ⟨its,r,⟨_,n,e,rfl,rfl,rfl⟩,z⟩
 ·refine ⟨its.toList,r,⟨o,n,I.kIn a o hk,hc,hd,by simpa using hs⟩,?_⟩
  have e:=r.length
  simp only [Array.length_toList] at e
  omega
theorem Inv.tuple (I:Inv X pins σ H s) (h:SqT X.K H a xs):∃ its:List Value,aV xs its∧IsTup s.heap a its.toArray∧xs.length≤sizeLine:=by
 rcases h with h | ⟨o,its,n,hk,hc,hs,hz,r⟩
 ·obtain ⟨z,its,r,p⟩:=h.ok I.hok
  exact ⟨its,r,p,z⟩
 ·refine ⟨its.toList,r,⟨o,I.kIn a o hk,hc,n,by simpa using hs⟩,?_⟩
  have e:=r.length
  simp only [Array.length_toList] at e
  omega
theorem Inv.list_inj (I:Inv X pins σ H s) (h:SqL X.K H a xs) (h':SqL X.K H a ys):xs=ys:=by
 obtain ⟨its,r,⟨o,n,e,_,_,d⟩,_⟩:=I.list h
 obtain ⟨its',r',⟨o',n',e',_,_,d'⟩,_⟩:=I.list h'
 rw [e] at e'; cases e'
 rw [d] at d'
 injection d' with d1 _
 have:its=its':=by simpa using congrArg Array.toList d1
 subst this
 exact r.inj r'
end
abbrev Cx.wish (X:Cx) (E:Value→Shared→Prop):Cx:={ X with xe:=E }
abbrev Cx.nox (X:Cx):Cx:=X.wish fun _ _=>False
theorem Cx.Ok.wish {X:Cx} (ok:X.Ok) (E:Value→Shared→Prop):(X.wish E).Ok :=
 ⟨ok.mod,ok.kind,ok.glob,ok.blt,ok.above,ok.inj,ok.has,ok.cab,ok.hd,ok.frames,ok.stk,ok.exf,ok.bs,ok.bsz,ok.noex,ok.exfs,ok.funs,ok.frf,ok.tb⟩
theorem Cx.Ok.unwish {X:Cx} {E:Value→Shared→Prop} (ok:(X.wish E).Ok):X.Ok :=
 ⟨ok.mod,ok.kind,ok.glob,ok.blt,ok.above,ok.inj,ok.has,ok.cab,ok.hd,ok.frames,ok.stk,ok.exf,ok.bs,ok.bsz,ok.noex,ok.exfs,ok.funs,ok.frf,ok.tb⟩
section
variable {X:Cx} {pins:List (Addr×Obj)} {σ:St} {H:Hp} {s:Shared} {E:Value→Shared→Prop}
theorem Inv.wish (I:Inv X pins σ H s) (E:Value→Shared→Prop):Inv (X.wish E) pins σ H s:=⟨I.ok.wish E,I.os,I.bare,I.base,I.loc,I.cell,I.free,I.freeC,I.pin,I.hok,I.len⟩
theorem Inv.unwish (I:Inv (X.wish E) pins σ H s):Inv X pins σ H s:=⟨I.ok.unwish,I.os,I.bare,I.base,I.loc,I.cell,I.free,I.freeC,I.pin,I.hok,I.len⟩
theorem SP.unwish {D:Ends} {f:Flow} {s':Shared} (h:SP (X.wish E) pins D f s'):SP X pins D f s':=by
 cases f with
 | next=>obtain ⟨σ',H',I,q⟩:=h; exact ⟨σ',H',I.unwish,q⟩
 | brk=>obtain ⟨σ',H',I,q⟩:=h; exact ⟨σ',H',I.unwish,q⟩
 | cont=>obtain ⟨σ',H',I,q⟩:=h; exact ⟨σ',H',I.unwish,q⟩
 | ret u=>obtain ⟨v,σ',H',I,r,q⟩:=h; exact ⟨v,σ',H',I.unwish,r,q⟩
theorem PSs.nox {st:List Stmt} {t:TS} (h:PSs X.nox st t):PSs X st t:=⟨fun pins s σ H D I hw =>
 wpAny_mono (h pins s σ H D (I.wish _) hw) (fun _ _ q=>q.unwish) fun _ _ z=>False.elim z⟩
end
section
variable {X:Cx} {st:Stmt} {rest:List Stmt} {t u:TS} {e:Expr} {te:TE} {pos:Pos}
def tNext:TS:=fun D σ H=>D.nx σ H
def tSeq (t u:TS):TS:=fun D σ H=>t { D with nx:=u D } σ H
theorem nE:PSs X [] tNext:=⟨fun _ _ σ H _ I h=>wpAny_execs_nil ⟨σ,H,I,h⟩⟩
theorem cz (h1:PS X st t) (h2:PSs X rest u):PSs X (st :: rest) (tSeq t u):=by
 (try refine ⟨?_⟩); intro pins s σ H D I h
 refine wpAny_execs_cons (thn (h1 pins s σ H { D with nx:=u D } I h) fun f s1 q=>?_)
 cases f with
 | next =>
  obtain ⟨σ',H',I',q⟩:=q
  exact h2 pins s1 σ' H' D I' q
 | ret v=>exact q
 | brk=>exact q
 | cont=>exact q
theorem fu (h1:PS X st t):PSs X [st] t:=by
 (try refine ⟨?_⟩); intro pins s σ H D I h
 refine wpAny_execs_cons (thn (h1 pins s σ H D I h) fun f s1 q=>?_)
 cases f with
 | next=>exact wpAny_execs_nil q
 | ret v=>exact q
 | brk=>exact q
 | cont=>exact q
theorem Inv.quiet {pins:List (Addr×Obj)} {σ:St} {H:Hp} {s:Shared} (I:Inv X pins σ H s):interactive X.env=false:=by simp [interactive,I.ok.kind]
def p5 (te:TE):TS:=fun D σ H=>te σ H fun _ H1=>D.nx σ H1
theorem dD (he:PE X e te) (hs:swapsWith e none pos.line X.env=pure false:=by rfl):PS X (.Expr e pos) (p5 te):=by
 (try refine ⟨?_⟩); intro pins s σ H D I h
 exact wpAny_Expr_any (thn (he pins s σ H _ I h) fun v s1 ⟨x,H1,I1,r1,q1⟩=>⟨σ,H1,I1,q1⟩) I.quiet hs
def tRet (te:TE):TS:=fun D σ H=>te σ H D.rt
theorem rn (he:PE X e te):PS X (.Return (some e) pos) (tRet te):=by
 (try refine ⟨?_⟩); intro pins s σ H D I h
 exact wpAny_Return_some (thn (he pins s σ H _ I h) fun v s1 ⟨x,H1,I1,r1,q1⟩=>⟨x,σ,H1,I1,r1,q1⟩)
def tIfS (c:TT) (t u:TS):TS:=fun D σ H=>c σ H fun b H1=>if b=true then t D σ H1 else u D σ H1
theorem uK {c:Expr} {a b:List Stmt} {tc:TT} (hc:PT X c tc) (ha:PSs X a t) (hb:PSs X b u):PS X (.If c a b pos) (tIfS tc t u):=by
 (try refine ⟨?_⟩); intro pins s σ H D I h
 refine wpAny_If (thn (hc pins s σ H _ I h) fun d s1 ⟨H1,I1,q1⟩=>?_)
 cases d with
 | true=>exact ha pins s1 σ H1 D I1 q1
 | false=>exact hb pins s1 σ H1 D I1 q1
def vO:TS:=fun _ _ _=>False
theorem rY:PS X st vO:=⟨fun _ _ _ _ _ _ h=>h.elim⟩
end
abbrev TG:=V→St→Hp→(St→Hp→Prop)→Prop
abbrev TGs:=List V→St→Hp→(St→Hp→Prop)→Prop
structure PG (X:Cx) (target:Expr) (t:TG):Prop where
 go:∀ (pins:List (Addr×Obj)) (s:Shared) (σ:St) (H:Hp) (v:V) (u:Value) (Q:St→Hp→Prop),Inv X pins σ H s→a_ v u→t v σ H Q →
  wpAny (model X.prog X.w) X.A (assign target X.env u) (fun _ s'=>∃ σ' H',Inv X pins σ' H' s'∧Q σ' H') X.xe s
instance {X:Cx} {target:Expr} {t:TG}:CoeFun (PG X target t) fun _=>∀ (pins:List (Addr×Obj)) (s:Shared) (σ:St) (H:Hp) (v:V) (u:Value) (Q:St→Hp→Prop),Inv X pins σ H s→a_ v u→t v σ H Q →
 wpAny (model X.prog X.w) X.A (assign target X.env u) (fun _ s'=>∃ σ' H',Inv X pins σ' H' s'∧Q σ' H') X.xe s:=⟨fun h=>h.go⟩
structure PGs (X:Cx) (ts:List Expr) (t:TGs):Prop where
 go:∀ (pins:List (Addr×Obj)) (s:Shared) (σ:St) (H:Hp) (vs:List V) (us:List Value) (Q:St→Hp→Prop),Inv X pins σ H s→aV vs us→t vs σ H Q →
  wpAny (model X.prog X.w) X.A (assignInOrder ((assignEach ts X.env).map (·.2)) us) (fun _ s'=>∃ σ' H',Inv X pins σ' H' s'∧Q σ' H') X.xe s
instance {X:Cx} {ts:List Expr} {t:TGs}:CoeFun (PGs X ts t) fun _=>∀ (pins:List (Addr×Obj)) (s:Shared) (σ:St) (H:Hp) (vs:List V) (us:List Value) (Q:St→Hp→Prop),Inv X pins σ H s→aV vs us→t vs σ H Q →
 wpAny (model X.prog X.w) X.A (assignInOrder ((assignEach ts X.env).map (·.2)) us) (fun _ s'=>∃ σ' H',Inv X pins σ' H' s'∧Q σ' H') X.xe s:=⟨fun h=>h.go⟩
abbrev TSet:=V→V→V→Hp→(Hp→Prop)→Prop
def PSet (X:Cx) (t:TSet):Prop :=
 ∀ (pins:List (Addr×Obj)) (s:Shared) (σ:St) (H:Hp) (o i v:V) (ov iv u:Value) (Q:Hp→Prop),Inv X pins σ H s→a_ o ov→a_ i iv→a_ v u→t o i v H Q →
  wpAny (model X.prog X.w) X.A (setItem ov iv u) (fun _ s'=>∃ H',Inv X pins σ H' s'∧Q H') X.xe s
section
variable {X:Cx} {pos:Pos}
def iR (i:Nat):TG:=fun v σ H Q=>Q (σ.set i (some v)) H
theorem cB {i:Nat} {x:Str} (hN:X.N.Nodup) (hi:X.N[i]? = some x) (hx:Loc X.env.scope x) (hf:X.fn x=true∨X.env.scope.names.lookup x=some .local:=by first | exact .inl rfl | exact .inr rfl | assumption):PG X (.Name x pos) (iR i):=by
 (try refine ⟨?_⟩); intro pins s σ H v u Q I r h
 exact wpAny_assign_Name (eU I hN hi hx r (fun s' I'=>⟨_,H,I',h⟩) hf)
def gNil:TGs:=fun vs σ H Q=>vs=[]∧Q σ H
def gCons (t:TG) (u:TGs):TGs:=fun vs σ H Q=>∃ v r,vs=v :: r∧t v σ H fun σ' H'=>u r σ' H' Q
theorem nv:PGs X [] gNil:=by
 (try refine ⟨?_⟩); intro pins s σ H vs us Q I r h
 obtain ⟨e,h⟩:=h
 subst e
 cases r
 exact assignInOrder_nil ⟨σ,H,I,h⟩
theorem iK {e:Expr} {es:List Expr} {t:TG} {u:TGs} (h1:PG X e t) (h2:PGs X es u)
 (hs:(assignEach (e :: es) X.env).map (·.2)=assign e X.env :: (assignEach es X.env).map (·.2):=by rfl):PGs X (e :: es) (gCons t u):=by
 (try refine ⟨?_⟩); intro pins s σ H vs us Q I r h
 obtain ⟨v,vr,e1,h⟩:=h
 subst e1
 cases r with
 | cons r rr =>
  rw [hs]
  refine assignInOrder_cons (thn (h1 pins s σ H _ _ _ I r h) fun _ s1 ⟨σ1,H1,I1,q1⟩=>?_)
  exact h2 pins s1 σ1 H1 _ _ Q I1 rr q1
def gTup (K:PySem.W.Frag) (n:Nat) (t:TGs):TG:=fun v σ H Q=>∃ a xs,v = .ref a∧SqT K H a xs∧xs.length=n∧t xs σ H Q
theorem qD {es:List Expr} {k:Nat} {t:TGs} {n:Nat} (hc:X.calm=true) (h:PGs X es t)
 (hn:(assignEach es X.env).length=n:=by rfl) (hst:(assignEach es X.env).findIdx? (·.1)=none:=by rfl):PG X (.Tuple es k pos) (gTup X.K n t):=by
 (try refine ⟨?_⟩); intro pins s σ H v u Q I r hw
 obtain ⟨a,xs,e1,hq,hl,hw⟩:=hw
 subst e1
 cases r
 obtain ⟨its,rv,ht,hz⟩:=I.tuple hq
 refine assign_Tuple_tuple (I.ok.hd hc) ht (by simp [hn,← hl,rv.length]) hst fun h' hx=>?_
 have I1:Inv X pins σ H { s with heap:=h' }:=I.kept (t':=s.toks) fun b o e=>hx b o (Nat.ne_of_lt (Heap.lt_size e)) e
 exact h pins _ σ H xs _ Q I1 (by simpa using rv) hw
def gSub (to ti:TE) (t:TSet):TG:=fun v σ H Q=>to σ H fun o H1=>ti σ H1 fun i H2=>t o i v H2 fun H3=>Q σ H3
theorem rK {o i:Expr} {to ti:TE} {t:TSet} (ho:PE X o to) (hi:PE X i ti) (hs:PSet X t)
 (ha:∀ v,assign (.Subscript o i pos) X.env v=(do
  let ov ← holding [v] (eval o X.env)
  let iv ← holding [v,ov] (eval i X.env)
  standAt pos
  holding [v,ov,iv] (setItem ov iv v)
  release [v,ov,iv] []):=by intro _; rfl):PG X (.Subscript o i pos) (gSub to ti t):=by
 (try refine ⟨?_⟩); intro pins s σ H v u Q I r h
 rw [ha]
 refine wpAny_bind (wpAny_holding (thn (ho pins s σ H _ I h) fun ov s1 ⟨x,H1,I1,r1,q1⟩=>?_))
 refine wpAny_bind (wpAny_holding (thn (hi pins s1 σ H1 _ I1 q1) fun iv s2 ⟨y,H2,I2,r2,q2⟩=>?_))
 refine wpAny_bind (wpAny_standAt (wpAny_bind (wpAny_holding (thn (hs pins s2 σ H2 x y v ov iv u _ I2 r1 r2 r q2) fun _ s3 ⟨H3,I3,q3⟩=>?_))))
 exact wpAny_release ⟨σ,H3,I3,q3⟩
def nW (te:TE) (g:TG):TS:=fun D σ H=>te σ H fun x H1=>g x σ H1 D.nx
theorem jV {tg e:Expr} {te:TE} {g:TG} (he:PE X e te) (hg:PG X tg g) (hs:swapsWithSole [tg] e pos.line X.env=pure false:=by rfl) (hw:swappedStores [tg] e X.env=pure none:=by rfl)
 (h1:(assignEach [tg] X.env).map (·.2)=[assign tg X.env]:=by rfl):PS X (.Assign [tg] e pos) (nW te g):=by
 (try refine ⟨?_⟩); intro pins s σ H D I h
 refine wpAny_Assign_stores (thn (he pins s σ H _ I h) fun v s1 ⟨x,H1,I1,r1,q1⟩=>?_) hs hw
 rw [h1]
 exact thn (hg pins s1 σ H1 x v _ I1 r1 q1) fun _ s2 q=>q
theorem gO {i:Nat} {x:Str} {e:Expr} {te:TE} {pos':Pos} (hN:X.N.Nodup) (hi:X.N[i]? = some x) (hx:Loc X.env.scope x) (he:PE X e te) (hs:swapsWith e (some (.Name x pos')) pos.line X.env=pure false:=by rfl) (hf:X.fn x=true∨X.env.scope.names.lookup x=some .local:=by first | exact .inl rfl | exact .inr rfl | assumption) :
 PS X (.Assign [.Name x pos'] e pos) (nW te (iR i)):=by
 (try refine ⟨?_⟩); intro pins s σ H D I h
 refine wpAny_Assign_Name (thn (he pins s σ H _ I h) fun v s1 ⟨y,H1,I1,r1,q1⟩=>?_) hs
 exact eU I1 hN hi hx r1 (fun s2 I2=>⟨_,H1,I2,q1⟩) hf
def tPar (i j:Nat) (ta:TA):TS:=fun D σ H=>ta σ H fun vs H1=>∃ v w,vs=[v,w]∧D.nx ((σ.set i (some v)).set j (some w)) H1
theorem vt {i j:Nat} {x y:Str} {a b:Expr} {ta:TA} {px py pt:Pos} {kt k2 pt2} (hc:X.calm=true) (hN:X.N.Nodup) (hi:X.N[i]? = some x) (hj:X.N[j]? = some y) (hij:i≠j)
 (hx:X.env.scope.names.lookup x=some .local) (hy:X.env.scope.names.lookup y=some .local) (ha:PA X [a,b] ta)
 (hw:swappedStores [.Tuple [.Name x px,.Name y py] kt pt] (.Tuple [a,b] k2 pt2) X.env=pure (some [x,y]))
 (hs:swapsWithSole [.Tuple [.Name x px,.Name y py] kt pt] (.Tuple [a,b] k2 pt2) pos.line X.env=pure false:=by rfl) :
 PS X (.Assign [.Tuple [.Name x px,.Name y py] kt pt] (.Tuple [a,b] k2 pt2) pos) (tPar i j ta):=by
 (try refine ⟨?_⟩); intro pins s σ H D I h
 rw [exec_Assign_arm]
 refine wpAny_bind (wpAny_standAt ?_)
 rw [hs]
 refine wpAny_bind (wpAny_pure ?_)
 rw [if_neg (by decide)]
 refine wpAny_bind (Tuple_ (thn (ha _ pins s σ H _ I h) fun us s1 ⟨vs,H1,I1,r1,q1⟩=>?_))
 obtain ⟨v,w,e1,q1⟩:=q1
 subst e1
 obtain ⟨u1,u2,rfl,rv,rw'⟩:∃ u1 u2,us=[u1,u2]∧a_ v u1∧a_ w u2:=by
  cases r1 with
  | cons p q =>
   cases q with
   | cons p' q' =>
    cases q'
    exact ⟨_,_,rfl,p,p'⟩
 refine wpAny_newObj_type ?_ (by show 2≤sizeLine; decide)
 have I2:Inv X pins σ H1 { s1 with heap:=s1.heap.push { cls:=.type "tuple",data:=.seq [u1,u2].toArray } }:=I1.kept (t':=s1.toks) fun b o e=>Heap.get?_push_of_some _ e
 rw [hw]
 refine wpAny_bind (wpAny_pure ?_)
 show wpAny (model X.prog X.w) X.A (do rule "assign.swapped-stores"; let items ← unpackItems (.ref s1.heap.objs.size) 2 none; assignInOrder [fun v=>bindName X.env y v,fun v=>bindName X.env x v] items.reverse; pure Flow.next) _ _ _
 refine wpAny_bind (wpAny_rule (wpAny_bind (unpackItems_tuple (items:=#[u1,u2]) (I.ok.hd hc) (IsTup.new s1.heap _) fun h' hx'=>?_)))
 have I3:=I2.kept (h':=h') (t':=s1.toks) fun b o e=>hx' b o (Nat.ne_of_lt (Heap.lt_size e)) e
 show wpAny _ _ (assignInOrder [fun v=>bindName X.env y v,fun v=>bindName X.env x v] [u2,u1] >>= fun _=>pure Flow.next) _ _ _
 refine wpAny_bind (assignInOrder_cons (wpAny_bindName (eU I3 hN hj (.inl hy) rw' (fun s2 I4=>?_) (.inr hy))))
 refine assignInOrder_cons (wpAny_bindName (eU I4 hN hi (.inl hx) rv (fun s3 I5=>assignInOrder_nil (wpAny_pure ?_)) (.inr hx)))
 rw [List.set_comm _ _ (Ne.symm hij)] at I5
 exact ⟨_,H1,I5,q1⟩
end
section
variable {X:Cx} {pos:Pos}
def vq (c:TT) (tb:TS):TS:=fun D σ H=>∃ W:Nat→St→Hp→Prop,(∃ m,W m σ H)∧∀ m σ H,W m σ H →
 c σ H fun b H1=>if b=true then ∃ N:St→Hp→Prop,(∀ σ' H',N σ' H'→∃ m',m'<m∧W m' σ' H')∧tb { D with nx:=N,ct:=N,bk:=D.nx } σ H1 else D.nx σ H1
theorem p9 {c:Expr} {body:List Stmt} {tc:TT} {tb:TS} (hp:PassesOwn (model X.prog X.w) X.A X.env X.xe) (hc:PT X c tc) (hb:PSs X body tb):PS X (.While c body [] pos) (vq tc tb):=by
 (try refine ⟨?_⟩); intro pins s σ H D I h
 obtain ⟨W,⟨m0,w0⟩,turn⟩:=h
 refine wpAny_While (codeAny_whileLoop (fun n s'=>∃ σ' H',Inv X pins σ' H' s'∧W n σ' H') ?_ m0 ⟨σ,H,I,w0⟩)
 rintro n s1 ⟨σ1,H1,I1,w1⟩
 refine wpAny_passesOwn hp (thn (hc pins s1 σ1 H1 _ I1 (turn n σ1 H1 w1)) fun b s2 ⟨H2,I2,q2⟩=>?_)
 cases b with
 | true =>
  obtain ⟨N,hN,q2⟩:=q2
  rw [if_pos rfl]
  refine wpAny_passesOwn hp (thn (hb pins s2 σ1 H2 _ I2 q2) fun f s3 q3=>?_)
  cases f with
  | next =>
   obtain ⟨σ3,H3,I3,n3⟩:=q3
   obtain ⟨m',hm,w3⟩:=hN σ3 H3 n3
   exact ⟨m',hm,σ3,H3,I3,w3⟩
  | cont =>
   obtain ⟨σ3,H3,I3,n3⟩:=q3
   obtain ⟨m',hm,w3⟩:=hN σ3 H3 n3
   exact ⟨m',hm,σ3,H3,I3,w3⟩
  | brk=>exact q3
  | ret v=>exact q3
 | false =>
  rw [if_neg Bool.false_ne_true]
  exact wpAny_execs_nil ⟨σ1,H2,I2,q2⟩
end
structure It where
 go:Nat→Hp→Prop
 yld:Nat→Hp→V→Hp→Prop
 stop:Nat→Hp→Prop
def gC (X:Cx) (pins:List (Addr×Obj)) (H:Hp) (b:Addr):Prop :=
 H b=none∧b≠X.env.locals∧b ∉ X.fs∧(b∈X.ex∨X.s₀.heap.objs.size≤b)∧(∀ x c,X.env.cells.lookup x=some c→c≠b)∧∀ p∈X.pn++pins,p.1≠b
theorem Inv.fpOk {X:Cx} {pins:List (Addr×Obj)} {σ:St} {H H':Hp} {s:Shared} {b:Addr} (I:Inv X pins σ H s) (hb:s.heap.objs.size≤b) (hn:H' b=none):gC X pins H' b:=by
 refine ⟨hn,Nat.ne_of_gt (Nat.lt_of_lt_of_le I.lt hb),I.nofs hb,.inr (Nat.le_trans I.sz hb),fun x c e z=>?_,fun p hp z=>?_⟩
 ·obtain ⟨v,q⟩:=I.cell x c e
  exact absurd (Nat.lt_of_lt_of_le q.lt (by rw [z]; exact hb)) (Nat.lt_irrefl _)
 ·exact absurd (Nat.lt_of_lt_of_le (Heap.lt_size (I.pin p hp).1) (by rw [z]; exact hb)) (Nat.lt_irrefl _)
structure Turn (P:Program) (w:World) (K:PySem.W.Frag) (tg:Expr) (J:It) (fp:List Addr) (it:Addr) (tn:Nat→Heap→Prop):Prop where
 mem:it∈fp
 obj:∀ i h,tn i h→∀ b∈fp,∃ o,h.get? b=some o∧∀ v,o.data≠.cell v
 keep:∀ i h h',tn i h→(∀ b∈fp,∀ o,h.get? b=some o→h'.get? b=some o)→tn i h'
 item:∀ (X:Cx),X.prog=P→X.w=w→X.K=K→X.calm=true→∀ (i:Nat) (pins:List (Addr×Obj)) (s:Shared) (σ:St) (H:Hp) (E:Value→Shared→Prop),Inv X pins σ H s→(∀ b∈fp,gC X pins H b)→tn i s.heap→J.go i H →
  wpAny (model P w) X.A (pyNext (.ref it)) (fun r s1=>∃ u,r=some u ∧
   wpAny (model P w) X.A (letOwnedTupleGo tg (.ref it) u) (fun _ s2=>∃ x H',Inv X pins σ H' s2∧a_ x u∧J.yld i H x H'∧tn (i + 1) s2.heap∧∀ b∈fp,H' b=none) E s1) E s
 done:∀ (X:Cx),X.prog=P→X.w=w→X.K=K→X.calm=true→∀ (i:Nat) (pins:List (Addr×Obj)) (s:Shared) (σ:St) (H:Hp) (E:Value→Shared→Prop),Inv X pins σ H s→(∀ b∈fp,gC X pins H b)→tn i s.heap→J.stop i H →
  wpAny (model P w) X.A (pyNext (.ref it)) (fun r s1=>r=none∧Inv X pins σ H s1) E s
 self:∀ (A:Around) (i:Nat) (s:Shared) (Q:Value→Shared→Prop) (E:Value→Shared→Prop),tn i s.heap→Q (.ref it) s→wpAny (model P w) A (pyIter (.ref it)) Q E s
abbrev TI:=St→Hp→(It→Hp→Prop)→Prop
def PIE (X:Cx) (pins:List (Addr×Obj)) (σ:St) (tg:Expr) (R:It→Hp→Prop) (itv:Value) (s2:Shared):Prop :=
 ∃ (it:Addr) (fp:List Addr) (tn:Nat→Heap→Prop) (J:It) (H':Hp),itv = .ref it∧Inv X pins σ H' s2∧Turn X.prog X.w X.K tg J fp it tn∧tn 0 s2.heap∧(∀ b∈fp,gC X pins H' b)∧R J H'
structure PI (X:Cx) (tg iter:Expr) (wi:TI):Prop where
 go:∀ (pins:List (Addr×Obj)) (s:Shared) (σ:St) (H:Hp) (R:It→Hp→Prop),Inv X pins σ H s→wi σ H R →
  wpAny (model X.prog X.w) X.A (eval iter X.env) (fun v s1=>wpAny (model X.prog X.w) X.A (pyIter v) (PIE X pins σ tg R) X.xe s1) X.xe s
instance {X:Cx} {tg iter:Expr} {wi:TI}:CoeFun (PI X tg iter wi) fun _=>∀ (pins:List (Addr×Obj)) (s:Shared) (σ:St) (H:Hp) (R:It→Hp→Prop),Inv X pins σ H s→wi σ H R →
 wpAny (model X.prog X.w) X.A (eval iter X.env) (fun v s1=>wpAny (model X.prog X.w) X.A (pyIter v) (PIE X pins σ tg R) X.xe s1) X.xe s:=⟨fun h=>h.go⟩
theorem uw {M:Model} {A:Around} {E:Value→Shared→Prop} {s:Shared} {tg:Expr} {it:Addr} {u:Value} {o:Obj} {n:String} {vs:Array Value} {Q:Unit→Shared→Prop} (ho:s.heap.get? it=some o) (hc:o.cls = .type n) (hd:o.data = .fields vs)
 (hn : ["enumerate","zip","dict_itemiterator","dict_reverseitemiterator","odict_iterator","itertools.zip_longest","itertools.pairwise"].contains n=false) (hQ:Q () s):wpAny M A (letOwnedTupleGo tg (.ref it) u) Q E s:=by
 unfold letOwnedTupleGo
 cases tg <;> first
  | exact wpAny_pure hQ
  | (cases u <;> first
   | exact wpAny_pure hQ
   | (refine wpAny_bind (wpAny_load ho ?_)
      rw [hc,hd]
      show wpAny M A (if (["enumerate","zip","dict_itemiterator","dict_reverseitemiterator","odict_iterator","itertools.zip_longest","itertools.pairwise"].contains n&&vs[0]? == some (rawInt _))=true then _ else _) Q E s
      rw [if_neg (by intro h; rw [hn,Bool.false_and] at h; cases h)]
      exact wpAny_pure hQ))
def Itl (K:PySem.W.Frag) (a:Addr):It :=
 ⟨fun i H=>∃ xs x,SqL K H a xs∧xs[i]? = some x,fun i H x H'=>H'=H∧∀ xs,SqL K H a xs→xs[i]? = some x,fun i H=>∃ xs,SqL K H a xs∧xs.length≤i⟩
def Itr (lo:Int) (n:Nat):It:=⟨fun i _=>i<n,fun i H x H'=>H'=H∧x = .int (lo + i),fun i _=>n≤i⟩
theorem nU {P:Program} {w:World} {K:PySem.W.Frag} {tg:Expr} (a it:Addr):Turn P w K tg (Itl K a) [it] it (fun i h=>h.IsListIter it a i) where
 mem:=by simp
 obj:=fun i h st b hb=>by
  have e:b=it:=by simpa using hb
  subst e
  obtain ⟨o,e,c,d⟩:=st
  exact ⟨o,e,fun v z=>by rw [d] at z; cases z⟩
 keep:=fun i h h' st k=>st.at fun o e=>k it (by simp) o e
 item:=by
  intro X hP hw hK hc i pins s σ H E I hf st hg
  subst hP hw hK
  obtain ⟨xs,x,hq,hx⟩:=hg
  obtain ⟨its,rv,p,hz⟩:=I.list hq
  obtain ⟨u,hu,ru⟩:=rv.get hx
  obtain ⟨f0,f1,f2,f3,f4,f5⟩:=hf it (by simp)
  refine wpAny_pyNext_list_item st p.isList (x:=u) (by simpa using hu) fun h' st' sb=>?_
  have I1:Inv X pins σ H { s with heap:=h' }:=I.turned (t':=s.toks) (fun b o hb e=>(sb.2 b hb).trans e) f0 f1 f3 f4 f5
  obtain ⟨o,e,c,d⟩:=id st'
  exact ⟨u,rfl,uw (s:={ s with heap:=h' }) e c d (by decide) ⟨x,H,I1,ru,⟨rfl,fun ys hy=>by rw [I.list_inj hy hq]; exact hx⟩,st',fun b hb=>(hf b hb).1⟩⟩
 done:=by
  intro X hP hw hK hc i pins s σ H E I hf st hg
  subst hP hw hK
  obtain ⟨xs,hq,hx⟩:=hg
  obtain ⟨its,rv,p,hz⟩:=I.list hq
  obtain ⟨f0,f1,f2,f3,f4,f5⟩:=hf it (by simp)
  have hl:=rv.length
  exact wpAny_pyNext_list_end (I.ok.hd hc) st p.isList (by simp; omega) fun h' eb=>⟨rfl,I.turned (t':=s.toks) (fun b o hb e=>eb b o hb e) f0 f1 f3 f4 f5⟩
 self:=fun _ _ _ _ _ st h=>wpAny_pyIter_listiter st h
theorem mI {P:Program} {w:World} {K:PySem.W.Frag} {tg:Expr} (it:Addr) (lo:Int) (n:Nat):Turn P w K tg (Itr lo n) [it] it (fun i h=>IsRangeIter h it (lo + (i:Nat) * 1) ((n:Int) - (i:Nat)) 1) where
 mem:=by simp
 obj:=fun i h st b hb=>by
  have e:b=it:=by simpa using hb
  subst e
  exact ⟨_,st,fun v z=>by
   have z':Data.fields _=Data.cell v:=z
   cases z'⟩
 keep:=fun i h h' st k=>k it (by simp) _ st
 item:=by
  intro X hP hw hK hc i pins s σ H E I hf st hg
  subst hP hw hK
  obtain ⟨f0,f1,f2,f3,f4,f5⟩:=hf it (by simp)
  have W:=Walks.range (prog:=X.prog) (w:=X.w) (I.ok.hd hc) it lo 1 n
  refine W.item i s _ _ hg st fun v h' tk hv st' kk=>?_
  obtain ⟨t,rfl⟩:=hv
  have I1:Inv X pins σ H { s with heap:=h',toks:=tk }:=I.turned (fun b o hb e=>kk b o (by simpa using hb) e) f0 f1 f3 f4 f5
  refine ⟨_,rfl,uw (s:={ s with heap:=h',toks:=tk }) (n:="range_iterator") st' rfl rfl (by decide) ⟨.int (lo + i),H,I1,⟨t,?_⟩,⟨rfl,rfl⟩,st',fun b hb=>(hf b hb).1⟩⟩
  rw [Int.mul_one]
 done:=by
  intro X hP hw hK hc i pins s σ H E I hf st hg
  subst hP hw hK
  obtain ⟨f0,f1,f2,f3,f4,f5⟩:=hf it (by simp)
  exact wpAny_pyNext_range_end (I.ok.hd hc) st (by have:n≤i:=hg; omega) fun h' eb=>⟨rfl,I.turned (t':=s.toks) (fun b o hb e=>eb b o hb e) f0 f1 f3 f4 f5⟩
 self:=fun _ _ _ _ _ st h=>wpAny_pyIter_rangeiter st h
section
variable {X:Cx} {tg:Expr}
def iList (K:PySem.W.Frag) (tl:TE):TI:=fun σ H R=>tl σ H fun x H1=>∃ a,x = .ref a∧(∃ xs,SqL K H1 a xs)∧R (Itl K a) H1
theorem sR {l:Expr} {tl:TE} (hl:PE X l tl):PI X tg l (iList X.K tl):=by
 (try refine ⟨?_⟩); intro pins s σ H R I h
 refine thn (hl pins s σ H _ I h) fun v s1 ⟨x,H1,I1,r1,q1⟩=>?_
 obtain ⟨a,e,⟨xs,hq⟩,q⟩:=q1
 subst e
 cases r1
 obtain ⟨its,rv,p,hz⟩:=I1.list hq
 refine wpAny_pyIter_list p.isList ?_
 refine ⟨s1.heap.objs.size,[s1.heap.objs.size],_,_,H1,rfl,I1.kept (t':=s1.toks) fun b o e=>Heap.get?_push_of_some _ e,nU a _,⟨_,Heap.get?_push_size _ rfl,rfl,rfl⟩,fun b hb=>?_,q⟩
 have e:b=s1.heap.objs.size:=by simpa using hb
 subst e
 exact I1.fpOk (Nat.le_refl _) (I1.hok.fresh (Nat.le_refl _))
theorem lh {pins:List (Addr×Obj)} {σ:St} {H:Hp} {s:Shared} {R:It→Hp→Prop} {E:Value→Shared→Prop} {lo hi:Int} {t u v:Tok} {tk:Nat} (I:Inv X pins σ H s) (h1 : -(2 ^ 62)≤lo) (h2:lo<2 ^ 62) (h3 : -(2 ^ 62)≤hi) (h4:hi<2 ^ 62)
 (q:R (Itr lo (hi - lo).toNat) H):wpAny (model X.prog X.w) X.A (pyIter (.ref s.heap.objs.size)) (PIE X pins σ tg R) E { s with heap:=s.heap.push { cls:=.type "range",data:=.fields #[.int lo t,.int hi u,.int 1 v] },toks:=tk }:=by
 refine wpAny_pyIter_range (IsRange.new ..) (small_one h1 h2 h3 h4) ?_
 have I1:Inv X pins σ H { s with heap:=s.heap.push { cls:=.type "range",data:=.fields #[.int lo t,.int hi u,.int 1 v] },toks:=tk }:=I.kept fun b o e=>Heap.get?_push_of_some _ e
 refine ⟨(s.heap.push { cls:=.type "range",data:=.fields #[.int lo t,.int hi u,.int 1 v] }).objs.size,[(s.heap.push { cls:=.type "range",data:=.fields #[.int lo t,.int hi u,.int 1 v] }).objs.size],_,_,H,rfl,
  I1.kept (t':=tk) fun b o e=>Heap.get?_push_of_some _ e,mI _ lo (hi - lo).toNat,?_,fun b hb=>?_,q⟩
 ·have e1:lo + ((0:Nat):Int) * 1=lo:=by simp
  have e2:(((hi - lo).toNat:Nat):Int) - ((0:Nat):Int)=Builtin.Range.rangeSize lo hi 1:=by rw [rangeSize_one]; split <;> omega
  show IsRangeIter _ _ (lo + ((0:Nat):Int) * 1) ((((hi - lo).toNat:Nat):Int) - ((0:Nat):Int)) 1
  rw [e1,e2]
  exact Heap.get?_push_size _ rfl
 ·have e:b=(s.heap.push { cls:=.type "range",data:=.fields #[.int lo t,.int hi u,.int 1 v] }).objs.size:=by simpa using hb
  subst e
  exact I1.fpOk (Nat.le_refl _) (I1.hok.fresh (Nat.le_refl _))
def iRng1 (ta:TA):TI:=fun σ H R=>ta σ H fun vs H1=>∃ j:Int,vs=[.int j]∧-(2 ^ 62)≤j∧j<2 ^ 62∧R (Itr 0 j.toNat) H1
def iRng2 (ta:TA):TI:=fun σ H R=>ta σ H fun vs H1=>∃ i j:Int,vs=[.int i,.int j]∧(-(2 ^ 62)≤i∧i<2 ^ 62∧-(2 ^ 62)≤j∧j<2 ^ 62)∧R (Itr i (j - i).toNat) H1
theorem oC {a:Expr} {ta:TA} {p pos:Pos} (hg:Gl X "range") (hm:X.mg "range" = none) (ha:PA X [a] ta) (hs:starEach [a] X.env=[(false,eval a X.env)]:=by rfl):PI X tg (.Call (.Name "range" p) [a] [] pos) (iRng1 ta):=by
 (try refine ⟨?_⟩); intro pins s σ H R I h
 refine Call_ (gK I hg hm boot_range (PyProof.Rows.callWith_type1 (thn (ha pos pins s σ H _ I h) fun us s1 ⟨vs,H1,I1,r1,q1⟩=>?_) hs rfl))
 obtain ⟨j,e,q1,q2,q⟩:=q1
 subst e
 cases r1 with
 | cons r rr =>
  cases rr
  obtain ⟨t,rfl⟩:=r
  exact call_range_1 (lh I1 (by omega) (by omega) q1 q2 (by simpa using q))
theorem nX {a b:Expr} {ta:TA} {p pos:Pos} (hg:Gl X "range") (hm:X.mg "range" = none) (ha:PA X [a,b] ta) (hs:starEach [a,b] X.env=[(false,eval a X.env),(false,eval b X.env)]:=by rfl) (hs2:starEach [b] X.env=[(false,eval b X.env)]:=by rfl) :
 PI X tg (.Call (.Name "range" p) [a,b] [] pos) (iRng2 ta):=by
 (try refine ⟨?_⟩); intro pins s σ H R I h
 refine Call_ (gK I hg hm boot_range (PyProof.Rows.callWith_type1 (thn (ha pos pins s σ H _ I h) fun us s1 ⟨vs,H1,I1,r1,q1⟩=>?_) (by rw [hs,hs2]) (by rw [hs2]; rfl)))
 obtain ⟨i,j,e,⟨q1,q2,q3,q4⟩,q⟩:=q1
 subst e
 cases r1 with
 | cons r rr =>
  cases rr with
  | cons r' rr =>
   cases rr
   obtain ⟨t,rfl⟩:=r
   obtain ⟨t',rfl⟩:=r'
   exact call_range_2 (lh I1 q1 q2 q3 q4 q)
def tFor (wi:TI) (g:TG) (tb:TS):TS:=fun D σ H=>wi σ H fun J H1=>∃ W:Nat→Nat→St→Hp→Prop,(∃ m,W 0 m σ H1)∧∀ i m σ H,W i m σ H →
 (J.stop i H∧D.nx σ H)∨(J.go i H∧∃ N:St→Hp→Prop,(∀ σ' H',N σ' H'→∃ m',m'<m∧W (i + 1) m' σ' H')∧∀ x H',J.yld i H x H'→g x σ H' fun σ2 H2=>tb { D with nx:=N,ct:=N,bk:=D.nx } σ2 H2)
def iE (fp:List Addr) (h:Heap):List (Addr×Obj):=fp.filterMap fun b=>(h.get? b).map fun o=>(b,o)
theorem cJ {fp:List Addr} {h:Heap} {b:Addr} {o:Obj} (hb:b∈fp) (e:h.get? b=some o):(b,o)∈iE fp h:=List.mem_filterMap.mpr ⟨b,hb,by rw [e]; rfl⟩
theorem jG {fp:List Addr} {h:Heap} {p:Addr×Obj} (hp:p∈iE fp h):p.1∈fp∧h.get? p.1=some p.2:=by
 obtain ⟨b,hb,e⟩:=List.mem_filterMap.mp hp
 cases q:h.get? b with
 | none=>rw [q] at e; cases e
 | some o =>
  rw [q] at e
  have e':(b,o)=p:=Option.some.inj e
  subst e'
  exact ⟨hb,q⟩
theorem Inv.pinned {pins:List (Addr×Obj)} {σ:St} {H:Hp} {s:Shared} {fp:List Addr} (I:Inv X pins σ H s) (hf:∀ b∈fp,gC X pins H b) (ho:∀ b∈fp,∃ o,s.heap.get? b=some o∧∀ v,o.data≠.cell v):Inv X (pins++iE fp s.heap) σ H s :=
 I.pins_of fun p hp=>(List.mem_append.mp hp).elim (fun z=>I.pin p (List.mem_append_right _ z)) fun z=>by
  obtain ⟨hb,e⟩:=jG z
  obtain ⟨f0,f1,f2,_⟩:=hf p.1 hb
  obtain ⟨o,e',d⟩:=ho p.1 hb
  rw [e] at e'; cases e'
  exact ⟨e,f0,f1,f2,d⟩
theorem Inv.unpinned {pins pl:List (Addr×Obj)} {σ:St} {H:Hp} {s:Shared} (I:Inv X (pins++pl) σ H s):Inv X pins σ H s:=I.pins_of fun p hp=>I.pin p (List.mem_append_right _ (List.mem_append_left _ hp))
theorem qX {iter:Expr} {body:List Stmt} {wi:TI} {g:TG} {tb:TS} {pos:Pos} (hp:PassesOwn (model X.prog X.w) X.A X.env X.xe) (hc:X.calm=true) (hi:PI X tg iter wi) (hg:PG X tg g) (hb:PSs X body tb)
 (hs:∀ x,foldedSetIterable iter X.env x=pure x:=by intro _; rfl):PS X (.For tg iter body [] pos) (tFor wi g tb):=by
 (try refine ⟨?_⟩); intro pins s σ H D I h
 refine wpAny_For (thn (hi pins s σ H _ I h) fun v s1 h1=>thn h1 fun itv s2 h2=>?_) hs
 obtain ⟨it,fp,tn,J,H2,e,I2,T,st2,f2,W,⟨m0,w0⟩,turn⟩:=h2
 subst e
 -- what stays true of the iterator's objects through the loop
 have stat:∀ {H':Hp},(∀ b∈fp,H' b=none)→∀ b∈fp,gC X pins H' b:=fun hn b hb=>⟨hn b hb,(f2 b hb).2⟩
 refine codeAny_forLoop_any (fun n s'=>∃ i σ' H',Inv X pins σ' H' s'∧tn i s'.heap∧(∀ b∈fp,H' b=none)∧W i n σ' H') ?_ m0 ⟨0,σ,H2,I2,st2,fun b hb=>(f2 b hb).1,w0⟩
 rintro n s3 ⟨i,σ3,H3,I3,st3,fr3,w3⟩
 rcases turn i n σ3 H3 w3 with ⟨stop,qn⟩ | ⟨go,N,hN,step⟩
 ·refine wpAny_passesOwn hp (thn (T.done X rfl rfl rfl hc i pins s3 σ3 H3 X.xe I3 (stat fr3) st3 stop) fun r s4 ⟨hr,I4⟩=>?_)
  subst hr
  exact wpAny_execs_nil ⟨σ3,H3,I4,qn⟩
 ·refine wpAny_passesOwn hp (thn (T.item X rfl rfl rfl hc i pins s3 σ3 H3 X.xe I3 (stat fr3) st3 go) fun r s4 ⟨u,hr,h4⟩=>?_)
  subst hr
  refine wpAny_passesOwn hp (thn h4 fun _ s5 ⟨x,H5,I5,r5,y5,st5,fr5⟩=>?_)
  have I5':=I5.pinned (stat fr5) (T.obj _ _ st5)
  refine wpAny_passesOwn hp (thn (hg _ s5 σ3 H5 x u _ I5' r5 (step x H5 y5)) fun _ s6 ⟨σ6,H6,I6,q6⟩=>?_)
  refine wpAny_passesOwn hp (thn (hb _ s6 σ6 H6 _ I6 q6) fun f s7 q7=>?_)
  have again:∀ {σ7:St} {H7:Hp},Inv X (pins++iE fp s5.heap) σ7 H7 s7→N σ7 H7→∃ m,m<n∧∃ i σ' H',Inv X pins σ' H' s7∧tn i s7.heap∧(∀ b∈fp,H' b=none)∧W i m σ' H':=fun {σ7 H7} I7 n7=>by
   obtain ⟨m',hm,w7⟩:=hN σ7 H7 n7
   refine ⟨m',hm,i + 1,σ7,H7,I7.unpinned,T.keep _ _ _ st5 fun b hb o e=>(I7.pin (b,o) (List.mem_append_right _ (List.mem_append_right _ (cJ hb e)))).1,fun b hb=>?_,w7⟩
   obtain ⟨o,e,d⟩:=T.obj _ _ st5 b hb
   exact (I7.pin (b,o) (List.mem_append_right _ (List.mem_append_right _ (cJ hb e)))).2.1
  cases f with
  | next=>obtain ⟨σ7,H7,I7,n7⟩:=q7; exact again I7 n7
  | cont=>obtain ⟨σ7,H7,I7,n7⟩:=q7; exact again I7 n7
  | brk=>obtain ⟨σ7,H7,I7,q7⟩:=q7; exact ⟨σ7,H7,I7.unpinned,q7⟩
  | ret v=>obtain ⟨x7,σ7,H7,I7,r7,q7⟩:=q7; exact ⟨x7,σ7,H7,I7.unpinned,r7,q7⟩
end
abbrev R2:=V→V→Hp→VK→Prop
def OpR (X:Cx) (f:Value→Value→Sem Value) (r:R2):Prop :=
 ∀ (pins:List (Addr×Obj)) (s:Shared) (σ:St) (H:Hp) (x y:V) (v u:Value) (Q:VK),Inv X pins σ H s→a_ x v→a_ y u→r x y H Q →
  wpAny (model X.prog X.w) X.A (f v u) (EP X pins σ Q) X.xe s
def UnR (X:Cx) (f:Value→Sem Value) (r:V→Hp→VK→Prop):Prop :=
 ∀ (pins:List (Addr×Obj)) (s:Shared) (σ:St) (H:Hp) (x:V) (v:Value) (Q:VK),Inv X pins σ H s→a_ x v→r x H Q →
  wpAny (model X.prog X.w) X.A (f v) (EP X pins σ Q) X.xe s
def cF (X:Cx) (f:Value) (r:List V→Hp→VK→Prop):Prop :=
 ∀ (pins:List (Addr×Obj)) (s:Shared) (σ:St) (H:Hp) (xs:List V) (us:List Value) (Q:VK),Inv X pins σ H s→aV xs us→r xs H Q →
  wpAny (model X.prog X.w) X.A (call f us) (EP X pins σ Q) X.xe s
def tOp (r:R2) (ta tb:TE):TE:=fun σ H Q=>ta σ H fun x H1=>tb σ H1 fun y H2=>r x y H2 Q
def tUn (r:V→Hp→VK→Prop) (ta:TE):TE:=fun σ H Q=>ta σ H fun x H1=>r x H1 Q
def rI (C:Int→Int→Prop) (g:Int→Int→V):R2:=fun x y H Q=>∃ i j,x = .int i∧y = .int j∧C i j∧Q (g i j) H
def rI0 (g:Int→Int→V):R2:=fun x y H Q=>∃ i j,x = .int i∧y = .int j∧Q (g i j) H
def rU (g:Int→V):V→Hp→VK→Prop:=fun x H Q=>∃ i,x = .int i∧Q (g i) H
section
variable {X:Cx} {a b c:Expr} {ta tb tc:TE} {pos:Pos}
theorem binT (ha:PE X a ta) (hb:PE X b tb) {pins:List (Addr×Obj)} {s:Shared} {σ:St} {H:Hp} {R:V→V→Hp→Prop} (I:Inv X pins σ H s)
 (h:ta σ H fun x H1=>tb σ H1 fun y H2=>R x y H2) {Q:Value→Shared→Prop} {f:Value→Value→Sem Value}
 (hf:∀ v u s2 x y H2,Inv X pins σ H2 s2→a_ x v→a_ y u→R x y H2→wpAny (model X.prog X.w) X.A (f v u) Q X.xe s2) :
 wpAny (model X.prog X.w) X.A (eval a X.env) (fun v s₁=>wpAny (model X.prog X.w) X.A (eval b X.env) (fun u s₂=>wpAny (model X.prog X.w) X.A (f v u) Q X.xe s₂) X.xe s₁) X.xe s:=by
 refine thn (ha pins s σ H _ I h) fun v s1 ⟨x,H1,I1,r1,q1⟩=>?_
 refine thn (hb pins s1 σ H1 _ I1 q1) fun u s2 ⟨y,H2,I2,r2,q2⟩=>?_
 exact hf v u s2 x y H2 I2 r1 r2 q2
theorem ql {op:Operator} {r:R2} (ho:OpR X (binaryOp op) r) (ha:PE X a ta) (hb:PE X b tb):PE X (.BinOp a op b pos) (tOp r ta tb):=by
 (try refine ⟨?_⟩); intro pins s σ H Q I h
 exact wpAny_BinOp (binT ha hb I h fun v u s2 x y H2 I2 rx ry q=>ho pins s2 σ H2 x y v u Q I2 rx ry q)
theorem pe_un {op:UnaryOp} {r:V→Hp→VK→Prop} (ho:UnR X (unaryOp op) r) (ha:PE X a ta):PE X (.UnaryOp op a pos) (tUn r ta):=by
 (try refine ⟨?_⟩); intro pins s σ H Q I h
 exact UnaryOp_ (thn (ha pins s σ H _ I h) fun v s1 ⟨x,H1,I1,r1,q1⟩=>ho pins s1 σ H1 x v Q I1 r1 q1)
theorem opI {f:Value→Value→Sem Value} {C:Int→Int→Prop} {g:Int→Int→Int}
 (rule:∀ (i j:Int) (t u:Tok) (s:Shared) (Q:Value→Shared→Prop) (E:Value→Shared→Prop),C i j→Q (.int (g i j) s.toks) { s with toks:=s.toks + 1 }→wpAny (model X.prog X.w) X.A (f (.int i t) (.int j u)) Q E s) :
 OpR X f (rI C fun i j=>.int (g i j)):=by
 (try refine ⟨?_⟩); intro pins s σ H x y v u Q I rx ry h
 obtain ⟨i,j,rfl,rfl,hc,q⟩:=h
 obtain ⟨t,rfl⟩:=rx
 obtain ⟨t',rfl⟩:=ry
 exact rule i j t t' s _ _ hc ⟨.int (g i j),H,I.tok _,⟨_,rfl⟩,q⟩
theorem opI0 {f:Value→Value→Sem Value} {g:Int→Int→Int}
 (rule:∀ (i j:Int) (t u:Tok) (s:Shared) (Q:Value→Shared→Prop) (E:Value→Shared→Prop),Q (.int (g i j) s.toks) { s with toks:=s.toks + 1 }→wpAny (model X.prog X.w) X.A (f (.int i t) (.int j u)) Q E s) :
 OpR X f (rI0 fun i j=>.int (g i j)):=by
 (try refine ⟨?_⟩); intro pins s σ H x y v u Q I rx ry h
 obtain ⟨i,j,rfl,rfl,q⟩:=h
 obtain ⟨t,rfl⟩:=rx
 obtain ⟨t',rfl⟩:=ry
 exact rule i j t t' s _ _ ⟨.int (g i j),H,I.tok _,⟨_,rfl⟩,q⟩
theorem opB0 {f:Value→Value→Sem Value} {g:Int→Int→Bool}
 (rule:∀ (i j:Int) (t u:Tok) (s:Shared) (Q:Value→Shared→Prop) (E:Value→Shared→Prop),Q (.bool (g i j)) s→wpAny (model X.prog X.w) X.A (f (.int i t) (.int j u)) Q E s) :
 OpR X f (rI0 fun i j=>.bl (g i j)):=by
 (try refine ⟨?_⟩); intro pins s σ H x y v u Q I rx ry h
 obtain ⟨i,j,rfl,rfl,q⟩:=h
 obtain ⟨t,rfl⟩:=rx
 obtain ⟨t',rfl⟩:=ry
 exact rule i j t t' s _ _ ⟨.bl (g i j),H,I,rfl,q⟩
def CDiv (i j:Int):Prop:=0<j∧j<1073741824
def CPow (i j:Int):Prop:=0≤j∧j≤1000000∧i.natAbs<2 ^ 64
def CMul (i j:Int):Prop:=(-(2 ^ 64)<i∧i<2 ^ 64)∨(-(2 ^ 64)<j∧j<2 ^ 64)
theorem CMul.ok {i j:Int} (h:CMul i j):IntMulOk i j:=by
 rcases h with ⟨h1,h2⟩ | ⟨h1,h2⟩
 ·exact .of_left (intBits_le_64 h1 h2)
 ·exact .of_right (intBits_le_64 h1 h2)
theorem bx:OpR X (binaryOp .Add) (rI0 fun i j=>.int (i + j)):=opI0 fun _ _ _ _ _ _ _ q=>add_int q
theorem bW:OpR X (binaryOp .Sub) (rI0 fun i j=>.int (i - j)):=opI0 fun _ _ _ _ _ _ _ q=>sub_int q
theorem dM:OpR X (binaryOp .Mult) (rI CMul fun i j=>.int (i * j)):=opI fun _ _ _ _ _ _ _ hc q=>mul_int q hc.ok
theorem ny:OpR X (binaryOp .FloorDiv) (rI CDiv fun i j=>.int (i / j)):=opI fun i j _ _ _ _ _ hc q=>by
 have h1:(0:Int)<j:=hc.1
 have h2:j<1073741824:=hc.2
 exact floordiv_int (by omega) (by rw [Int.fdiv_eq_ediv_of_nonneg i (by omega)]; exact q) (.inl (PyProof.noPylong_small (by omega)))
theorem di:OpR X (binaryOp .Mod) (rI (fun _ j=>0<j) fun i j=>.int (i % j)):=opI fun i j _ _ _ _ _ hc q=>by
 have h1:(0:Int)<j:=hc
 exact mod_int' (by omega) (by rw [Int.fmod_eq_emod_of_nonneg i (by omega)]; exact q)
theorem gI:OpR X (binaryOp .Pow) (rI CPow fun i j=>.int (i ^ j.toNat)):=opI fun _ _ _ _ _ _ _ hc q=>pow_int_small hc.1 hc.2.1 hc.2.2 q
theorem unI {f:Value→Sem Value} {g:Int→Int}
 (rule:∀ (i:Int) (t:Tok) (s:Shared) (Q:Value→Shared→Prop) (E:Value→Shared→Prop),Q (.int (g i) s.toks) { s with toks:=s.toks + 1 }→wpAny (model X.prog X.w) X.A (f (.int i t)) Q E s) :
 UnR X f (rU fun i=>.int (g i)):=by
 (try refine ⟨?_⟩); intro pins s σ H x v Q I rx h
 obtain ⟨i,rfl,q⟩:=h
 obtain ⟨t,rfl⟩:=rx
 exact rule i t s _ _ ⟨.int (g i),H,I.tok _,⟨_,rfl⟩,q⟩
theorem vv:UnR X (unaryOp .USub) (rU fun i=>.int (-i)):=unI fun _ _ _ _ _ q=>neg_int q
end
section
variable {X:Cx} {a b c:Expr} {ta tb tc:TE} {pos:Pos}
theorem vn {pins:List (Addr×Obj)} {σ:St} {H:Hp} {s:Shared} {Q:VK} {k k':Bool} (I:Inv X pins σ H s) (q:Q (.bl k) H) (e:k=k'):EP X pins σ Q (.bool k') s:=by
 subst e
 exact ⟨.bl k,H,I,rfl,q⟩
theorem nK:OpR X (compareOp .Lt) (rI0 fun i j=>.bl (decide (i<j))):=opB0 fun _ _ _ _ _ _ _ q=>lt_int q
theorem m9:OpR X (compareOp .LtE) (rI0 fun i j=>.bl (decide (i≤j))):=opB0 fun _ _ _ _ _ _ _ q=>le_int q
theorem gZ:OpR X (compareOp .Gt) (rI0 fun i j=>.bl (decide (j<i))):=opB0 fun _ _ _ _ _ _ _ q=>gt_int q
theorem uQ:OpR X (compareOp .GtE) (rI0 fun i j=>.bl (decide (j≤i))):=opB0 fun _ _ _ _ _ _ _ q=>ge_int q
theorem wN:OpR X (compareOp .Is) (fun x y H Q=>y = .non∧Q (.bl (decide (x = .non))) H):=by
 (try refine ⟨?_⟩); intro pins s σ H x y v u Q I rx ry h
 obtain ⟨rfl,q⟩:=h
 cases ry
 refine is_none_gen (vn I q ?_)
 cases x <;> first
  | (cases rx; rfl)
  | (obtain ⟨t,rfl⟩:=rx; rfl)
theorem aR (b:Expr) {op:CmpOp} (h:op≠.In:=by decide) (h2:op≠.NotIn:=by decide):behindInMarks op b=false:=by
 have e1:(op == CmpOp.In)=false:=by cases op <;> first | rfl | exact absurd rfl h
 have e2:(op == CmpOp.NotIn)=false:=by cases op <;> first | rfl | exact absurd rfl h2
 cases b <;> simp [behindInMarks,e1,e2]
theorem sI {op:CmpOp} {r:R2} (ho:OpR X (compareOp op) r) (ha:PE X a ta) (hb:PE X b tb) (hm:behindInMarks op b=false):PE X (.Compare a [op] [b] pos) (tOp r ta tb):=by
 (try refine ⟨?_⟩); intro pins s σ H Q I h
 exact wpAny_Compare1 (binT ha hb I h fun v u s2 x y H2 I2 rx ry q=>ho pins s2 σ H2 x y v u Q I2 rx ry q) hm
def uG (t:TE):TT:=fun σ H Q=>t σ H fun x H'=>∃ k,x = .bl k∧Q k H'
theorem t6 {op:CmpOp} {r:R2} (ho:OpR X (compareOp op) r) (ha:PE X a ta) (hb:PE X b tb) (hm:behindInMarks op b=false):PT X (.Compare a [op] [b] pos) (uG (tOp r ta tb)):=by
 (try refine ⟨?_⟩); intro pins s σ H Q I h
 refine wpAny_isTrue_Compare1 (thn (ha pins s σ H _ I h) fun v s1 ⟨x,H1,I1,r1,q1⟩=>thn (hb pins s1 σ H1 _ I1 q1) fun u s2 ⟨y,H2,I2,r2,q2⟩ =>
  thn (ho pins s2 σ H2 x y v u _ I2 r1 r2 q2) fun c s3 ⟨z,H3,I3,r3,k,e,q3⟩=>?_) hm
 subst e
 cases r3
 exact wpAny_truthy_bool ⟨H3,I3,q3⟩
def q_ (r r':R2) (ta tb tc:TE):TE:=fun σ H Q=>ta σ H fun x H1=>tb σ H1 fun y H2=>r x y H2 fun z H3=>∃ k,z = .bl k ∧
 (if k=true then tc σ H3 fun w' H4=>r' y w' H4 Q else Q (.bl false) H3)
theorem rF {op op':CmpOp} {r r':R2} (ho:OpR X (compareOp op) r) (ho':OpR X (compareOp op') r') (ha:PE X a ta) (hb:PE X b tb) (hc:PE X c tc)
 (hm:lastMarks [op,op'] [b,c]=false:=by with_unfolding_all rfl):PE X (.Compare a [op,op'] [b,c] pos) (q_ r r' ta tb tc):=by
 (try refine ⟨?_⟩); intro pins s σ H Q I h
 refine Compare_chain (thn (ha pins s σ H _ I h) fun v s1 ⟨x,H1,I1,r1,q1⟩=>chain_link (thn (hb pins s1 σ H1 _ I1 q1) fun u s2 ⟨y,H2,I2,r2,q2⟩ =>
  thn (ho pins s2 σ H2 x y v u _ I2 r1 r2 q2) fun d s3 ⟨z,H3,I3,r3,k,e,q3⟩=>?_)) hm
 subst e
 cases r3
 refine wpAny_truthy_bool ?_
 cases k with
 | false=>exact ite_ff ⟨.bl false,H3,I3,rfl,q3⟩
 | true=>exact ite_tt (chain_last (thn (hc pins s3 σ H3 _ I3 q3) fun w' s4 ⟨z',H4,I4,r4,q4⟩=>ho' pins s4 σ H4 y z' u w' Q I4 r2 r4 q4))
theorem iP:(sizeLine:Nat)<2 ^ 63:=by rw [sizeLine_eq]; decide
theorem f8 {x:V} {us:List Value} (r:aV [x] us):∃ u,us=[u]∧a_ x u:=by
 cases r with
 | cons r1 r2=>cases r2; exact ⟨_,rfl,r1⟩
theorem lw {x y:V} {us:List Value} (r:aV [x,y] us):∃ u w',us=[u,w']∧a_ x u∧a_ y w':=by
 cases r with
 | cons r1 r2 =>
  cases r2 with
  | cons r3 r4=>cases r4; exact ⟨_,_,rfl,r1,r3⟩
theorem qW:cF X (.builtin "abs") (fun xs H Q=>∃ i,xs=[.int i]∧Q (.int (if i<0 then -i else i)) H):=by
 (try refine ⟨?_⟩); intro pins s σ H xs us Q I r h
 obtain ⟨i,rfl,q⟩:=h
 obtain ⟨u,rfl,t,rfl⟩:=f8 r
 exact call_abs_int fun u tk=>⟨.int (if i<0 then -i else i),H,I.tok _,⟨_,rfl⟩,q⟩
theorem fz (hc:X.calm=true):cF X (.builtin "max") (fun xs H Q=>∃ i j,xs=[.int i,.int j]∧Q (.int (if j > i then j else i)) H):=by
 (try refine ⟨?_⟩); intro pins s σ H xs us Q I r h
 obtain ⟨i,j,rfl,q⟩:=h
 obtain ⟨u,w',rfl,⟨t,rfl⟩,⟨t',rfl⟩⟩:=lw r
 refine max_two_ints (I.ok.hd hc) fun h' tk k=>⟨_,H,I.kept k,?_,q⟩
 by_cases hj:j > i
 ·rw [if_pos hj,if_pos hj]; exact ⟨_,rfl⟩
 ·rw [if_neg hj,if_neg hj]; exact ⟨_,rfl⟩
theorem gF (hc:X.calm=true):cF X (.builtin "min") (fun xs H Q=>∃ i j,xs=[.int i,.int j]∧Q (.int (if j<i then j else i)) H):=by
 (try refine ⟨?_⟩); intro pins s σ H xs us Q I r h
 obtain ⟨i,j,rfl,q⟩:=h
 obtain ⟨u,w',rfl,⟨t,rfl⟩,⟨t',rfl⟩⟩:=lw r
 refine min_two_ints (I.ok.hd hc) fun h' tk k=>⟨_,H,I.kept k,?_,q⟩
 by_cases hj:j<i
 ·rw [if_pos hj,if_pos hj]; exact ⟨_,rfl⟩
 ·rw [if_neg hj,if_neg hj]; exact ⟨_,rfl⟩
theorem dX:cF X (.type "int") (fun xs H Q=>(∃ i,xs=[.int i]∧Q (.int i) H)∨∃ k,xs=[.bl k]∧Q (.int (if k then 1 else 0)) H):=by
 (try refine ⟨?_⟩); intro pins s σ H xs us Q I r h
 rcases h with ⟨i,rfl,q⟩ | ⟨k,rfl,q⟩
 ·obtain ⟨u,rfl,t,rfl⟩:=f8 r
  exact call_int_int ⟨.int i,H,I,⟨_,rfl⟩,q⟩
 ·obtain ⟨u,rfl,r1⟩:=f8 r
  cases r1
  exact call_int_bool ⟨.int (if k then 1 else 0),H,I.tok _,⟨_,rfl⟩,q⟩
end
structure ObjM (h:Heap) (x dx C:Addr) (mA:Str→Option Value):Prop where
 obj:h.get? x=some (PySem.W.instObj C dx)
 ns:h.Ns1 dx mA
 ne:dx≠x
theorem jJ {h:Heap} {dx:Addr} {mA:Str→Option Value} (n:h.Ns1 dx mA):∃ od,h.get? dx=some od∧∀ name,PySem.W.lookIn name od=some (mA name):=by
 obtain ⟨o,es,ep,ho,hd,hk,_,hm⟩:=n
 refine ⟨o,ho,fun name=>?_⟩
 have e:=hm name
 unfold nsFind findBy at e
 rw [← Array.find?_toList] at e
 unfold PySem.W.lookIn
 rw [hd]
 dsimp only
 split
 ·rename_i y q
  rw [q] at e
  exact congrArg some e
 ·rename_i q
  rw [q] at e
  have a:es.toList.any (·.refKey)=false:=by
   rw [List.any_eq_false]
   intro y hy
   obtain ⟨z,t,hkey⟩:=hk y (Array.mem_toList_iff.mp hy)
   simp [DictEntry.refKey,hkey]
  have a' : ¬ es.toList.any (·.refKey)=true:=by rw [a]; exact Bool.false_ne_true
  rw [if_neg a']
  exact congrArg some e
theorem ObjM.look {h:Heap} {x dx C:Addr} {mA:Str→Option Value} (I:ObjM h x dx C mA):∃ od,PySem.W.InstAt h x (PySem.W.instObj C dx) C (some od)∧∀ name,PySem.W.lookIn name od=some (mA name) :=
 let ⟨od,ho,hl⟩:=jJ I.ns
 ⟨od,⟨I.obj,rfl,rfl,ho⟩,hl⟩
section
variable {prog:Program} {w:World} {A:Around} {E:Value→Shared→Prop} {s:Shared} {K:PySem.W.Frag} {x dx C f:Addr} {mA:Str→Option Value} {name:Str} {v:Value}
end
theorem ou.some_of {v:V} {o:Option Value} (r:ou (some v) o):∃ u,o=some u∧a_ v u:=by
 cases o with
 | none=>exact (show False from r).elim
 | some u=>exact ⟨u,rfl,r⟩
theorem o3 {v:V} {u:Value} (r:a_ v u):PySem.W.handedIn u=true:=by
 cases v with
 | non=>cases (show u=Value.none from r); rfl
 | bl b=>cases (show u=Value.bool b from r); rfl
 | int i=>obtain ⟨t,e⟩:=(show ∃ t,u=Value.int i t from r); cases e; rfl
 | str x=>obtain ⟨t,e⟩:=(show ∃ t,u=Value.str x t from r); cases e; rfl
 | byt b=>obtain ⟨t,e⟩:=(show ∃ t,u=Value.bytes b t from r); cases e; rfl
 | flt b=>obtain ⟨t,e⟩:=(show ∃ t,u=Value.float b t from r); cases e; rfl
 | ref a=>cases (show u=Value.ref a from r); rfl
 | ty n=>cases (show u=Value.type n from r); rfl
section
variable {P:Program} {w:World} {H H':Hp} {h h':Heap} {a C dx:Addr} {fs fs':List (Str×V)}
theorem sA (hok:HOk P w H h) (e:H a=some (.ins C dx fs)):∃ mA,ObjM h a dx C mA∧(∀ f,ou (fs.lookup f) (mA f))∧PySem.Within mA (fs.map (·.1))∧fs.length≤1000∧H dx=some (.own a):=by
 obtain ⟨d,z,ne,ob,mA,n,r,q⟩:=(show a5 P w H h a (.ins C dx fs) from hok a _ e)
 exact ⟨mA,⟨ob,n,ne⟩,r,q,z,d⟩
end
structure Cls (K:PySem.W.Frag) (C:Addr):Prop where
 pg:PySem.W.plainGet K C Str.empty=true
 hd:PySem.W.hasDictIn K C=true
 po:PySem.W.plainOver K C=true
 sa:PySem.W.findIn K (.ref C) "__setattr__" = some (some (.builtin "object.__setattr__"))
theorem Cls.get {K:PySem.W.Frag} {C:Addr} (c:Cls K C) (f:Str):PySem.W.plainGet K C f=true:=c.pg
section
variable {X:Cx} {pins:List (Addr×Obj)} {σ:St} {H:Hp} {s:Shared} {a C dx:Addr} {fs:List (Str×V)} {f:Str} {v:V} {A:Around} {E:Value→Shared→Prop}
theorem t5 {prog:Program} {w:World} {env:Env} {e:Expr} {f:Str} {pos:Pos} {s:Shared} {Q:Value→Shared→Prop} (hb:attributeBase e f env (eval e env)=eval e env)
 (h:wpAny (model prog w) A (eval e env) (fun o s₁=>wpAny (model prog w) A (getAttr o f true) Q E s₁) E s):wpAny (model prog w) A (eval (.Attribute e f pos) env) Q E s :=
 Attribute_any_ h (by rw [arm_eval_Attribute,hb])
end
section
variable {X:Cx} {o e value:Expr} {f:Str} {pos pos' tpos:Pos} {ta tv:TE}
end
section
variable {X:Cx} {pins:List (Addr×Obj)} {σ:St} {H:Hp} {s:Shared} {A:Around} {E:Value→Shared→Prop} {Q:Value→Shared→Prop} {c:Value} {b:Bool}
inductive TyOf (K:PySem.W.Frag) (H:Hp):V→Value→Prop where
 | non:TyOf K H .non (.type "NoneType")
 | bl (x:Bool):TyOf K H (.bl x) (.type "bool")
 | int (i:Int):TyOf K H (.int i) (.type "int")
 | str (x:Str):TyOf K H (.str x) (.type "str")
 | flt (x:UInt64):TyOf K H (.flt x) (.type "float")
 | lst {a:Addr} {xs:List V} (e:H a=some (.lst xs)):TyOf K H (.ref a) (.type "list")
 | frz {a:Addr} {o:Obj} {xs:List V} (e:H a=some (.frz o (.lst xs))):TyOf K H (.ref a) (.type "list")
 | tup {a:Addr} {xs:List V} (e:H a=some (.tup xs)):TyOf K H (.ref a) (.type "tuple")
 | dK {a:Addr} {kvs:List (Key×V)} (e:H a=some (.dK kvs)):TyOf K H (.ref a) (.type "dict")
 | dT {a:Addr} {kvs:List (List Key×V)} (e:H a=some (.dT kvs)):TyOf K H (.ref a) (.type "dict")
 | ins {a C dx:Addr} {fs:List (Str×V)} (e:H a=some (.ins C dx fs)) (cl:Cls K C) (ha:PySem.W.findIn K (.ref C) "__class__" = some (some (.builtin "object.__class__")))
  (hn:PySem.W.specialIn K (.builtin "object.__class__") "__get__" = some (some (.builtin "getset_descriptor.__get__"))) (htk:PySem.W.takesIn K (.builtin "object.__class__")=some true)
  (hm:PySem.W.mroIn K C (.type "object")=some true):TyOf K H (.ref a) (.ref C)
theorem jM {x:V} {u t:Value} (I:Inv X pins σ H s) (rx:a_ x u) (ty:TyOf X.K H x t) (e:PySem.W.kitOne X.K t c=some b) (h:∀ tk,Q (.bool b) { s with toks:=tk }) :
 wpAny (model X.prog X.w) A (call (.builtin "isinstance") [u,c]) Q E s:=by
 cases ty with
 | non=>cases (show u=Value.none from rx); exact PySem.W.kia_one PySem.W.kitx_none I.kIn True.intro e (fun z=>nomatch z) h
 | bl y=>cases (show u=Value.bool y from rx); exact PySem.W.kia_one PySem.W.kitx_bool I.kIn True.intro e (fun z=>nomatch z) h
 | int i=>obtain ⟨t,q⟩:=(show ∃ t,u=Value.int i t from rx); cases q; exact PySem.W.kia_one PySem.W.kitx_int I.kIn True.intro e (fun z=>nomatch z) h
 | str y=>obtain ⟨t,q⟩:=(show ∃ t,u=Value.str y t from rx); cases q; exact PySem.W.kia_one PySem.W.kitx_str I.kIn True.intro e (fun z=>nomatch z) h
 | flt y=>obtain ⟨t,q⟩:=(show ∃ t,u=Value.float y t from rx); cases q; exact PySem.W.kia_one PySem.W.kitx_float I.kIn True.intro e (fun z=>nomatch z) h
 | @lst a xs ea =>
  cases (show u=Value.ref a from rx)
  obtain ⟨_,_,n,_,h1⟩:=(show a5 X.prog X.w H s.heap a (.lst xs) from I.hok a _ ea)
  exact PySem.W.kia_one PySem.W.kitx_list I.kIn ⟨_,h1,rfl⟩ e (fun z=>nomatch z) h
 | @frz a ob xs ea =>
  cases (show u=Value.ref a from rx)
  obtain ⟨_,_,_,n,_,h1⟩:=(show a5 X.prog X.w H s.heap a (.frz ob (.lst xs)) from I.hok a _ ea)
  exact PySem.W.kia_one PySem.W.kitx_list I.kIn ⟨_,h1,rfl⟩ e (fun z=>nomatch z) h
 | @tup a xs ea =>
  cases (show u=Value.ref a from rx)
  obtain ⟨_,_,_,p⟩:=(show a5 X.prog X.w H s.heap a (.tup xs) from I.hok a _ ea)
  obtain ⟨o,h1,h2,_⟩:=p
  exact PySem.W.kia_one PySem.W.kitx_tuple I.kIn ⟨o,h1,h2⟩ e (fun z=>nomatch z) h
 | @dK a kvs ea =>
  cases (show u=Value.ref a from rx)
  obtain ⟨_,_,vs,_,p⟩:=(show a5 X.prog X.w H s.heap a (.dK kvs) from I.hok a _ ea)
  obtain ⟨o,es,ep,h1,h2,_⟩:=p
  exact PySem.W.kia_one PySem.W.kitx_dict I.kIn ⟨o,h1,h2.1⟩ e (fun z=>nomatch z) h
 | @dT a kvs ea =>
  cases (show u=Value.ref a from rx)
  obtain ⟨_,_,xs,_,o,es,ep,h1,h2,_⟩:=(show a5 X.prog X.w H s.heap a (.dT kvs) from I.hok a _ ea)
  exact PySem.W.kia_one PySem.W.kitx_dict I.kIn ⟨o,h1,h2.1⟩ e (fun z=>nomatch z) h
 | @ins a C dx fs ea cl ha hn htk hm =>
  cases (show u=Value.ref a from rx)
  obtain ⟨mA,O,_⟩:=sA I.hok ea
  obtain ⟨od,J,_⟩:=O.look
  exact PySem.W.kia_one (PySem.W.kitx_own (cl.get _) cl.hd ha hn htk hm) I.kIn J e (fun z=>nomatch z) h
end
structure Room (k:Nat) (A:Around):Prop where
 hd:A.handled=none
 dp:A.depth + 3 * k + 5<recursionLimit
 un:A.units + 16 * k + 200<cLine
 gd:A.guards=some []
theorem Room.mono {j k:Nat} {A:Around} (r:Room k A) (h:j≤k):Room j A:=⟨r.hd,by have:=r.dp; omega,by have:=r.un; omega,r.gd⟩
theorem Room.deeper {k:Nat} {A:Around} (r:Room (k + 1) A) (env:Env):Room k (A.deeper env) :=
 ⟨r.hd,by have:=r.dp; show A.depth + 1 + 3 * k + 5<_; omega,by have:=r.un; show A.units + 3 + 16 * k + 200<_; omega,r.gd⟩
theorem mq {A:Around} {C:Addr} {us:List Value} {kw:List (Str×Value)}:(A.under (.builtin "type.__call__" ⟨.ref C :: us,kw⟩)).depth=A.depth + 1:=by
 first | rfl | simp [Around.under,Code.weight,Code.isCreation,Code.isGuard,Code.isCaller,Code.frames,Code.isFrame,guardIds]
theorem l5 {A:Around} {C:Addr} {us:List Value} {kw:List (Str×Value)}:(A.under (.builtin "type.__call__" ⟨.ref C :: us,kw⟩)).units=A.units + 1:=by
 first | rfl | simp [Around.under,Code.cUnits,Code.frames,Code.isFrame]
theorem Room.make {k:Nat} {A:Around} (r:Room (k + 1) A) (C:Addr) (us:List Value) (kw:List (Str×Value)):Room k (A.under (.builtin "type.__call__" ⟨.ref C :: us,kw⟩)) :=
 ⟨r.hd,by have:=r.dp; rw [mq]; omega,by have:=r.un; rw [l5]; omega,r.gd⟩
theorem Room.depth {k:Nat} {A:Around} (r:Room k A):A.depth<recursionLimit:=by have:=r.dp; omega
theorem Room.units {k:Nat} {A:Around} (r:Room k A):A.units + 64<cLine:=by have:=r.un; omega
def tNil:TA:=fun _ H Q=>Q [] H
def tCons (ta:TE) (tr:TA):TA:=fun σ H Q=>ta σ H fun x H1=>tr σ H1 fun xs H2=>Q (x :: xs) H2
section
variable {X:Cx} {e:Expr} {es:List Expr} {te:TE} {t:TA} {pos:Pos}
theorem cq:PA X [] tNil:=⟨fun _ _ _ _ H Q I h=>Calls.spliced_nil ⟨[],H,I,.nil,h⟩⟩
theorem a6 (ha:PE X e te) (hr:PA X es t) (hs:starEach (e :: es) X.env=(false,eval e X.env) :: starEach es X.env:=by rfl):PA X (e :: es) (tCons te t):=by
 (try refine ⟨?_⟩); intro pos pins s σ H Q I h
 rw [hs]
 show wpAny _ _ (spliced ((false,eval e X.env) :: backTo pos (starEach es X.env))) _ _ s
 refine Calls.spliced_cons (thn (ha pins s σ H _ I h) fun u s1 ⟨x,H1,I1,r1,q1⟩=>?_)
 exact thn (hr pos pins s1 σ H1 _ I1 q1) fun us s2 ⟨xs,H2,I2,r2,q2⟩=>⟨x :: xs,H2,I2,.cons r1 r2,q2⟩
def tTup (t:TA):TE:=fun σ H Q=>t σ H fun xs H1=>xs.length≤sizeLine∧∀ p,H1 p=none→Q (.ref p) (upd H1 p (.tup xs))
def tLst (t:TA):TE:=fun σ H Q=>t σ H fun xs H1=>xs.length≤sizeLine∧∀ p,H1 p=none→Q (.ref p) (upd H1 p (.lst xs))
theorem rb {x1} (h:PA X es t):PE X (.Tuple es x1 pos) (tTup t):=by
 (try refine ⟨?_⟩); intro pins s σ H Q I hq
 refine wpAny_Tuple_spliced (thn (h pos pins s σ H _ I hq) fun us s1 ⟨xs,H1,I1,r,z,q⟩=>⟨by rw [← r.length]; exact z,?_⟩)
 have hf:H1 s1.heap.objs.size=none:=I1.hok.fresh (Nat.le_refl _)
 refine ⟨.ref s1.heap.objs.size,upd H1 s1.heap.objs.size (.tup xs),I1.laid (t':=s1.toks) (fun b u e=>Heap.get?_push_of_some _ e) (Nat.le_refl _) ?_,rfl,q _ hf⟩
 exact ⟨z,us,r,⟨_,Heap.get?_push_size _ rfl,rfl,_,rfl⟩⟩
theorem l4 (h:PA X es t):PE X (.List es pos) (tLst t):=by
 (try refine ⟨?_⟩); intro pins s σ H Q I hq
 refine wpAny_List_spliced (thn (h pos pins s σ H _ I hq) fun us s1 ⟨xs,H1,I1,r,z,q⟩=>⟨by rw [← r.length]; exact z,?_⟩)
 have hf:H1 s1.heap.objs.size=none:=I1.hok.fresh (Nat.le_refl _)
 refine ⟨.ref s1.heap.objs.size,upd H1 s1.heap.objs.size (.lst xs),I1.laid (t':=s1.toks) (fun b u e=>Heap.get?_push_of_some _ e) (Nat.le_refl _) ?_,rfl,q _ hf⟩
 exact ⟨z,us,0,r,Heap.get?_push_size _ rfl⟩
end
abbrev Sp:=List V→Hp→VK→XK→Prop
abbrev CXT:=List Env→Hp→Shared→XK→Value→Shared→Prop
structure Env0 (P:Program) (w:World) (K:PySem.W.Frag) (mg:Str→Option Value) (base:Heap) (A:Around) (outer:List Env) (s:Shared) (H:Hp):Prop where
 frames:A.frames=some outer
 mod:Mod K mg base
 bs:∀ b o,base.get? b=some o→s.heap.get? b=some o∧H b=none
 bsz:base.objs.size≤s.heap.objs.size
 funs:s.heap.FunFrames base outer
 frf:∀ b∈frs outer,H b=none
 hok:HOk P w H s.heap
 bare:AllBare s.gens
 tb:TbM base H
def CE (outer:List Env) (P:Program) (w:World) (H:Hp) (s:Shared) (Q:VK) (u:Value) (s':Shared):Prop :=
 ∃ v H',s'.os=s.os∧AllBare s'.gens∧Un (frs outer) [] H H' s.heap s'.heap∧HOk P w H' s'.heap∧a_ v u∧Q v H'
def CR (CX:CXT) (outer:List Env) (P:Program) (w:World) (H:Hp) (s:Shared) (Q:VK) (E:XK) (r:Result) (s':Shared):Prop :=
 match r with
 | .ok (.ret u)=>CE outer P w H s Q u s'
 | .ok _=>False
 | .error e=>CX outer H s E e s'
structure FnOk (P:Program) (w:World) (K:PySem.W.Frag) (mg:Str→Option Value) (base:Heap) (CX:CXT) (k:Nat) (f:Addr) (fd:FuncData) (ps:List Str) (sp:Sp):Prop where
 len:∀ vs H Q E,sp vs H Q E→vs.length=ps.length
 run:∀ (A:Around) (outer:List Env) (s:Shared) (H:Hp) (args:Args) (us:List Value) (vs:List V) (Q:VK) (E:XK),Room k A→Env0 P w K mg base A outer s H→BindsTo s fd args (ps.zip us)→aV vs us→sp vs H Q E →
  codeAny (model P w) A (.call (.ref f) args) (CR CX outer P w H s Q E) s
theorem FnOk.imp {P:Program} {w:World} {K:PySem.W.Frag} {mg:Str→Option Value} {base:Heap} {CX:CXT} {k:Nat} {f:Addr} {fd:FuncData} {ps:List Str} {sp sp':Sp} (F:FnOk P w K mg base CX k f fd ps sp)
 (h:∀ vs H Q E,sp' vs H Q E→sp vs H Q E):FnOk P w K mg base CX k f fd ps sp' :=
 ⟨fun vs H Q E q=>F.len vs H Q E (h _ _ _ _ q),fun A outer s H args us vs Q E hr he hb hv hs=>F.run A outer s H args us vs Q E hr he hb hv (h _ _ _ _ hs)⟩
theorem Env0.make {P:Program} {w:World} {K:PySem.W.Frag} {mg:Str→Option Value} {base:Heap} {A:Around} {outer:List Env} {s:Shared} {H:Hp} (e:Env0 P w K mg base A outer s H) (C:Addr) (us:List Value) (kw:List (Str×Value)) :
 Env0 P w K mg base (A.under (.builtin "type.__call__" ⟨.ref C :: us,kw⟩)) outer s H:=⟨by first | exact e.frames | (simpa [Around.under,Code.envs,Code.isFrame,pushEnvs] using e.frames),e.mod,e.bs,e.bsz,e.funs,e.frf,e.hok,e.bare,e.tb⟩
section
variable {X:Cx} {pins:List (Addr×Obj)} {σ:St} {H:Hp} {s s':Shared}
theorem Inv.env0 (I:Inv X pins σ H s):Env0 X.prog X.w X.K X.mg X.base X.A X.stack s H :=
 ⟨I.ok.frames,I.ok.mod,I.bs,Nat.le_trans I.ok.bsz I.sz,I.stack,I.stkFree,I.hok,I.bare,I.ok.tb.un I.base⟩
theorem Inv.after {Q:VK} {u:Value} (I:Inv X pins σ H s) (h:CE X.stack X.prog X.w H s Q u s'):EP X pins σ Q u s':=by
 obtain ⟨v,H',os,bare,un,hok,r,q⟩:=h
 obtain ⟨hh,g,d,t,os'⟩:=s'
 obtain rfl:os'=s.os:=os
 exact ⟨v,H',I.call (h':=hh) (g':=g) (d':=d) (t':=t) (ch:=[]) un hok bare (fun b z=>absurd z (by simp)),r,q⟩
end
def tCall (sp:Sp) (dvs:List V) (E:XK) (t:TA):TE:=fun σ H Q=>t σ H fun vs H1=>sp (vs++dvs) H1 Q E
def cw (K:PySem.W.Frag) (fd:FuncData) (ps:List Str) (ds:List Value):Prop :=
 ∀ (s:Shared) (us:List Value),K.In s.heap→(us++ds).length=ps.length→BindsTo s fd ⟨us,[]⟩ (ps.zip (us++ds))
theorem cw.all {K:PySem.W.Frag} {fd:FuncData} {ps:List Str} (h:∀ us:List Value,us.length=ps.length→bindArgs fd ⟨us,[]⟩=pure (ps.zip us)):cw K fd ps []:=fun s us _ hl=>by
 rw [List.append_nil] at hl ⊢
 exact .of_eq (h us hl)
def l9 (CX:CXT) (X:Cx) (E:XK):Prop:=∀ (pins:List (Addr×Obj)) (σ:St) (H:Hp) (s:Shared) (e:Value) (s':Shared),Inv X pins σ H s→CX X.stack H s E e s'→X.xe e s'
section
variable {X:Cx} {CX:CXT} {k:Nat} {f C:Addr} {fd:FuncData} {ps:List Str} {sp:Sp} {dvs:List V} {ds:List Value} {E:XK} {x m:Str} {p pos apos:Pos} {e o:Expr} {es:List Expr} {ta:TE} {t:TA}
theorem wp {pins:List (Addr×Obj)} {σ:St} {H:Hp} {s:Shared} {Q:VK} {us:List Value} {vs:List V} (F:FnOk X.prog X.w X.K X.mg X.base CX k f fd ps sp) (hr:Room k X.A) (hb:cw X.K fd ps ds) (hd:aV dvs ds) (hx:l9 CX X E)
 (I:Inv X pins σ H s) (r:aV vs us) (h:sp (vs++dvs) H Q E):wpAny (model X.prog X.w) X.A (call (.ref f) us) (EP X pins σ Q) X.xe s:=by
 have r2:aV (vs++dvs) (us++ds):=r.append hd
 have hl:(us++ds).length=ps.length:=by rw [← r2.length]; exact F.len _ _ _ _ h
 refine wpAny_call (codeAny_mono (F.run X.A X.stack s H ⟨us,[]⟩ (us++ds) (vs++dvs) Q E hr I.env0 (hb s us I.kIn hl) r2 h) fun r s' hq=>?_)
 cases r with
 | error e=>exact hx pins σ H s e s' I hq
 | ok fl =>
  cases fl with
  | ret u=>exact I.after hq
  | next=>exact False.elim hq
  | brk=>exact False.elim hq
  | cont=>exact False.elim hq
theorem nJ (F:FnOk X.prog X.w X.K X.mg X.base CX k f fd ps sp) (hr:Room k X.A) (hg:Gl X x) (hm:X.mg x=some (.ref f)) (hk:PySem.W.keepIn X.K (.ref f)=true) (hb:cw X.K fd ps ds) (hd:aV dvs ds) (hx:l9 CX X E)
 (ha:PA X (e :: es) t) (hdb:(x == ("__debug__":Str))=false:=by decide) (he:starEach (e :: es) X.env=(false,eval e X.env) :: starEach es X.env:=by rfl) (hpl:(backTo pos (starEach es X.env)).any (·.1)=false:=by rfl) :
 PE X (.Call (.Name x p) (e :: es) [] pos) (tCall sp dvs E t):=by
 (try refine ⟨?_⟩); intro pins s σ H Q I h
 refine wpAny_Call_Name_kw (fg I hg hm ?_ hdb)
 refine PySem.W.callWith_K (h₀:=X.base) I.ok.mod.kin hk (thn (ha pos pins s σ H _ I h) fun us s1 ⟨vs,H1,I1,r,q⟩=>⟨I1.kIn,?_⟩) he hpl
 exact wp F hr hb hd hx I1 r q
structure Mk (K:PySem.W.Frag) (C f:Addr):Prop where
 makes:PySem.W.makesIn K C=true
 init:PySem.W.findIn K (.ref C) "__init__" = some (some (.ref f))
 fn:PySem.W.isFn K (.ref f)=true
 kp:PySem.W.keepIn K (.ref C)=true
end
section
variable {X:Cx} {CX:CXT} {k:Nat} {f C:Addr} {fd:FuncData} {ps ks:List Str} {sp:Sp} {E:XK} {x m:Str} {p pos apos kpos:Pos} {e o:Expr} {es:List Expr} {kws:List Keyword} {te ta:TE} {t tk:TA} {nm:Option Str}
variable {g:List Value→List Value→List Value} {gV:List V→List V→List V}
end
structure FnScope (N P:List Str) (sc:Scope):Prop where
 kind:sc.kind = .function
 co:sc.isCoroutine=false
 gen:sc.isGenerator=false
 nd:N.Nodup
 pre:N.take P.length=P
 par:∀ x∈P,sc.names.lookup x=some .local∨sc.names.lookup x=some .cell
 nofree:∀ y∈sc.names,y.2≠.free
theorem jj {kindOf:Str→Option NameKind} {x:Str}:∀ {binds:List (Str×Value)} {m:Str→Option Value},(∀ v,(x,v) ∉ binds)→bindL kindOf binds m x=m x
 | [],_,_=>rfl
 | (n,v) :: r,m,h=>by
  unfold bindL
  rw [jj fun w hw=>h w (List.mem_cons_of_mem _ hw)]
  split
  ·have:x≠n:=by rintro rfl; exact h v List.mem_cons_self
   simp [this]
  ·rfl
theorem jl {kindOf:Str→Option NameKind} {x:Str}:∀ {binds:List (Str×Value)} {m:Str→Option Value},(∀ v,(x,v) ∉ binds)→bindC kindOf binds m x=m x
 | [],_,_=>rfl
 | (n,v) :: r,m,h=>by
  unfold bindC
  rw [jl fun w hw=>h w (List.mem_cons_of_mem _ hw)]
  split
  ·rfl
  ·have:x≠n:=by rintro rfl; exact h v List.mem_cons_self
   simp [this]
theorem jm {kindOf:Str→Option NameKind} {x:Str} {v:Value}:∀ {P:List Str} {vs:List Value} {i:Nat} {m:Str→Option Value},P.Nodup→P[i]? = some x→vs[i]? = some v→kindOf x=some .local →
 bindL kindOf (P.zip vs) m x=some v
 | [],_,_,_,_,h,_,_=>by simp at h
 | _ :: _,[],_,_,_,_,h,_=>by simp at h
 | p :: P,w :: vs,0,m,nd,h1,h2,hk=>by
  simp at h1 h2; subst h1; subst h2
  show bindL kindOf ((p,w) :: P.zip vs) m p=_
  unfold bindL
  rw [jj fun v hv=>(List.nodup_cons.mp nd).1 (List.of_mem_zip hv).1,if_pos hk]
  simp
 | p :: P,w :: vs,i + 1,m,nd,h1,h2,hk=>by
  show bindL kindOf ((p,w) :: P.zip vs) m x=_
  unfold bindL
  exact jm (i:=i) (List.nodup_cons.mp nd).2 (by simpa using h1) (by simpa using h2) hk
theorem jN {kindOf:Str→Option NameKind} {x:Str} {v:Value}:∀ {P:List Str} {vs:List Value} {i:Nat} {m:Str→Option Value},P.Nodup→P[i]? = some x→vs[i]? = some v→kindOf x≠some .local →
 bindC kindOf (P.zip vs) m x=some v
 | [],_,_,_,_,h,_,_=>by simp at h
 | _ :: _,[],_,_,_,_,h,_=>by simp at h
 | p :: P,w :: vs,0,m,nd,h1,h2,hk=>by
  simp at h1 h2; subst h1; subst h2
  show bindC kindOf ((p,w) :: P.zip vs) m p=_
  unfold bindC
  rw [jl fun v hv=>(List.nodup_cons.mp nd).1 (List.of_mem_zip hv).1,if_neg hk]
  simp
 | p :: P,w :: vs,i + 1,m,nd,h1,h2,hk=>by
  show bindC kindOf ((p,w) :: P.zip vs) m x=_
  unfold bindC
  exact jN (i:=i) (List.nodup_cons.mp nd).2 (by simpa using h1) (by simpa using h2) hk
def d8 (N:List Str) (vs:List V):St:=vs.map some++List.replicate (N.length - vs.length) none
def ix (CX:CXT) (P:Program) (w:World) (K:PySem.W.Frag) (mg:Str→Option Value) (base:Heap) (N:List Str) (qual:Str) (scope:Scope) (f:Addr) (cd:Value) (A:Around) (outer:List Env) (s:Shared) (H:Hp) (E:XK):Cx where
 prog:=P
 w:=w
 K:=K
 mg:=mg
 base:=base
 A:=A.deeper (envOfC qual scope s.heap.objs.size f cd)
 N:=N
 s₀:=s
 H₀:=H
 env:=envOfC qual scope s.heap.objs.size f cd
 outer:=outer
 stack:=envOfC qual scope s.heap.objs.size f cd :: outer
 ex:=[]
 calm:=true
 fn:=fun _=>true
 pn:=[]
 xe:=fun e s'=>wpAny (model P w) (A.deeper (envOfC qual scope s.heap.objs.size f cd)) (leaving (envOfC qual scope s.heap.objs.size f cd) e) (fun _ s''=>CX outer H s E e s'') (fun e' s''=>CX outer H s E e' s'') s'
theorem lc {sc:Scope} {n:Nat} {x:Str} (h:sc.names.lookup x=some .cell):∃ c,(cellsFrom n sc.names []).lookup x=some c:=by
 have q:=PySem.W.cellsFrom_some sc.names n [] (.inl h)
 exact Option.isSome_iff_exists.mp q
theorem ol {CX:CXT} {P:Program} {w:World} {K:PySem.W.Frag} {mg:Str→Option Value} {base:Heap} {N ps:List Str} {qual:Str} {scope:Scope} {f:Addr} {cd:Value} {A:Around} {outer:List Env} {s s1:Shared} {H:Hp} {E:XK} {us:List Value} {vs:List V}
 (S:FnScope N ps scope) (hd:A.handled=none) (e0:Env0 P w K mg base A outer s H) (hl:vs.length=ps.length) (r:aV vs us)
 (x:InCallC s s.heap.objs.size (bindL (envOfC qual scope s.heap.objs.size f cd).kindOf (ps.zip us) fun _=>none) (cellsFrom (s.heap.objs.size + 1) scope.names []) (bindC (envOfC qual scope s.heap.objs.size f cd).kindOf (ps.zip us) fun _=>none) s1) :
 Inv (ix CX P w K mg base N qual scope f cd A outer s H E) [] (d8 N vs) H s1:=by
 have hpl:ps.length≤N.length:=by have:=congrArg List.length S.pre; rw [List.length_take] at this; omega
 obtain ⟨h1,tk,rfl,hk⟩:=x.done
 have noA:∀ b:Addr,b ∉ (ix CX P w K mg base N qual scope f cd A outer s H E).ex:=fun b z=>absurd (show b∈([]:List Addr) from z) (by simp)
 refine ⟨⟨e0.mod,S.kind,rfl,rfl,Nat.le_refl _,fun y z c h1 h2=>?_,fun y hy=>?_,fun y c _ h=>?_,fun _=>hd,Around.frames_deeper e0.frames,.inr ⟨rfl,rfl⟩,fun b z=>absurd z (noA b),e0.bs,e0.bsz,fun b _ _=>noA b,fun b z=>absurd z (noA b),e0.funs,e0.frf,e0.tb⟩,
  rfl,e0.bare,Un.kept hk,⟨_,x.toInCall.ns,fun i y v h1 h2 h3=>?_⟩,fun y c h=>⟨_,x.cell y c h⟩,e0.hok.fresh (Nat.le_refl _),fun y c h=>?_,fun p hp=>absurd (show p∈([]:List (Addr×Obj)) from hp) (by simp),e0.hok.kept hk,?_⟩
 ·exact name_of_addr x.apart (PySem.mem_of_lookup h1) (PySem.mem_of_lookup h2)
 ·have hy:scope.names.lookup y=some .cell∨scope.names.lookup y=some .free:=hy
  rcases hy with hy | hy
  ·exact lc hy
  ·exact absurd rfl (S.nofree _ (PySem.mem_of_lookup hy))
 ·exact Nat.le_of_lt (x.above y c (PySem.mem_of_lookup h))
 ·have hi:i<vs.length:=by
   unfold d8 at h2
   by_cases hi:i<vs.length
   ·exact hi
   ·rw [List.getElem?_append_right (by simpa using hi)] at h2
    rw [List.getElem?_replicate] at h2
    split at h2 <;> cases h2
  have ha:vs[i]? = some v:=by
   unfold d8 at h2
   rw [List.getElem?_append_left (by simpa using hi),List.getElem?_map] at h2
   cases e:vs[i]? with
   | none=>rw [e] at h2; cases h2
   | some a=>rw [e] at h2; cases h2; rfl
  obtain ⟨u,hu,rv⟩:=r.get ha
  have hp:ps[i]? = some y:=by
   rw [← S.pre,List.getElem?_take_of_lt (by omega)]; exact h1
  have ndP:ps.Nodup:=by rw [← S.pre]; exact S.nd.sublist (List.take_sublist _ _)
  refine ⟨u,rv,?_⟩
  rcases S.par y (List.mem_of_getElem? hp) with k | k
  ·exact .inl ⟨k,jm ndP hp hu k⟩
  ·obtain ⟨c,e⟩:=lc (n:=s.heap.objs.size + 1) k
   refine .inr ⟨.inl k,c,e,?_⟩
   have q:=x.cell y c e
   rw [jN ndP hp hu (by show scope.names.lookup y≠_; rw [k]; decide)] at q
   exact q
 ·exact e0.hok.fresh (Nat.le_of_lt (x.above y c (PySem.mem_of_lookup h)))
 ·unfold d8
  show _=N.length
  rw [List.length_append,List.length_map,List.length_replicate]
  omega
theorem uP {CX:CXT} {P:Program} {w:World} {K:PySem.W.Frag} {mg:Str→Option Value} {base:Heap} {k:Nat} {f:Addr} {name qual:Str} {params:Arguments} {body:List Stmt} {scope:Scope} {dV kV doc pm cdv ct oc:Value} {an od:Option Addr}
 {osl:Array (Option Value)} {N ps:List Str} {sp:Sp} (lk:K.lookup f=some ⟨oc,od,.func (PySem.W.fnOf name qual params body scope dV kV doc pm an cdv ct),osl⟩) (hcd:PySem.W.codeIn K cdv qual=true) (S:FnScope N ps scope)
 (len:∀ vs H Q E,sp vs H Q E→vs.length=ps.length)
 (hbody:∀ (A:Around) (outer:List Env) (s:Shared) (H:Hp) (vs:List V) (Q:VK) (E:XK),Room k (A.deeper (envOfC qual scope s.heap.objs.size f cdv))→sp vs H Q E →
  ∃ t,PSs (ix CX P w K mg base N qual scope f cdv A outer s H E) body t∧t { nx:=fun _ H'=>Q .non H',rt:=Q } (d8 N vs) H) :
 FnOk P w K mg base CX (k + 1) f (PySem.W.fnOf name qual params body scope dV kV doc pm an cdv ct) ps sp:=by
 refine ⟨len,fun A outer s H args us vs Q E hr e0 hb r hsp=>?_⟩
 have hl:=len _ _ _ _ hsp
 have KX:K.In s.heap:=e0.mod.kin.keeps fun b o e=>(e0.bs b o e).1
 have lim:s.heap.NoLimit:=e0.mod.nolimit.keeps fun b o e=>(e0.bs b o e).1
 have hkind:∀ y∈ps.zip us,scope.names.lookup y.1=some .local∨(scope.names.lookup y.1=some .cell∧((cellsFrom (s.heap.objs.size + 1) scope.names []).lookup y.1).isSome=true):=fun ⟨n,v⟩ hy=>by
  rcases S.par n (List.of_mem_zip hy).1 with q | q
  ·exact .inl q
  ·exact .inr ⟨q,PySem.W.cellsFrom_some _ _ _ (.inl q)⟩
 refine codeAny_call_function hr.depth (KX _ _ lk) rfl S.co S.gen rfl (PySem.W.codeRec_of KX hcd) (hb _ _ _ _ ?_)
 refine wpAny_newFunctionEnv_cells S.kind hkind fun env he s1 x=>?_
 subst he
 refine ⟨lim.keeps x.toInCall.keep,codeAny_func ?_⟩
 obtain ⟨t,ht,hq⟩:=hbody A outer s H vs Q E (hr.deeper _) hsp
 have I:Inv (ix CX P w K mg base N qual scope f cdv A outer s H E) [] (d8 N vs) H s1:=ol S hr.hd e0 hl r x
 refine wpAny_mono (ht [] s1 (d8 N vs) H _ I hq) (fun fl s' hs=>?_) fun e s' hs=>hs
 have fin:∀ {σ':St} {H':Hp} {v:V} {u:Value},Inv (ix CX P w K mg base N qual scope f cdv A outer s H E) [] σ' H' s'→a_ v u→Q v H'→CE outer P w H s Q u s' :=
  fun {σ' H' v u} J rv q=>⟨v,H',J.os,J.bare,J.base,J.hok,rv,q⟩
 cases fl with
 | ret u =>
  obtain ⟨v,σ',H',J,rv,q⟩:=hs
  exact fin J rv q
 | next =>
  obtain ⟨σ',H',J,q⟩:=hs
  exact fin (v:=V.non) (u:=Value.none) J rfl q
 | brk =>
  obtain ⟨_,_,_,q⟩:=hs
  exact False.elim q
 | cont =>
  obtain ⟨_,_,_,q⟩:=hs
  exact False.elim q
section
variable {X:Cx} {x:Str} {p pos:Pos} {e:Expr} {es:List Expr} {t:TA} {id T:String} {r:List V→Hp→VK→Prop}
def tCB (r:List V→Hp→VK→Prop) (t:TA):TE:=fun σ H Q=>t σ H fun vs H1=>r vs H1 Q
theorem fS (hc:cF X (.builtin id) r) (hg:Gl X x) (hm:X.mg x=none) (hv:bootBuiltins x=some (.builtin id)) (ha:PA X (e :: es) t) (hn:x ≠ "__name__":=by decide) (hdb:(x == ("__debug__":Str))=false:=by decide)
 (he:starEach (e :: es) X.env=(false,eval e X.env) :: starEach es X.env:=by rfl) (hpl:(backTo pos (starEach es X.env)).any (·.1)=false:=by rfl):PE X (.Call (.Name x p) (e :: es) [] pos) (tCB r t):=by
 (try refine ⟨?_⟩); intro pins s σ H Q I h
 refine wpAny_Call_Name_kw (gK I hg hm hv ?_ hn hdb)
 exact PyProof.Rows.callWith_builtin1 (thn (ha pos pins s σ H _ I h) fun us s1 ⟨vs,H1,I1,r1,q1⟩=>hc pins s1 σ H1 vs us Q I1 r1 q1) he hpl
theorem e9 (hc:cF X (.type T) r) (hg:Gl X x) (hm:X.mg x=none) (hv:bootBuiltins x=some (.type T)) (ha:PA X (e :: es) t) (hn:x ≠ "__name__":=by decide) (hdb:(x == ("__debug__":Str))=false:=by decide)
 (he:starEach (e :: es) X.env=(false,eval e X.env) :: starEach es X.env:=by rfl) (hpl:(backTo pos (starEach es X.env)).any (·.1)=false:=by rfl):PE X (.Call (.Name x p) (e :: es) [] pos) (tCB r t):=by
 (try refine ⟨?_⟩); intro pins s σ H Q I h
 refine wpAny_Call_Name_kw (gK I hg hm hv ?_ hn hdb)
 exact PyProof.Rows.callWith_type1 (thn (ha pos pins s σ H _ I h) fun us s1 ⟨vs,H1,I1,r1,q1⟩=>hc pins s1 σ H1 vs us Q I1 r1 q1) he hpl
end
end L2
namespace HT
open PySem PyProof.Rows
section
open PySem.SeqAt
open PySem.AutoSeq1 (wpAny_loadPart')
open PySem.MeetsSeq PySem.MeetsSeq2 PySem.MeetsSeq3
end
section
variable {prog:Program} {w:World} {A:Around} {E:Value→Shared→Prop} {s:Shared}
def sIx (n d:Nat):Option Int→Nat
 | none=>d
 | some v=>if v<0 then (v + (n:Int)).toNat else min v.toNat n
theorem sIx_none (n d:Nat):sIx n d none=d:=rfl
theorem sIx_nat (n d k:Nat):sIx n d (some (k:Int))=min k n:=by
 show (if (k:Int)<0 then ((k:Int) + (n:Int)).toNat else min (k:Int).toNat n)=min k n
 rw [if_neg (by omega),Int.toNat_natCast]
end
end HT
namespace L2
open PySem PySem.Spec PyProof.Rows
abbrev TO:=St→Hp→(Option Int→Hp→Prop)→Prop
structure PO (X:Cx) (e:Option Expr) (t:TO):Prop where
 go:∀ (pins:List (Addr×Obj)) (s:Shared) (σ:St) (H:Hp) (Q:Option Int→Hp→Prop),Inv X pins σ H s→t σ H Q →
  wpAny (model X.prog X.w) X.A (evalPart e X.env) (fun u s'=>∃ o H',Inv X pins σ H' s'∧IsPart u o∧Q o H') X.xe s
instance {X:Cx} {e:Option Expr} {t:TO}:CoeFun (PO X e t) fun _=>∀ (pins:List (Addr×Obj)) (s:Shared) (σ:St) (H:Hp) (Q:Option Int→Hp→Prop),Inv X pins σ H s→t σ H Q →
 wpAny (model X.prog X.w) X.A (evalPart e X.env) (fun u s'=>∃ o H',Inv X pins σ H' s'∧IsPart u o∧Q o H') X.xe s:=⟨fun h=>h.go⟩
def t8:TO:=fun _ H Q=>Q none H
def tPart (t:TE):TO:=fun σ H Q=>t σ H fun x H1=>∃ i,x = .int i∧Q (some i) H1
theorem iH {ns:List Int}:∀ {us:List Value},aV (ns.map V.int) us→IntsAre us ns:=by
 induction ns with
 | nil=>intro us r; rw [List.map_nil] at r; cases r; exact .nil
 | cons n ns ih =>
  intro us r
  rw [List.map_cons] at r
  cases r with
  | cons r1 r2 =>
   obtain ⟨t,e⟩:=r1
   subst e
   exact .cons n t (ih r2)
section
variable {X:Cx} {e:Expr} {te:TE} {lo hi:Option Expr} {tl th:TO} {pos p2:Pos}
theorem t7:PO X none t8:=by
 (try refine ⟨?_⟩); intro pins s σ H Q I h
 rw [evalPart_none]
 exact wpAny_pure ⟨none,H,I,.none,h⟩
theorem t3 (h:PE X e te):PO X (some e) (tPart te):=by
 (try refine ⟨?_⟩); intro pins s σ H Q I hw
 rw [evalPart_some]
 refine thn (h pins s σ H _ I hw) fun u s1 ⟨x,H1,I1,r1,q1⟩=>?_
 obtain ⟨i,rfl,q⟩:=q1
 obtain ⟨t,rfl⟩:=r1
 exact ⟨some i,H1,I1,.int i t,q⟩
def SlR (X:Cx) (r:V→Option Int→Option Int→Hp→VK→Prop):Prop :=
 ∀ (pins:List (Addr×Obj)) (s:Shared) (σ:St) (H:Hp) (x:V) (v vl vu:Value) (lo hi:Option Int) (sl:Addr) (Q:VK),Inv X pins σ H s→a_ x v→s.heap.IsSliceOf sl vl vu .none→IsPart vl lo→IsPart vu hi→r x lo hi H Q →
  ∃ T id,typeLookup (.type T) "__getitem__" = pure (some (.builtin id))∧s.TypeIs v T∧wpAny (model X.prog X.w) X.A (getItem v (.ref sl)) (EP X pins σ Q) X.xe s
def tSl (r:V→Option Int→Option Int→Hp→VK→Prop) (te:TE) (tl th:TO):TE:=fun σ H Q=>te σ H fun x H1=>tl σ H1 fun l H2=>th σ H2 fun u H3=>r x l u H3 Q
theorem rS {r:V→Option Int→Option Int→Hp→VK→Prop} (hr:SlR X r) (he:PE X e te) (hl:PO X lo tl) (hu:PO X hi th):PE X (.Subscript e (.Slice lo hi none p2) pos) (tSl r te tl th):=by
 (try refine ⟨?_⟩); intro pins s σ H Q I h
 refine Subscript_ (thn (he pins s σ H _ I h) fun v s1 ⟨x,H1,I1,r1,q1⟩=>?_)
 refine wpAny_Slice (thn (hl pins s1 σ H1 _ I1 q1) fun vl s2 ⟨l,H2,I2,pl,q2⟩=>thn (hu pins s2 σ H2 _ I2 q2) fun vu s3 ⟨u,H3,I3,pu,q3⟩=>?_)
 rw [evalPart_none]
 refine wpAny_pure ?_
 have I4:Inv X pins σ H3 { s3 with heap:=s3.heap.push { cls:=.type "slice",data:=.fields #[vl,vu,.none] } }:=I3.kept (t':=s3.toks) fun b ob q=>Heap.get?_push_of_some _ q
 obtain ⟨T,id,hT,ht,hg⟩:=hr pins { s3 with heap:=s3.heap.push { cls:=.type "slice",data:=.fields #[vl,vu,.none] } } σ H3 x v vl vu l u s3.heap.objs.size Q I4 r1 (Heap.IsSliceOf.new ..) pl pu q3
 show wpAny (model X.prog X.w) X.A (subscriptTail e (.Slice lo hi none p2) v (.ref s3.heap.objs.size)) (EP X pins σ Q) X.xe { s3 with heap:=s3.heap.push { cls:=.type "slice",data:=.fields #[vl,vu,.none] } }
 exact tail_any (ops:=[.ref s3.heap.objs.size,v]) ht hT hg (by with_unfolding_all rfl)
def lY (xs:List V) (lo hi:Option Int):List V:=(xs.drop (HT.sIx xs.length 0 lo)).take (HT.sIx xs.length xs.length hi - HT.sIx xs.length 0 lo)
theorem k7 (xs:List V) (lo hi:Option Int):(lY xs lo hi).length≤xs.length:=by
 unfold lY
 rw [List.length_take,List.length_drop]
 omega
end
def ixN (n:Nat) (i:Int):Option Nat:=if 0≤i then (if i<n then some i.toNat else none) else if -(n:Int)≤i then some (i + n).toNat else none
def atI {α:Type} (xs:List α) (i:Int):Option α:=(ixN xs.length i).bind fun j=>xs[j]?
theorem nG {n:Nat} {i:Int} {j:Nat} (h:ixN n i=some j):seqIndex? i n=some j∧j<n∧-(n:Int)≤i∧i<n:=by
 unfold ixN at h
 by_cases h0 : 0≤i
 ·rw [if_pos h0] at h
  by_cases h1:i<n
  ·rw [if_pos h1] at h
   have e:i.toNat=j:=Option.some.inj h
   exact ⟨by rw [seqIndex_of h0 h1,e],by omega,by omega,h1⟩
  ·rw [if_neg h1] at h; cases h
 ·rw [if_neg h0] at h
  by_cases h1 : -(n:Int)≤i
  ·rw [if_pos h1] at h
   have e:(i + n).toNat=j:=Option.some.inj h
   exact ⟨by rw [seqIndex_neg (by omega) h1,e],by omega,h1,by omega⟩
  ·rw [if_neg h1] at h; cases h
theorem kf {α:Type} {xs:List α} {i:Int} {v : α} (h:atI xs i=some v):∃ j,seqIndex? i xs.length=some j∧xs[j]? = some v∧j<xs.length∧-(xs.length:Int)≤i∧i<xs.length:=by
 unfold atI at h
 cases e:ixN xs.length i with
 | none=>rw [e] at h; cases h
 | some j =>
  rw [e] at h
  obtain ⟨h1,h2,h3,h4⟩:=nG e
  exact ⟨j,h1,h,h2,h3,h4⟩
theorem kK {α:Type} {xs:List α} {j:Nat} {v : α} (h:xs[j]? = some v):atI xs (j:Int)=some v:=by
 have hj:j<xs.length:=(List.getElem?_eq_some_iff.mp h).1
 have e:ixN xs.length (j:Int)=some j:=by
  unfold ixN
  rw [if_pos (by omega),if_pos (by omega)]; simp
 unfold atI; rw [e]; exact h
def mX (b:Expr):Prop:=∀ o i,subscripted b false o i=operate [o,i] (getItem o i)
def IxR (X:Cx) (r:R2):Prop :=
 ∀ (value slice:Expr) (pins:List (Addr×Obj)) (s:Shared) (σ:St) (H:Hp) (x y:V) (v u:Value) (Q:VK),Inv X pins σ H s→a_ x v→a_ y u→r x y H Q →
  subscripted slice false v u=operate [v,u] (getItem v u)→wpAny (model X.prog X.w) X.A (subscriptTail value slice v u) (EP X pins σ Q) X.xe s
def MtR (X:Cx) (id:String) (r:V→List V→Hp→VK→Prop):Prop :=
 ∀ (pins:List (Addr×Obj)) (s:Shared) (σ:St) (H:Hp) (x:V) (xs:List V) (v:Value) (us:List Value) (Q:VK),Inv X pins σ H s→a_ x v→aV xs us→r x xs H Q →
  wpAny (model X.prog X.w) X.A (call (.builtin id) (v :: us)) (EP X pins σ Q) X.xe s
section
variable {X:Cx} {a b:Expr} {ta tb:TE} {pos:Pos}
theorem IxR.or {r r':R2} (h:IxR X r) (h':IxR X r'):IxR X (fun x y H Q=>r x y H Q∨r' x y H Q):=by
 intro value slice pins s σ H x y v u Q I rx ry q hs
 rcases q with q | q
 ·exact h value slice pins s σ H x y v u Q I rx ry q hs
 ·exact h' value slice pins s σ H x y v u Q I rx ry q hs
theorem pe_ix {r:R2} (hr:IxR X r) (ha:PE X a ta) (hb:PE X b tb) (hs:mX b):PE X (.Subscript a b pos) (tOp r ta tb):=by
 (try refine ⟨?_⟩); intro pins s σ H Q I h
 exact Subscript_ (binT ha hb I h fun v u s2 x y H2 I2 rx ry q=>hr a b pins s2 σ H2 x y v u Q I2 rx ry q (hs _ _))
def rIxL (K:PySem.W.Frag):R2:=fun x y H Q=>∃ p xs i v,x = .ref p∧y = .int i∧SqL K H p xs∧atI xs i=some v∧Q v H
def rIxT (K:PySem.W.Frag):R2:=fun x y H Q=>∃ p xs i v,x = .ref p∧y = .int i∧SqT K H p xs∧atI xs i=some v∧Q v H
def rIxS:R2:=fun x y H Q=>∃ z i c,x = .str z∧y = .int i∧z.length≤sizeLine∧atI z.cps.toList i=some c∧Q (.str ⟨#[c]⟩) H
theorem sD:IxR X (rIxL X.K):=by
 intro value slice pins s σ H x y v u Q I rx ry h hs
 obtain ⟨p,xs,i,z,rfl,rfl,hq,he,q⟩:=h
 cases rx
 obtain ⟨t,rfl⟩:=ry
 obtain ⟨its,r,pl,hz⟩:=I.list hq
 obtain ⟨j,h1,h2,h3,h4,h5⟩:=kf he
 obtain ⟨w,ew,rw'⟩:=r.get h2
 have hl:=r.length
 have hn:=iP
 have fin:EP X pins σ Q w s:=⟨z,H,I,rw',q⟩
 by_cases h0 : 0≤i
 ·have hj:i.toNat=j:=by
   rw [seqIndex_of h0 h5] at h1
   exact Option.some.inj h1
  exact item_listR pl.isList h0 (by omega) (by rw [hj]; simpa using ew) fin hs
 ·have hj:(i + (its.toArray.size:Int)).toNat=j:=by
   rw [seqIndex_neg (by omega) h4] at h1
   rw [List.size_toArray,← hl]
   exact Option.some.inj h1
  exact subscriptTail_builtinR (x:=w) pl.isList.typeIs slot_list_getitem.lookup
   (wpAny_getItem_list_neg (Q:=fun r s'=>r=w∧EP X pins σ Q r s') pl.isList (by omega) (by rw [List.size_toArray] <;> omega) (by omega) (by rw [hj]; simpa using ew) ⟨rfl,fin⟩) hs
theorem u_:IxR X (rIxT X.K):=by
 intro value slice pins s σ H x y v u Q I rx ry h hs
 obtain ⟨p,xs,i,z,rfl,rfl,hq,he,q⟩:=h
 cases rx
 obtain ⟨t,rfl⟩:=ry
 obtain ⟨its,r,pl,hz⟩:=I.tuple hq
 obtain ⟨j,h1,h2,h3,h4,h5⟩:=kf he
 obtain ⟨w,ew,rw'⟩:=r.get h2
 have hl:=r.length
 have hn:=iP
 have fin:EP X pins σ Q w s:=⟨z,H,I,rw',q⟩
 exact subscriptTail_builtinR (x:=w) pl.typeIs slot_tuple_getitem.lookup
  (getItem_tuple (j:=j) (Q:=fun r s'=>r=w∧EP X pins σ Q r s') pl (by omega) (by omega) (by rw [List.size_toArray,← hl]; exact h1) (by simpa using ew) ⟨rfl,fin⟩) hs
theorem wI:IxR X rIxS:=by
 intro value slice pins s σ H x y v u Q I rx ry h hs
 obtain ⟨z,i,c,rfl,rfl,hz,he,q⟩:=h
 obtain ⟨t,rfl⟩:=rx
 obtain ⟨t',rfl⟩:=ry
 obtain ⟨j,h1,h2,h3,h4,h5⟩:=kf he
 have hl:z.cps.toList.length=z.length:=by simp [Str.length]
 rw [hl] at h1 h4 h5
 have hn:=iP
 exact tail_any (typeIs_str s z t) slot_str_getitem.lookup (getItem_str (c:=c) (by
  have e1:decide (i < -(2 ^ 63:Int))=false:=decide_eq_false (by omega)
  have e2:decide (i ≥ 2 ^ 63)=false:=decide_eq_false (by omega)
  rw [e1,e2,Bool.or_false]) (by rw [h1]; simpa using h2) ⟨.str ⟨#[c]⟩,H,I.tok _,⟨_,rfl⟩,q⟩) hs
def rIx (K:PySem.W.Frag):R2:=fun x y H Q=>rIxL K x y H Q∨rIxT K x y H Q∨rIxS x y H Q
theorem ao:IxR X (rIx X.K):=sD.or (u_.or wI)
theorem lM (its:List Value) (n j:Nat) (u:Value):Obj.mapSeq (·.setIfInBounds j u) { cls:=.type "list",data:=.seq its.toArray n } = { cls:=.type "list",data:=.seq (its.set j u).toArray n }:=by
 simp [Obj.mapSeq]
theorem Inv.lst {pins:List (Addr×Obj)} {σ:St} {H:Hp} {s:Shared} {p:Addr} {xs:List V} (I:Inv X pins σ H s) (h:H p=some (.lst xs)) :
 ∃ (its:List Value) (n:Nat),aV xs its∧s.heap.get? p=some { cls:=.type "list",data:=.seq its.toArray n }∧xs.length≤sizeLine:=by
 obtain ⟨z,its,n,r,e⟩:=I.hok p _ h
 exact ⟨its,n,r,e,z⟩
theorem Inv.lstUpd {pins:List (Addr×Obj)} {σ:St} {H:Hp} {s:Shared} {p:Addr} {xs ys:List V} {its its':List Value} {n n':Nat} {f:Obj→Obj} (I:Inv X pins σ H s) (h:H p=some (.lst xs))
 (ho:s.heap.get? p=some { cls:=.type "list",data:=.seq its.toArray n }) (hf:f { cls:=.type "list",data:=.seq its.toArray n } = { cls:=.type "list",data:=.seq its'.toArray n' }) (r:aV ys its') (hz:ys.length≤sizeLine) (t:Nat) :
 Inv X pins σ (upd H p (.lst ys)) { s with heap:=s.heap.update p f,toks:=t }:=by
 have e:(s.heap.update p f).get? p=some { cls:=.type "list",data:=.seq its'.toArray n' }:=by
  rw [Heap.get?_update_self f ho (by rw [hf] <;> rfl),hf]
 refine I.write (x:=p) (e:=p) (by rw [h]; trivial) (.inl rfl) (fun b u hb q=>(Heap.get?_update_other _ _ (Ne.symm hb)).trans q) ⟨_,e⟩ ?_
 exact ⟨hz,its',n',r,e⟩
def rSetL:V→V→V→Hp→(Hp→Prop)→Prop:=fun o i v H Q=>∃ p xs k j,o = .ref p∧i = .int k∧H p=some (.lst xs)∧ixN xs.length k=some j∧Q (upd H p (.lst (xs.set j v)))
theorem lv:PSet X rSetL:=by
 (try refine ⟨?_⟩); intro pins s σ H o i v ov iv u Q I ro ri rv h
 obtain ⟨p,xs,k,j,rfl,rfl,hp,hj,q⟩:=h
 cases ro
 obtain ⟨t,rfl⟩:=ri
 obtain ⟨its,n,r,ho,hz⟩:=I.lst hp
 obtain ⟨h1,h2,h3,h4⟩:=nG hj
 have hl:=r.length
 have hn:=iP
 have I':Inv X pins σ (upd H p (.lst (xs.set j v))) { s with heap:=s.heap.update p (Obj.mapSeq (·.setIfInBounds j u)) } :=
  I.lstUpd hp ho (lM its n j u) (r.set rv j) (by rw [List.length_set]; exact hz) s.toks
 by_cases h0 : 0≤k
 ·have hk:k.toNat=j:=by
   rw [seqIndex_of h0 h4] at h1
   exact Option.some.inj h1
  exact PySem.W.ki_setAt ho h0 (by omega) (by rw [List.size_toArray,← hl]; exact h4) (by rw [hk]; exact ⟨_,I',q⟩)
 ·have hk:(k + (its.toArray.size:Int)).toNat=j:=by
   rw [seqIndex_neg (by omega) h3] at h1
   rw [List.size_toArray,← hl]
   exact Option.some.inj h1
  exact PySem.W.ki_setBack ho (by omega) (by rw [List.size_toArray,← hl]; exact h3) (by omega) (by rw [hk]; exact ⟨_,I',q⟩)
theorem ke (lo hi:Option Int) (n:Nat):(sliceBounds lo hi none n).1=((HT.sIx n 0 lo:Nat):Int)∧(sliceBounds lo hi none n).2.1=((HT.sIx n n hi:Nat):Int)∧(sliceBounds lo hi none n).2.2=1:=by
 refine ⟨?_,?_,rfl⟩
 ·cases lo with
  | none=>simp [sliceBounds,HT.sIx]
  | some i =>
   simp only [sliceBounds,HT.sIx,Option.getD_none,show (1:Int) > 0 by decide,if_true]
   by_cases h:i<0
   ·simp only [h,if_true] <;> omega
   ·simp only [h,if_false] <;> omega
 ·cases hi with
  | none=>simp [sliceBounds,HT.sIx]
  | some i =>
   simp only [sliceBounds,HT.sIx,Option.getD_none,show (1:Int) > 0 by decide,if_true]
   by_cases h:i<0
   ·simp only [h,if_true] <;> omega
   ·simp only [h,if_false] <;> omega
theorem jh (its:List Value) (lo hi:Option Int):slicePick its.toArray lo hi none=((its.drop (HT.sIx its.length 0 lo)).take (HT.sIx its.length its.length hi - HT.sIx its.length 0 lo)).toArray:=by
 obtain ⟨h1,h2,h3⟩:=ke lo hi its.toArray.size
 unfold slicePick
 rw [h1,h2,h3]
 simp only [sliceRange_one,pick_run,List.size_toArray] <;> rfl
def rSlL (K:PySem.W.Frag):V→Option Int→Option Int→Hp→VK→Prop:=fun x lo hi H Q=>∃ a xs,x = .ref a∧SqL K H a xs∧∀ p,H p=none→Q (.ref p) (upd H p (.lst (lY xs lo hi)))
theorem tK:SlR X (rSlL X.K):=by
 (try refine ⟨?_⟩); intro pins s σ H x v vl vu lo hi sl Q I rx hs pl pu h
 obtain ⟨a,xs,rfl,hx,q⟩:=h
 cases rx
 obtain ⟨its,r,ht,hz⟩:=I.list hx
 have hlen:=r.length
 refine ⟨"list",_,slot_list_getitem.lookup,ht.isList.typeIs,?_⟩
 refine wpAny_getItem_list_slice ht.isList hs pl pu .none (by simp) ?_ (by rw [List.size_toArray] <;> omega)
 rw [jh,← hlen]
 refine ⟨.ref s.heap.objs.size,_,I.laid (t':=s.toks) (o:=.lst (lY xs lo hi)) (fun b ob q=>Heap.get?_push_of_some _ q) (Nat.le_refl _) ?_,rfl,q _ (I.hok.fresh (Nat.le_refl _))⟩
 exact ⟨Nat.le_trans (k7 xs lo hi) hz,_,0,(r.drop (HT.sIx xs.length 0 lo)).take (HT.sIx xs.length xs.length hi - HT.sIx xs.length 0 lo),Heap.get?_push_size _ rfl⟩
def fE:V→Bool
 | .non=>true
 | .bl _=>true
 | .int _=>true
 | .str _=>true
 | _=>false
def eqV:V→V→Bool
 | .non,.non=>true
 | .bl a,.bl b=>a == b
 | .bl a,.int b=>(if a then 1 else 0) == b
 | .int a,.bl b=>a == (if b then 1 else 0)
 | .int a,.int b=>a == b
 | .str a,.str b=>a == b
 | _,_=>false
theorem v9 {A:Around} {s:Shared} {y x:V} {u v:Value} (ry:a_ y u) (rx:a_ x v) (fy:fE y=true) (fx:fE x=true):SeqAt.EqAt A s u v (eqV y x):=by
 cases y with
 | non =>
  cases ry
  cases x with
  | non=>cases rx; exact SeqAt.EqAt.same _
  | bl b=>cases rx; exact SeqAt.EqAt.none_bool b
  | int b=>obtain ⟨t,rfl⟩:=rx; exact SeqAt.EqAt.none_int b t
  | str b=>obtain ⟨t,rfl⟩:=rx; exact SeqAt.EqAt.none_str b t
  | _=>exact absurd (show false=true from fx) Bool.false_ne_true
 | bl a =>
  cases ry
  cases x with
  | non=>cases rx; exact SeqAt.EqAt.bool_none a
  | bl b=>cases rx; exact SeqAt.EqAt.bool_bool a b
  | int b=>obtain ⟨t,rfl⟩:=rx; exact SeqAt.EqAt.bool_int a b t
  | str b=>obtain ⟨t,rfl⟩:=rx; exact SeqAt.EqAt.bool_str a b t
  | _=>exact absurd (show false=true from fx) Bool.false_ne_true
 | int a =>
  obtain ⟨t',rfl⟩:=ry
  cases x with
  | non=>cases rx; exact SeqAt.EqAt.int_none a t'
  | bl b=>cases rx; exact SeqAt.EqAt.int_bool a t' b
  | int b=>obtain ⟨t,rfl⟩:=rx; exact SeqAt.EqAt.int_int a t' b t
  | str b=>obtain ⟨t,rfl⟩:=rx; exact SeqAt.EqAt.int_str a t' b t
  | _=>exact absurd (show false=true from fx) Bool.false_ne_true
 | str a =>
  obtain ⟨t',rfl⟩:=ry
  cases x with
  | non=>cases rx; exact SeqAt.EqAt.str_none a t'
  | bl b=>cases rx; exact SeqAt.EqAt.str_bool a t' b
  | int b=>obtain ⟨t,rfl⟩:=rx; exact SeqAt.EqAt.str_int a t' b t
  | str b=>obtain ⟨t,rfl⟩:=rx; exact SeqAt.EqAt.str_str a t' b t
  | _=>exact absurd (show false=true from fx) Bool.false_ne_true
 | _=>exact absurd (show false=true from fy) Bool.false_ne_true
def eqU (x:V) (u:Value):Bool:=match u with
 | .none=>eqV .non x
 | .bool b=>eqV (.bl b) x
 | .int i _=>eqV (.int i) x
 | .str z _=>eqV (.str z) x
 | _=>false
theorem pY {x y:V} {u:Value} (r:a_ y u) (f:fE y=true):eqU x u=eqV y x:=by
 cases y with
 | non=>cases r; rfl
 | bl b=>cases r; rfl
 | int i=>obtain ⟨t,rfl⟩:=r; rfl
 | str z=>obtain ⟨t,rfl⟩:=r; rfl
 | _=>exact absurd (show false=true from f) Bool.false_ne_true
theorem f7 {x:V}:∀ {xs:List V} {us:List Value},aV xs us→xs.all fE=true→us.any (eqU x)=xs.any fun y=>eqV y x
 | _,_,.nil,_=>rfl
 | y :: xs,u :: us,.cons r t,f=>by
  rw [List.all_cons,Bool.and_eq_true] at f
  rw [List.any_cons,List.any_cons,pY r f.1,f7 t f.2]
theorem eK {A:Around} {s:Shared} {x:V} {v:Value} (rx:a_ x v) (fx:fE x=true):∀ {xs:List V} {us:List Value},aV xs us→xs.all fE=true→∀ u∈us,SeqAt.EqAt A s u v (eqU x u)
 | _,_,.nil,_=>fun u hu=>by cases hu
 | y :: xs,u :: us,.cons r t,f=>fun u' hu=>by
  rw [List.all_cons,Bool.and_eq_true] at f
  rcases List.mem_cons.mp hu with rfl | hu
  ·rw [pY r f.1]; exact v9 r rx f.1 fx
  ·exact eK rx fx t f.2 u' hu
def inV (x:V) (xs:List V):Bool:=xs.any fun y=>eqV y x
def rIn (K:PySem.W.Frag) (neg:Bool):R2:=fun x y H Q=>∃ p xs,y = .ref p∧(SqL K H p xs∨SqT K H p xs)∧fE x=true∧xs.all fE=true∧Q (.bl (if neg then !inV x xs else inV x xs)) H
theorem oo:OpR X (compareOp .In) (rIn X.K false):=by
 (try refine ⟨?_⟩); intro pins s σ H x y v u Q I rx ry h
 obtain ⟨p,xs,rfl,hq,fx,fs,q⟩:=h
 cases ry
 rcases hq with hq | hq
 ·obtain ⟨its,r,pl,hz⟩:=I.list hq
  refine SeqAt.in_listAt (eqU x) pl.isList (fun w hw=>eK rx fx r fs w (by simpa using hw)) ⟨.bl _,H,I,rfl,?_⟩
  rw [show its.toArray.any (eqU x)=its.any (eqU x) by simp,f7 r fs]
  exact q
 ·obtain ⟨its,r,pl,hz⟩:=I.tuple hq
  refine SeqAt.in_tupleAt (eqU x) pl (fun w hw=>eK rx fx r fs w (by simpa using hw)) ⟨.bl _,H,I,rfl,?_⟩
  rw [show its.toArray.any (eqU x)=its.any (eqU x) by simp,f7 r fs]
  exact q
theorem j_:OpR X (compareOp .NotIn) (rIn X.K true):=by
 (try refine ⟨?_⟩); intro pins s σ H x y v u Q I rx ry h
 obtain ⟨p,xs,rfl,hq,fx,fs,q⟩:=h
 cases ry
 rcases hq with hq | hq
 ·obtain ⟨its,r,pl,hz⟩:=I.list hq
  refine SeqAt.notIn_listAt (eqU x) pl.isList (fun w hw=>eK rx fx r fs w (by simpa using hw)) ⟨.bl _,H,I,rfl,?_⟩
  rw [show its.toArray.any (eqU x)=its.any (eqU x) by simp,f7 r fs]
  exact q
 ·obtain ⟨its,r,pl,hz⟩:=I.tuple hq
  refine SeqAt.notIn_tupleAt (eqU x) pl (fun w hw=>eK rx fx r fs w (by simpa using hw)) ⟨.bl _,H,I,rfl,?_⟩
  rw [show its.toArray.any (eqU x)=its.any (eqU x) by simp,f7 r fs]
  exact q
theorem az:cF X (.builtin "len") (fun xs H Q=>∃ p ys,xs=[.ref p]∧(SqL X.K H p ys∨SqT X.K H p ys)∧Q (.int ys.length) H):=by
 (try refine ⟨?_⟩); intro pins s σ H xs us Q I r h
 obtain ⟨p,ys,rfl,hq,q⟩:=h
 obtain ⟨u,rfl,rx⟩:=f8 r
 cases rx
 have hn:=iP
 rcases hq with hq | hq
 ·obtain ⟨its,r',pl,hz⟩:=I.list hq
  have hlen:=r'.length
  exact Calls.call_len_list pl.isList (by simp only [List.size_toArray] <;> omega) ⟨.int ys.length,H,I.tok _,⟨s.toks + 1,by rw [List.size_toArray,hlen]⟩,q⟩
 ·obtain ⟨its,r',pl,hz⟩:=I.tuple hq
  have hlen:=r'.length
  exact len_tuple pl (by simp only [List.size_toArray] <;> omega) ⟨.int ys.length,H,I.tok _,⟨s.toks + 1,by rw [List.size_toArray,hlen]⟩,q⟩
theorem bT:cF X (.type "list") (fun xs H Q=>∃ p ys,xs=[.ref p]∧(SqL X.K H p ys∨SqT X.K H p ys)∧∀ l,H l=none→Q (.ref l) (upd H l (.lst ys))):=by
 (try refine ⟨?_⟩); intro pins s σ H xs us Q I r h
 obtain ⟨p,ys,rfl,hq,q⟩:=h
 obtain ⟨u,rfl,rx⟩:=f8 r
 cases rx
 have fin:∀ (its:List Value),aV ys its→ys.length≤sizeLine→∀ (h':Heap) (c':Nat),(∀ b o',s.heap.get? b=some o'→h'.get? b=some o') →
  h'.get? s.heap.objs.size=some { cls:=.type "list",dict:=none,data:=.seq its.toArray c',slots:=#[] }→EP X pins σ Q (.ref s.heap.objs.size) { s with heap:=h' }:=fun its r' hz h' c' kp e =>
  ⟨.ref s.heap.objs.size,_,I.laid (t':=s.toks) kp (Nat.le_refl _) (show a5 X.prog X.w _ h' _ (.lst ys) from ⟨hz,its,c',r',e⟩),rfl,q _ (I.hok.fresh (Nat.le_refl _))⟩
 rcases hq with hq | hq
 ·obtain ⟨its,r',pl,hz⟩:=I.list hq
  have hlen:=r'.length
  obtain ⟨o,ho,hc,n,hd⟩:=pl.isList
  exact call_list_seq p (.inl rfl) ho hc hd (fun h' c' kp e=>fin its r' hz h' c' kp e) (by simp only [List.size_toArray] <;> omega)
 ·obtain ⟨its,r',pl,hz⟩:=I.tuple hq
  have hlen:=r'.length
  obtain ⟨o,ho,hc,n,hd⟩:=pl
  exact call_list_seq p (.inr rfl) ho hc hd (fun h' c' kp e=>fin its r' hz h' c' kp e) (by simp only [List.size_toArray] <;> omega)
theorem ji:cF X (.type "tuple") (fun xs H Q=>∃ p ys,xs=[.ref p]∧((SqL X.K H p ys∧∀ l,H l=none→Q (.ref l) (upd H l (.tup ys)))∨(SqT X.K H p ys∧Q (.ref p) H))):=by
 (try refine ⟨?_⟩); intro pins s σ H xs us Q I r h
 obtain ⟨p,ys,rfl,h⟩:=h
 obtain ⟨u,rfl,rx⟩:=f8 r
 cases rx
 rcases h with ⟨hq,q⟩ | ⟨hq,q⟩
 ·obtain ⟨its,r',pl,hz⟩:=I.list hq
  have hlen:=r'.length
  refine call_tuple_list pl.isList (fun h' kp=>?_) (by simp only [List.size_toArray] <;> omega)
  have I1:Inv X pins σ H { s with heap:=h' }:=I.kept (t':=s.toks) kp
  have I2:Inv X pins σ (upd H h'.objs.size (.tup ys)) { s with heap:=h'.push { cls:=.type "tuple",data:=.seq its.toArray } } :=
   I1.laid (t':=s.toks) (fun b o e=>Heap.get?_push_of_some _ e) (Nat.le_refl _) (show a5 X.prog X.w _ _ _ (.tup ys) from ⟨hz,its,r',IsTup.new _ _⟩)
  exact ⟨.ref h'.objs.size,_,I2,rfl,q _ (I1.hok.fresh (Nat.le_refl _))⟩
 ·obtain ⟨its,r',pl,hz⟩:=I.tuple hq
  exact call_tuple_same pl ⟨.ref p,H,I,rfl,q⟩
def tyV (K:PySem.W.Frag) (T:String) (x:V) (H:Hp):Prop:=match x with
 | .str _=>T = "str"
 | .int _=>T = "int"
 | .ref p=>(T = "list" ∧ ∃ xs,SqL K H p xs)∨(T = "tuple" ∧ ∃ o,K.lookup p=some o∧o.cls = .type "tuple" ∧ o.dict=none) ∨
  (T = "dict" ∧ ((∃ kvs,H p=some (.dK kvs))∨∃ kvs,H p=some (.dT kvs)))∨(T = "set" ∧ ∃ S n,H p=some (.set S n))
 | _=>False
theorem vi {pins:List (Addr×Obj)} {σ:St} {H:Hp} {s:Shared} {T:String} {x:V} {v:Value} (I:Inv X pins σ H s) (r:a_ x v) (ty:tyV X.K T x H) :
 s.TypeIs v T∧∀ a,v = .ref a→∃ ob,s.heap.get? a=some ob∧ob.dict=none:=by
 cases x with
 | str z =>
  obtain ⟨t,rfl⟩:=r
  cases (show T = "str" from ty)
  exact ⟨typeIs_str s z t,fun _ e=>nomatch e⟩
 | int i =>
  obtain ⟨t,rfl⟩:=r
  cases (show T = "int" from ty)
  exact ⟨typeIs_int s i t,fun _ e=>nomatch e⟩
 | ref p =>
  cases r
  rcases ty with ⟨rfl,xs,hq⟩ | ⟨rfl,o,hk,hc,hd⟩ | ⟨rfl,hk⟩ | ⟨rfl,S,n,hk⟩
  ·obtain ⟨its,_,pl,_⟩:=I.list hq
   refine ⟨pl.isList.typeIs,fun a e=>?_⟩
   cases e
   obtain ⟨o,n,e,c,hd,_⟩:=pl
   exact ⟨o,e,hd⟩
  ·refine ⟨⟨o,I.kIn p o hk,hc⟩,fun a e=>?_⟩
   cases e
   exact ⟨o,I.kIn _ o hk,hd⟩
  ·have z:∃ o,s.heap.get? p=some o∧o.ExactDict:=by
    rcases hk with ⟨kvs,hk⟩ | ⟨kvs,hk⟩
    ·obtain ⟨_,_,_,_,o,_,_,e,ex,_⟩:=I.hok p _ hk
     exact ⟨o,e,ex⟩
    ·obtain ⟨_,_,_,_,o,_,_,e,ex,_⟩:=I.hok p _ hk
     exact ⟨o,e,ex⟩
   obtain ⟨o,e,ex⟩:=z
   refine ⟨⟨o,e,ex.1⟩,fun a e2=>?_⟩
   cases e2
   exact ⟨o,e,ex.2.1⟩
  ·obtain ⟨o,_,_,_,e,ex,_⟩:=I.hok p _ hk
   refine ⟨⟨o,e,ex.1⟩,fun a e2=>?_⟩
   cases e2
   exact ⟨o,e,ex.2.1⟩
 | _=>exact False.elim ty
def tBM (K:PySem.W.Frag) (T:String) (r:V→List V→Hp→VK→Prop) (to:TE) (t:TA):TE:=fun σ H Q=>to σ H fun x H1=>tyV K T x H1∧t σ H1 fun xs H2=>r x xs H2 Q
variable {o e:Expr} {es:List Expr} {to:TE} {t:TA} {name:Str} {apos cpos:Pos} {T id:String} {r:V→List V→Hp→VK→Prop}
theorem uS (pa:PlainAttrs T) (slot:Slot T name id) (hty:typeOf (.builtin id)=pure (.type "method_descriptor")) (hm:MtR X id r) (ho:PE X o to) (ha:PA X (e :: es) t)
 (hbase:attributeBase o name X.env (eval o X.env)=eval o X.env:=by rfl)
 (hfew:((backTo cpos (starEach (e :: es) X.env)).all (fun x=>!x.1)&&(backToKw cpos (keywordEach [] X.env)).all (fun x=>x.1.isSome)
  && decide ((e :: es).length + ([]:List Keyword).length + (if ([]:List Keyword).isEmpty then 0 else 1)<30))=true:=by rfl)
 (hline:(apos.endLine == cpos.line)=true:=by rfl) (hs:starEach (e :: es) X.env=(false,eval e X.env) :: starEach es X.env:=by rfl) (hplain:(backTo cpos (starEach es X.env)).any (·.1)=false:=by rfl) :
 PE X (.Call (.Attribute o name apos) (e :: es) [] cpos) (tBM X.K T r to t):=by
 (try refine ⟨?_⟩); intro pins s σ H Q I h
 refine wpAny_Call_method_late hbase hfew hline rfl (thn (ho pins s σ H _ I h) fun v s1 ⟨x,H1,I1,r1,ty,q1⟩=>?_)
 obtain ⟨h1,h2⟩:=vi I1 r1 ty
 refine ⟨T,id,pa,slot,hty,h1,h2,?_⟩
 have hA:=ha cpos pins s1 σ H1 _ I1 q1
 rw [hs] at hA ⊢
 refine Calls.callWith_builtin (by show (false||(backTo cpos (starEach es X.env)).any (·.1))=false; rw [hplain] <;> rfl) (Calls.evalArgs_plain ?_)
 exact thn hA fun us s2 ⟨vs,H2,I2,r2,q2⟩=>hm pins s2 σ H2 x vs v us Q I2 r1 r2 q2
/- xs.append(e),list.index on a module's tuple .. are MtR facts of 06m -/
end
def MtM (X:Cx) (id:String) (r:V→List V→Hp→VK→Prop):Prop :=
 ∀ (pins:List (Addr×Obj)) (s:Shared) (σ:St) (H:Hp) (x:V) (xs:List V) (v:Value) (us:List Value) (Q:VK),Inv X pins σ H s→a_ x v→aV xs us→r x xs H Q →
  wpAny (model X.prog X.w) X.A (call (.builtin id) (v :: us)) (EP X pins σ Q) X.xe s
theorem aV.one:∀ {x:V} {us:List Value},aV [x] us→∃ u,us=[u]∧a_ x u:=fun h=>by
 cases h with
 | cons r q=>cases q; exact ⟨_,rfl,r⟩
theorem aV.rep {xs:List V} {us:List Value} (h:aV xs us):∀ k:Nat,aV (List.replicate k xs).flatten (List.replicate k us).flatten
 | 0=>.nil
 | k + 1=>by
  rw [List.replicate_succ,List.replicate_succ,List.flatten_cons,List.flatten_cons]
  exact aV.append h (aV.rep h k)
theorem jy (its:List Value):∀ (k:Nat) (acc:List Value),
 List.foldl (fun x1 x2=>x1++x2) acc.toArray (List.replicate k its.toArray)=(acc++(List.replicate k its).flatten).toArray
 | 0,acc=>by simp
 | k + 1,acc=>by
  have e:acc.toArray++its.toArray=(acc++its).toArray:=by simp
  have e2:(acc++its)++(List.replicate k its).flatten=acc++(List.replicate (k + 1) its).flatten:=by
   rw [List.replicate_succ,List.flatten_cons,List.append_assoc]
  rw [← e2,← jy its k (acc++its),← e,List.replicate_succ,List.foldl_cons]
section
variable {X:Cx} {pins:List (Addr×Obj)} {σ:St} {H:Hp} {s:Shared} {l b:Addr} {xs ys zs:List V}
theorem Inv.lset {its its':List Value} {n:Nat} {f:Array Value→Array Value} {t':Nat} (I:Inv X pins σ H s) (hH:H l=some (.lst xs))
 (e:s.heap.get? l=some { cls:=.type "list",data:=.seq its.toArray n }) (hf:f its.toArray=its'.toArray) (hv:aV ys its') (hz:ys.length≤sizeLine) :
 Inv X pins σ (upd H l (.lst ys)) { s with heap:=s.heap.update l (Obj.mapSeq f),toks:=t' }:=by
 have q:=PySem.IsL.update e f
 rw [hf] at q
 refine I.write (x:=l) (e:=l) (by rw [hH]; exact trivial) (.inl rfl) (fun b' u hb hu=>(Heap.get?_update_other s.heap (Obj.mapSeq f) (Ne.symm hb)).trans hu) ⟨_,q⟩ ?_
 exact ⟨hz,its',_,hv,q⟩
theorem Inv.lnew {its:List Value} {t':Nat} (I:Inv X pins σ H s) (hv:aV ys its) (hz:ys.length≤sizeLine) :
 Inv X pins σ (upd H s.heap.objs.size (.lst ys)) { s with heap:=s.heap.push { cls:=.type "list",data:=.seq its.toArray },toks:=t' } :=
 I.laid (fun _ _ q=>Heap.get?_push_of_some _ q) (Nat.le_refl _) ⟨hz,its,0,hv,Heap.get?_push_size _ rfl⟩
theorem Inv.fresh (I:Inv X pins σ H s):H s.heap.objs.size=none:=I.hok.fresh (Nat.le_refl _)
theorem Inv.lstM (I:Inv X pins σ H s) (hH:H l=some (.lst xs)):xs.length≤sizeLine∧∃ (its:List Value) (n:Nat),aV xs its∧xs.length=its.length∧s.heap.get? l=some { cls:=.type "list",data:=.seq its.toArray n }:=by
 obtain ⟨z,its,n,r,e⟩:=I.hok l _ hH
 exact ⟨z,its,n,r,r.length,e⟩
theorem kS {n:Nat} (h:n≤sizeLine):Builtin.List.listTooLong n=false:=by
 unfold Builtin.List.listTooLong
 exact decide_eq_false (by omega)
end
section
variable {X:Cx}
def tN:V→List V→Hp→VK→Prop:=fun x vs H Q=>∃ l xs y,x = .ref l∧vs=[y]∧H l=some (.lst xs)∧xs.length<sizeLine∧Q .non (upd H l (.lst (xs++[y])))
theorem oG:MtM X "list.append" tN:=by
 (try refine ⟨?_⟩); intro pins s σ H x vs v us Q I rx rv h
 obtain ⟨l,xs,y,rfl,rfl,hH,hz,q⟩:=h
 cases rx
 obtain ⟨u,rfl,ru⟩:=rv.one
 obtain ⟨z,its,n,r,hl,e⟩:=I.lstM hH
 refine call_meets F.slot_list_append ⟨_,e,rfl⟩ F.entry_list_append (F.args_list_append_2 _ _) (PySem.list_append l its.toArray n u (by rw [List.size_toArray]; omega)) ⟨e,?_⟩
 refine ⟨.non,_,I.lset (its':=its++[u]) hH e (by simp) (r.append (.cons ru .nil)) ?_,rfl,q⟩
 rw [List.length_append,List.length_singleton]
 omega
def tH:V→List V→Hp→VK→Prop:=fun x vs H Q=>∃ l b xs zs,x = .ref l∧vs=[.ref b]∧H l=some (.lst xs)∧H b=some (.lst zs)∧xs.length + zs.length≤sizeLine∧Q .non (upd H l (.lst (xs++zs)))
theorem xu:MtM X "list.extend" tH:=by
 (try refine ⟨?_⟩); intro pins s σ H x vs v us Q I rx rv h
 obtain ⟨l,b,xs,zs,rfl,rfl,hH,hB,hz,q⟩:=h
 cases rx
 obtain ⟨u,rfl,ru⟩:=rv.one
 cases ru
 obtain ⟨z,its,n,r,hl,e⟩:=I.lstM hH
 obtain ⟨z2,its2,n2,r2,hl2,e2⟩:=I.lstM hB
 have hsz:its.toArray.size + its2.toArray.size≤sizeLine:=by rw [List.size_toArray,List.size_toArray]; omega
 have hlong : ¬ (!its.toArray.isEmpty&&Builtin.List.listTooLong (its.toArray.size + its2.toArray.size))=true:=by
  rw [kS hsz,Bool.and_false]
  exact Bool.false_ne_true
 refine call_meets F.slot_list_extend ⟨_,e,rfl⟩ F.entry_list_extend (F.args_list_extend_2 _ _)
  (AutoSeq1.list_extend_list_list_0 l its.toArray n b its2.toArray n2 hlong (by rw [List.size_toArray]; omega) (by omega)) ⟨e,e2,?_⟩
 refine ⟨.non,_,I.lset (its':=its++its2) hH e (by simp) (r.append r2) ?_,rfl,q⟩
 rw [List.length_append]
 omega
def rCat:R2:=fun x y H Q=>∃ l b xs zs,x = .ref l∧y = .ref b∧H l=some (.lst xs)∧H b=some (.lst zs)∧xs.length + zs.length≤sizeLine∧∀ p,H p=none→Q (.ref p) (upd H p (.lst (xs++zs)))
theorem gA:OpR X (binaryOp .Add) rCat:=by
 (try refine ⟨?_⟩); intro pins s σ H x y v u Q I rx ry h
 obtain ⟨l,b,xs,zs,rfl,rfl,hH,hB,hz,q⟩:=h
 cases rx
 cases ry
 obtain ⟨z,its,n,r,hl,e⟩:=I.lstM hH
 obtain ⟨z2,its2,n2,r2,hl2,e2⟩:=I.lstM hB
 refine PySem.P.add_list e e2 ?_ (by rw [List.size_toArray,List.size_toArray]; omega)
 have ea:its.toArray++its2.toArray=(its++its2).toArray:=by simp
 rw [ea]
 exact ⟨.ref _,_,I.lnew (t':=s.toks) (r.append r2) (by rw [List.length_append]; omega),rfl,q _ I.fresh⟩
def rRep:R2:=fun x y H Q=>∃ l k xs,x = .ref l∧y = .int k∧H l=some (.lst xs)∧-(2 ^ 63)≤k∧k<2 ^ 63∧xs.length * k.toNat≤sizeLine ∧
 ∀ p,H p=none→Q (.ref p) (upd H p (.lst (List.replicate k.toNat xs).flatten))
theorem tY {α:Type} (xs:List α) (k:Nat):(List.replicate k xs).flatten.length=k * xs.length:=by
 induction k with
 | zero=>simp
 | succ k ih=>rw [List.replicate_succ,List.flatten_cons,List.length_append,ih,Nat.succ_mul,Nat.add_comm]
theorem lQ:OpR X (binaryOp .Mult) rRep:=by
 (try refine ⟨?_⟩); intro pins s σ H x y v u Q I rx ry h
 obtain ⟨l,k,xs,rfl,rfl,hH,h1,h2,hz,q⟩:=h
 cases rx
 obtain ⟨t,rfl⟩:=ry
 obtain ⟨z,its,n,r,hl,e⟩:=I.lstM hH
 have hlen:its.toArray.size * k.toNat≤sizeLine:=by rw [List.size_toArray,← hl]; exact hz
 have hcap : ¬ its.toArray.size * k.toNat > (2 ^ 63 - 1) / 8:=by
  have:(sizeLine:Nat)≤(2 ^ 63 - 1) / 8:=by decide
  omega
 have hfit : ¬ (!Builtin.List.listFitsIndex k)=true:=by
  rw [fitsIndex_both h1 h2]
  exact Bool.false_ne_true
 have hlong : ¬ Builtin.List.listTooLong (its.toArray.size * k.toNat)=true:=by
  rw [kS hlen]
  exact Bool.false_ne_true
 have hnew:List.foldl (fun x1 x2=>x1++x2) #[] (List.replicate (if its.toArray.isEmpty=true then 0 else k.toNat) its.toArray)=(List.replicate k.toNat its).flatten.toArray:=by
  have f0:∀ m:Nat,List.foldl (fun x1 x2=>x1++x2) #[] (List.replicate m its.toArray)=(List.replicate m its).flatten.toArray:=fun m=>by
   have:=jy its m []
   rw [List.nil_append] at this
   exact this
  rw [f0]
  cases its with
  | nil=>simp
  | cons a r'=>rw [if_neg (by simp)]
 refine wpAny_binaryOp_repeat_ref (T:="list") (U:="int") (by decide) ⟨_,e,rfl⟩ (fun s'=>typeIs_int s' k t) noFill_list_mul F.fills_int_mul F.slot_int_rmul repeat_list F.slot_int_index.lookup
  (call_meets F.slot_int_rmul (typeIs_int s k t) F.entry_int_rmul (F.args_int_rmul_2 _ _) (int___rmul___int_list k t l its.toArray n)
   ⟨e,rfl,⟨_,e,rfl⟩,call_meets F.slot_list_mul ⟨_,e,rfl⟩ F.entry_list_mul (F.args_list_mul_2 _ _) (AutoListH.list___mul___list_int_3 l its.toArray n k t hfit hcap hlong) ⟨e,?_⟩⟩)
 rw [hnew]
 exact ⟨.ref _,_,I.lnew (t':=s.toks) (r.rep k.toNat) (by rw [tY,Nat.mul_comm]; exact hz),rfl,q _ I.fresh⟩
end
section
variable {prog:Program} {w:World} {A:Around} {E:Value→Shared→Prop} {s:Shared}
end
section
variable {X:Cx}
end
end L2
namespace Att
open PySem PySem.W PySem.Calls PyProof.Rows
theorem hZ {P:Params} {h:Heap}:∀ (ns:List Int) (vs:List Value),WellAll P h vs (ns.map WData.int)→IntsAre vs ns:=by
 intro ns
 induction ns with
 | nil =>
  intro vs w
  rw [List.map_nil] at w
  cases w
  exact .nil
 | cons n ns ih =>
  intro vs w
  rw [List.map_cons] at w
  cases w with
  | cons a b =>
   cases a
   exact .cons _ _ (ih _ b)
theorem nR {l:OpenLaw} {n:Nat} (hn:l.most=some n) {P:Params} {h:Heap} {args:List WData} {vals:List Value}
 (hpre:l.row.toRowW.claim.pre args=true) (hwl:WellAll P h vals args) :
 ∃ a vs ns,vals=[Value.ref a]∧args=[WData.list (ns.map WData.int)]∧h.get? a=some { cls:=.type "list",data:=.seq vs.toArray }∧IntsAre vs ns∧ns.length≤n:=by
 have hsh:WShape.hasAll [] args [.list .int]=true:=(pre_splitW hpre).1
 have hc:l.pre.holds [] { args:=args } = true:=(pre_splitW hpre).2
 obtain ⟨d,r,rfl,h1,h2⟩:=hasAllW_cons hsh
 obtain rfl:=hasAllW_nil h2
 obtain ⟨xs,rfl,h3⟩:=hasW_list h1
 obtain ⟨ns,rfl⟩:=items_int h3
 have hlen:ns.length≤n:=by
  unfold OpenLaw.pre at hc
  have h4:(WTm.not (.lt (.lit (.int (n:Int))) (.len (.arg 0)))).holds [] { args:=[.list (ns.map .int)] } = true:=by
   have h4:=(holds_andW hc).1
   rw [hn] at h4
   exact h4
  have h5:=condW_of h4 (w_not (w_lt w_lit (w_len_list (w_arg rfl))))
  rw [List.length_map] at h5
  refine Nat.le_of_not_lt fun q=>?_
  have q':(n:Int)<((ns.length:Nat):Int):=by omega
  first
   | (rw [decide_eq_true q'] at h5; exact absurd h5 (by decide))
   | (simp at h5; omega)
 cases hwl with
 | cons w1 w2 =>
  cases w2
  cases w1 with
  | list ho hall=>exact ⟨_,_,ns,rfl,rfl,ho,hZ ns _ hall,hlen⟩
theorem o6 (l:OpenLaw) (args:List WData):l.row.toRowW.claim.post args (.bool true) args=true :=
 postW_of (r:=l.row.toRowW) (X:=(true == true))
  (show WShape.has [] (.bool true) .bool=true by first | rfl | decide | simp [WShape.has,WShape.arms,WShape.armsAll])
  (show (WTm.eq .res (.lit (.bool true))).value [] { args:=args,res:=some (.bool true),after:=args } = some (.bool (true == true)) from w_eq_bool (w_res rfl) w_lit) rfl
theorem attach_call {l:OpenLaw} {n:Nat} {q:Program} {loose:List Str} {XP:(Str→Option Value)→Heap→Prop} {YP:World→Heap→Prop} {d:DefRec}
 (hn:l.most=some n) (hdf:d.params.defaults=[])
 (call:∀ (w:World) (s₀ s₁:Shared) (mg mb:Str→Option Value) (fa:Addr) (o:Obj) (pm cd doc:Value) (a:Addr) (vs:List Value) (ns:List Int),
  Ground q loose [] XP w s₀ mg mb s₁.heap→YP w s₁.heap →
  s₁.heap.get? fa=some o→o.data = .func (docDef d.name d.params d.body d.scope pm cd doc)→s₁.heap.CodeRec cd d.name→mg d.name=some (.ref fa) →
  s₁.heap.get? a=some { cls:=.type "list",data:=.seq vs.toArray }→IntsAre vs ns→ns.length≤n→s₁.gens = #[] →
  codeAny (model l.prog w) callerA (.call (.ref fa) ⟨[.ref a],[]⟩) (fun r s'=>r = .ok (.ret (.bool true))∧OldK s₁.heap s'.heap∧s'.os=s₁.os∧AllBare s'.gens) s₁) :
 WalkO q loose XP YP l.row.toRowW d [] (fun f vs=>PySem.call f vs):=by
 intro w s₀ s₁ mg mb G Y fa o pm cd doc dV kV ho hd hcd hD hmg hg args vals as hpre hlay hrd hwl hlo
 obtain rfl:dV = .none:=Dflts.none hD hdf
 obtain rfl:kV = .none:=Dflts.noKw hD
 obtain ⟨a,vs,ns,rfl,rfl,hobj,hints,hlen⟩:=nR hn hpre hwl
 refine enter_call (codeAny_mono (call w s₀ s₁ mg mb fa o pm cd doc a vs ns G Y ho (fd_plain hd) hcd hmg hobj hints hlen hg) fun r s' hq=>?_)
 obtain ⟨rfl,h2,h3,h4⟩:=hq
 exact ⟨.inl ⟨.bool true,.bool true,[],rfl,fun _=>rfl,.bool true,o6 l _,fun _=>⟨List.Pairwise.nil,fun _ hm=>(nomatch hm)⟩⟩,h2,h3,h4⟩
section
variable {prog:Program} {w:World} {A:Around} {E:Value→Shared→Prop} {s:Shared} {K:Frag}
end
end Att
namespace L2
open PySem PySem.Spec PyProof.Rows
theorem gN:∀ {vs:List Value} {ns:List Int},IntsAre vs ns→aV (ns.map V.int) vs
 | _,_,.nil=>.nil
 | _,_,.cons n t h=>.cons ⟨t,rfl⟩ (gN h)
end L2
/- THE LAST THEOREM (shape; LID,My.* are yours):
   My.Adr: a structure of the addresses that your layer names (classes,functions); My.Txt K t: a structure (Prop) of the equations over K;
   My.txt_mk : {K} {implicit addresses ..} (e1:nsIn K mainGlobals "law" = some (some (.ref f))) (e2:K.lookup f=some ⟨oc,od,.func (fnOf "law" "law" params body scope dV kV doc pm an cdv ct),sl⟩) (e3:codeIn K cdv "law" = true) ..:∃ t,My.Txt K t
(the tactic k_is has no namespace: write k_is) -/
namespace L2
open PySem PySem.Spec PyProof.Rows
def ci (s:Stmt) (j:Nat):Stmt:=match s with
 | .ClassDef _ _ _ body _ _ _ _ _ _ _=>body.getD j (.Pass ⟨0,0,0,0⟩)
 | _=>.Pass ⟨0,0,0,0⟩
def eu (s:Stmt):Arguments:=match s with
 | .FunctionDef _ a _ _ _ _ _ _ _ _=>a
 | _=>{ posonlyargs:=[],args:=[],vararg:=none,kwonlyargs:=[],kw_defaults:=[],kwarg:=none,defaults:=[] }
def cf (s:Stmt):List Stmt:=match s with
 | .FunctionDef _ _ b _ _ _ _ _ _ _=>b
 | _=>[]
def ah (s:Stmt):Scope:=match s with
 | .FunctionDef _ _ _ _ _ _ sc _ _ _=>sc
 | _=>{ kind:=.function,names:=[],isGenerator:=false,isCoroutine:=false }
abbrev CX0:CXT:=fun _ _ _ _ _ _=>False
abbrev E0:XK:=fun _ _ _=>False
theorem uL {X:Cx}:l9 CX0 X E0:=fun _ _ _ _ _ _ _ h=>h.elim
structure Fun (K:PySem.W.Frag) (x qual:Str) (st:Stmt) (f:Addr) (fd:FuncData):Prop where
 ex:∃ (oc:Value) (od:Option Addr) (kV doc pm:Value) (an:Option Addr) (cdv ct:Value) (osl:Array (Option Value)),
  fd=PySem.W.fnOf x qual (eu st) (cf st) (ah st) .none kV doc pm an cdv ct∧K.lookup f=some ⟨oc,od,.func fd,osl⟩∧PySem.W.codeIn K cdv qual=true
 kp:PySem.W.keepIn K (.ref f)=true
section
variable {P:Program} {w:World} {K:PySem.W.Frag} {mg:Str→Option Value} {base:Heap}
theorem Fun.ok {x qual:Str} {st:Stmt} {f:Addr} {fd:FuncData} {N ps:List Str} {k:Nat} {sp:Sp} (F:Fun K x qual st f fd) (S:FnScope N ps (ah st)) (len:∀ vs H Q E,sp vs H Q E→vs.length=ps.length)
 (hbody:∀ (cdv:Value) (A:Around) (outer:List Env) (s:Shared) (H:Hp) (vs:List V) (Q:VK) (E:XK),Room k (A.deeper (envOfC qual (ah st) s.heap.objs.size f cdv))→sp vs H Q E →
  ∃ t,PSs (ix CX0 P w K mg base N qual (ah st) f cdv A outer s H E).nox (cf st) t∧t { nx:=fun _ H'=>Q .non H',rt:=Q } (d8 N vs) H):FnOk P w K mg base CX0 (k + 1) f fd ps sp:=by
 obtain ⟨oc,od,kV,doc,pm,an,cdv,ct,osl,rfl,lk,hcd⟩:=F.ex
 refine uP lk hcd S len fun A outer s H vs Q E hr hsp=>?_
 obtain ⟨t,h,q⟩:=hbody cdv A outer s H vs Q E hr hsp
 exact ⟨t,h.nox,q⟩
theorem Fun.binds {x qual:Str} {st:Stmt} {f:Addr} {fd:FuncData} {ps:List Str} (F:Fun K x qual st f fd)
 (h:∀ (kV doc pm:Value) (an:Option Addr) (cdv ct:Value) (us:List Value),us.length=ps.length→bindArgs (PySem.W.fnOf x qual (eu st) (cf st) (ah st) .none kV doc pm an cdv ct) ⟨us,[]⟩=pure (ps.zip us)):cw K fd ps []:=by
 obtain ⟨oc,od,kV,doc,pm,an,cdv,ct,osl,rfl,lk,hcd⟩:=F.ex
 exact .all (h kV doc pm an cdv ct)
theorem iS {x qual:Str} {st:Stmt} {f:Addr} {oc:Value} {od an:Option Addr} {osl:Array (Option Value)} {kV doc pm cdv ct:Value} (l:K.lookup f=some ⟨oc,od,.func (PySem.W.fnOf x qual (eu st) (cf st) (ah st) .none kV doc pm an cdv ct),osl⟩)
 (c:PySem.W.codeIn K cdv qual=true) (k:PySem.W.keepIn K (.ref f)=true):Fun K x qual st f (PySem.W.fnOf x qual (eu st) (cf st) (ah st) .none kV doc pm an cdv ct):=⟨⟨oc,od,kV,doc,pm,an,cdv,ct,osl,rfl,l,c⟩,k⟩
end
theorem ff {n:Nat} (h:n≤1000):n<sizeLine:=Nat.lt_of_le_of_lt h (by decide)
section
variable {X:Cx}
theorem pv (i:Nat) {x:Str} {pos:Pos} (hN:X.N[i]? = some x:=by rfl) (hv:Vis X.env.scope x:=by first | exact Or.inl rfl | exact Or.inr (Or.inl rfl) | exact Or.inr (Or.inr rfl)) (hd:(x == ("__debug__":Str))=false:=by decide)
 (hcd:(x == ("__classdict__":Str))=false:=by decide):PE X (.Name x pos) (tVar i):=eO hN hv hd hcd
end
theorem bQ {c A B:Prop} [Decidable c] (h1:c→A) (h2 : ¬ c→B):if c then A else B:=by
 by_cases h:c
 ·rw [if_pos h]
  exact h1 h
 ·rw [if_neg h]
  exact h2 h
def aJ (H H':Hp):Prop:=∀ b o,H b=some o→H' b=some o
theorem aJ.refl (H:Hp):aJ H H:=fun _ _ h=>h
theorem aJ.trans {H H1 H2:Hp} (a:aJ H H1) (b:aJ H1 H2):aJ H H2:=fun c o h=>b c o (a c o h)
inductive D where
 | non | bl (b:Bool) | int (i:Int) | str (x:Str) | tup (ds:List D) | lst (ds:List D) | dct | dic (ks:List Key) (ds:List D) | scr (φ:Addr→Prop) (ns:List Int) | ext (φ:Hp→Addr→Prop)
mutual
def Rep (H:Hp):D→V→Prop
 | .non,v=>v = .non
 | .bl b,v=>v = .bl b
 | .int i,v=>v = .int i
 | .str x,v=>v = .str x
 | .tup ds,v=>∃ a xs,v = .ref a∧H a=some (.tup xs)∧Reps H ds xs
 | .lst ds,v=>∃ a xs,v = .ref a∧H a=some (.lst xs)∧Reps H ds xs
 | .dct,v=>∃ a kvs,v = .ref a∧H a=some (.dK kvs)
 | .dic ks ds,v=>∃ a xs,v = .ref a∧H a=some (.dK (ks.zip xs))∧ks.length=ds.length∧Reps H ds xs
 | .scr φ ns,v=>∃ a,v = .ref a∧((∃ o,H a=some (.frz o (.lst (ns.map V.int))))∨φ a)
 | .ext φ,v=>∃ a H0,v = .ref a∧aJ H0 H∧φ H0 a
def Reps (H:Hp):List D→List V→Prop
 | [],xs=>xs=[]
 | d :: ds,xs=>∃ v vs,xs=v :: vs∧Rep H d v∧Reps H ds vs
end
theorem Reps.length {H:Hp}:∀ {ds:List D} {xs:List V},Reps H ds xs→xs.length=ds.length
 | [],xs,h=>by rw [Reps] at h; subst h; rfl
 | d :: ds,xs,h=>by
  rw [Reps] at h
  obtain ⟨v,vs,rfl,_,h2⟩:=h
  have:=Reps.length h2
  simp [this]
mutual
theorem Rep.mono {H H':Hp} (e:aJ H H'):∀ (d:D) (v:V),Rep H d v→Rep H' d v
 | .non,v,h=>by rw [Rep] at *; exact h
 | .bl b,v,h=>by rw [Rep] at *; exact h
 | .int i,v,h=>by rw [Rep] at *; exact h
 | .str x,v,h=>by rw [Rep] at *; exact h
 | .tup ds,v,h=>by
  rw [Rep] at *
  obtain ⟨a,xs,h1,h2,h3⟩:=h
  exact ⟨a,xs,h1,e _ _ h2,Reps.mono e ds xs h3⟩
 | .lst ds,v,h=>by
  rw [Rep] at *
  obtain ⟨a,xs,h1,h2,h3⟩:=h
  exact ⟨a,xs,h1,e _ _ h2,Reps.mono e ds xs h3⟩
 | .dct,v,h=>by
  rw [Rep] at *
  obtain ⟨a,kvs,h1,h2⟩:=h
  exact ⟨a,kvs,h1,e _ _ h2⟩
 | .dic ks ds,v,h=>by
  rw [Rep] at *
  obtain ⟨a,xs,h1,h2,h3,h4⟩:=h
  exact ⟨a,xs,h1,e _ _ h2,h3,Reps.mono e ds xs h4⟩
 | .scr φ ns,v,h=>by
  rw [Rep] at *
  obtain ⟨a,h1,h2⟩:=h
  refine ⟨a,h1,?_⟩
  rcases h2 with ⟨o,h2⟩ | h2
  ·exact .inl ⟨o,e _ _ h2⟩
  ·exact .inr h2
 | .ext φ,v,h=>by
  rw [Rep] at *
  obtain ⟨a,H0,h1,h2,h3⟩:=h
  exact ⟨a,H0,h1,fun b o q=>e _ _ (h2 b o q),h3⟩
theorem Reps.mono {H H':Hp} (e:aJ H H'):∀ (ds:List D) (xs:List V),Reps H ds xs→Reps H' ds xs
 | [],xs,h=>by rw [Reps] at *; exact h
 | d :: ds,xs,h=>by
  rw [Reps] at *
  obtain ⟨v,vs,h1,h2,h3⟩:=h
  exact ⟨v,vs,h1,Rep.mono e d v h2,Reps.mono e ds vs h3⟩
end
def D.ty:D→String
 | .non => "NoneType" | .bl _ => "bool" | .int _ => "int" | .str _ => "str" | .tup _ => "tuple" | .lst _ => "list" | .dct => "dict" | .dic _ _ => "dict" | .scr _ _ => "list" | .ext _ => "object"
def D.isS:D→Bool
 | .scr _ _=>true
 | .ext _=>true
 | _=>false
theorem Rep.ty {K:PySem.W.Frag} {H:Hp} {d:D} {v:V} (h:Rep H d v) (hs:d.isS=false):TyOf K H v (.type d.ty):=by
 cases d with
 | non=>rw [Rep] at h; subst h; exact .non
 | bl b=>rw [Rep] at h; subst h; exact .bl b
 | int i=>rw [Rep] at h; subst h; exact .int i
 | str x=>rw [Rep] at h; subst h; exact .str x
 | tup ds=>rw [Rep] at h; obtain ⟨a,xs,rfl,h2,_⟩:=h; exact .tup h2
 | lst ds=>rw [Rep] at h; obtain ⟨a,xs,rfl,h2,_⟩:=h; exact .lst h2
 | dct=>rw [Rep] at h; obtain ⟨a,kvs,rfl,h2⟩:=h; exact .dK h2
 | dic ks ds=>rw [Rep] at h; obtain ⟨a,xs,rfl,h2,_⟩:=h; exact .dK h2
 | scr φ ns=>cases hs
 | ext φ=>cases hs
def fC (p:Addr) (H:Hp):Hp:=fun b=>if b=p then none else H b
theorem kE {H:Hp} {a:Addr} {xs:List V} {ds:List D} (h:H a=some (.tup xs)) (r:Reps H ds xs):Rep H (.tup ds) (.ref a):=by rw [Rep]; exact ⟨a,xs,rfl,h,r⟩
theorem e_ {H:Hp} {a:Addr} {xs:List V} {ds:List D} (h:H a=some (.lst xs)) (r:Reps H ds xs):Rep H (.lst ds) (.ref a):=by rw [Rep]; exact ⟨a,xs,rfl,h,r⟩
theorem bO {H:Hp}:Reps H [] []:=by rw [Reps]
theorem bA {H:Hp} {d:D} {v:V} {ds:List D} {vs:List V} (h:Rep H d v) (r:Reps H ds vs):Reps H (d :: ds) (v :: vs):=by rw [Reps]; exact ⟨v,vs,rfl,h,r⟩
theorem bg {H:Hp} (i:Int):Rep H (.int i) (.int i):=by rw [Rep]
theorem cZ {H:Hp} (i:Bool):Rep H (.bl i) (.bl i):=by rw [Rep]
theorem sY {H:Hp} (i:Str):Rep H (.str i) (.str i):=by rw [Rep]
theorem kH {H:Hp}:Rep H .non .non:=by rw [Rep]
theorem lE {H:Hp} {p:Addr} (h:H p=none) (o:HO):aJ H (upd H p o):=fun b u q=>by rw [aq (aD q h)]; exact q
section
variable {X:Cx}
def nT (d:D) (T:String):Option Bool:=if d.isS=true then none else if (Value.type d.ty == Value.type T)=true then some true else if PySem.W.kitMeta T=true then (fastBuiltinMro d.ty).map (·.contains (.type T)) else none
theorem rL (K:PySem.W.Frag) (d:D) (T:String) (hs:d.isS=false):PySem.W.kitOne K (.type d.ty) (.type T)=nT d T:=by
 unfold nT; rw [hs,if_neg (by decide)]; rfl
def rIsI:List V→Hp→VK→Prop:=fun xs H Q=>∃ x T d b,xs=[x,.ty T]∧Rep H d x∧nT d T=some b∧Q (.bl b) H
theorem lj:cF X (.builtin "isinstance") rIsI:=by
 intro pins s σ H xs us Q I r h
 obtain ⟨x,T,d,b,rfl,hd,e,q⟩:=h
 obtain ⟨u,w',rfl,ru,rw'⟩:=lw r
 cases (show w'=Value.type T from rw')
 have hs:d.isS=false:=by
  cases z:d.isS with
  | false=>rfl
  | true=>unfold nT at e; rw [z,if_pos rfl] at e; cases e
 rw [← rL X.K d T hs] at e
 exact jM I ru (hd.ty hs) e fun tk=>⟨.bl b,H,I.tok tk,rfl,q⟩
def Sm (i:Int):Prop:=i.natAbs<2 ^ 8000
theorem Sm.log {i:Int} (h:Sm i):i.natAbs.log2<8000:=by
 by_cases h0:i.natAbs=0
 ·rw [h0]; decide
 ·exact (Nat.log2_lt h0).mpr h
theorem Sm.bits {i:Int} (h:Sm i):Builtin.Int.intBits i≤8000:=by
 unfold Builtin.Int.intBits
 split
 ·exact Nat.zero_le _
 ·have:=h.log; omega
theorem Sm.mul {i j:Int} (h:Sm i) (h':Sm j):IntMulOk i j:=by
 have a:=h.bits
 have b:=h'.bits
 unfold IntMulOk Builtin.Int.intTooBig
 have e : ¬ ((Builtin.Int.intBits i:Int) + (Builtin.Int.intBits j:Int) > (bitsLine:Int)):=by
  have:bitsLine=134217728:=by decide
  omega
 rw [decide_eq_false e]
 simp
def CMulB (i j:Int):Prop:=Sm i∧Sm j
def CDivB (i j:Int):Prop:=0<j∧Sm j
theorem bM:OpR X (binaryOp .Mult) (rI CMulB fun i j=>.int (i * j)):=opI fun _ _ _ _ _ _ _ hc q=>mul_int q (hc.1.mul hc.2)
theorem dg:OpR X (binaryOp .FloorDiv) (rI CDivB fun i j=>.int (i / j)):=opI fun i j _ _ _ _ _ hc q=>by
 refine floordiv_int (Int.ne_of_gt hc.1) ?_ (.inl (PyProof.noPylong_of_log2 (Nat.lt_of_lt_of_le hc.2.log (by decide))))
 rw [Int.fdiv_eq_ediv_of_nonneg _ (Int.le_of_lt hc.1)]
 exact q
end
theorem bh:bootBuiltins "len" = some (.builtin "len"):=by decide +kernel
theorem wX:bootBuiltins "abs" = some (.builtin "abs"):=by decide +kernel
theorem kO:bootBuiltins "max" = some (.builtin "max"):=by decide +kernel
theorem lW:bootBuiltins "min" = some (.builtin "min"):=by decide +kernel
theorem aP:bootBuiltins "isinstance" = some (.builtin "isinstance"):=by decide +kernel
theorem vV:bootBuiltins "sum" = some (.builtin "sum"):=by decide +kernel
theorem jP:bootBuiltins "sorted" = some (.builtin "sorted"):=by decide +kernel
theorem gE:bootBuiltins "int" = some (.type "int"):=by decide +kernel
theorem tR:bootBuiltins "bool" = some (.type "bool"):=by decide +kernel
theorem eM:bootBuiltins "tuple" = some (.type "tuple"):=by decide +kernel
theorem cO:bootBuiltins "list" = some (.type "list"):=by decide +kernel
theorem ka:bootBuiltins "enumerate" = some (.type "enumerate"):=by decide +kernel
def bF (n b:Int):Int:=if b=0 then n else (Int.gcd n b:Int)
theorem jK {n b:Int} (h : 0<b):bF b (n % b)=bF n b:=by
 unfold bF
 have e:Int.gcd n b=Int.gcd b (n % b):=by
  rw [Int.emod_def,Int.gcd_sub_mul_left_right,Int.gcd_comm]
 rw [if_neg (show ¬ b=0 by omega)]
 split
 ·rename_i h0
  rw [e,h0,Int.gcd_zero_right]
  omega
 ·rw [e]
theorem d9 {n b:Int} (h : 0<b) : 0<bF n b:=by
 unfold bF
 rw [if_neg (by omega)]
 have : 0<Int.gcd n b:=Int.gcd_pos_of_ne_zero_right _ (by omega)
 omega
theorem ko {n b:Int} (h : 0<b):bF n b≤b:=by
 unfold bF
 rw [if_neg (by omega)]
 exact Int.le_of_dvd h (Int.gcd_dvd_right ..)
theorem ut {n b:Int} (h : 0<b):bF n b∣n:=by
 unfold bF
 rw [if_neg (by omega)]
 exact Int.gcd_dvd_left ..
theorem tZ {n b:Int} (h : 0<b):bF n b∣b:=by
 unfold bF
 rw [if_neg (by omega)]
 exact Int.gcd_dvd_right ..
section
variable {X:Cx} {pins:List (Addr×Obj)} {σ:St} {H:Hp} {s:Shared} {pos:Pos}
end
end L2
namespace L2
open PySem
theorem b_ {i:Int} {n:Nat} (h:i.natAbs≤n) (hn:n<2 ^ 8000):Sm i:=Nat.lt_of_le_of_lt h hn
end L2
namespace L2
open PySem PySem.Spec PyProof.Rows
def CL (env:Env):List (Str×Addr)→Prop
 | []=>True
 | p :: r=>env.cells.lookup p.1=some p.2∧CL env r
theorem CL.get {env:Env}:∀ {cl:List (Str×Addr)},CL env cl→∀ {x:Str} {c:Addr},cl.lookup x=some c→env.cells.lookup x=some c
 | [],_,x,c,h=>by simp at h
 | (y,d) :: r,h,x,c,e=>by
  rw [List.lookup_cons] at e
  cases hx:x == y with
  | true =>
   rw [hx] at e
   have e1:x=y:=by simpa using hx
   have e2:d=c:=Option.some.inj e
   subst e1 e2
   exact h.1
  | false =>
   rw [hx] at e
   exact CL.get h.2 e
theorem eT {env:Env}:∀ {names:List (Str×NameKind)} {x:Str} {k:NameKind},
 (names.map fun (n,k)=>if (k == NameKind.free&&env.scope.kind == .function&&env.kindOf n == some .cell) then (n,NameKind.cell) else (n,k)).lookup x=some k →
 ∃ k',names.lookup x=some k'∧(k'=k∨(k' = .free∧k = .cell))
 | [],x,k,h=>by simp at h
 | (n,kn) :: r,x,k,h=>by
  have ih:=@eT env r x k
  by_cases hc:(kn == NameKind.free&&env.scope.kind == .function&&env.kindOf n == some .cell)=true
  ·have h':List.lookup x ((n,NameKind.cell) :: (r.map fun (n,k)=>if (k == NameKind.free&&env.scope.kind == .function&&env.kindOf n == some .cell) then (n,NameKind.cell) else (n,k)))=some k:=by
    rw [List.map_cons] at h
    simp only [hc,if_true] at h
    exact h
   rw [List.lookup_cons] at h' ⊢
   cases hx:x == n with
   | true =>
    rw [hx] at h'
    have:kn = .free:=by
     simp only [Bool.and_eq_true,beq_iff_eq] at hc
     exact hc.1.1
    exact ⟨kn,rfl,.inr ⟨this,(Option.some.inj h').symm⟩⟩
   | false=>rw [hx] at h'; exact ih h'
  ·have h':List.lookup x ((n,kn) :: (r.map fun (n,k)=>if (k == NameKind.free&&env.scope.kind == .function&&env.kindOf n == some .cell) then (n,NameKind.cell) else (n,k)))=some k:=by
    rw [List.map_cons] at h
    simp only [hc] at h
    exact h
   rw [List.lookup_cons] at h' ⊢
   cases hx:x == n with
   | true=>rw [hx] at h'; exact ⟨kn,rfl,.inl (Option.some.inj h')⟩
   | false=>rw [hx] at h'; exact ih h'
def bL (X:Cx) (scope:Scope) (cl:List (Str×Addr)) (N:List Str) (C:Addr) (s₀:Shared) (H₀:Hp) (ex:List Addr):Cx where
 prog:=X.prog
 w:=X.w
 K:=X.K
 mg:=X.mg
 base:=X.base
 A:=X.A
 N:=N
 s₀:=s₀
 H₀:=H₀
 env:=compEnvC scope cl C X.env
 outer:=X.stack
 stack:=X.stack
 ex:=ex
 fn:=fun _=>false
 calm:=X.calm
 pn:=[]
 xe:=fun _ _=>False
def okJ (X:Cx) (scope:Scope) (j:Nat):Bool:=match X.N[j]? with
 | some x=>(match X.env.scope.names.lookup x with | some .cell=>true | _=>false)&&(match scope.names.lookup x with | some .free=>true | _=>false)
 | none=>false
def du (own:List Str) (js:List Nat) (σ:St):St:=own.map (fun _=>none)++js.map fun j=>(σ[j]?).getD none
def dt (X:Cx) (own:List Str) (js:List Nat):List Str:=own++js.map fun j=>(X.N[j]?).getD (Str.ofString "")
structure CompOk (X:Cx) (scope:Scope) (cl:List (Str×Addr)) (own:List Str) (js:List Nat):Prop where
 clos:closureFor scope X.env=pure cl
 kind:scope.kind = .function
 names:∀ x∈scope.names,x.2 = .local→scope.names.lookup x.1=some .local
 ncell:(scope.names.all fun y=>match y.2 with | .cell=>false | _=>true)=true
 has:(scope.names.all fun y=>match y.2 with | .free=>(cl.lookup y.1).isSome | _=>true)=true
 cells:CL X.env cl
 js:js.all (okJ X scope)=true
theorem CompOk.nc {X:Cx} {scope:Scope} {cl:List (Str×Addr)} {own:List Str} {js:List Nat} (c:CompOk X scope cl own js):∀ y∈scope.names,y.2≠.cell:=fun y hy e=>by
 have:=List.all_eq_true.mp c.ncell y hy
 rw [e] at this
 cases this
theorem CompOk.fr {X:Cx} {scope:Scope} {cl:List (Str×Addr)} {own:List Str} {js:List Nat} (c:CompOk X scope cl own js) {x:Str} (h:scope.names.lookup x=some .free):∃ d,cl.lookup x=some d:=by
 have:=List.all_eq_true.mp c.has (x,.free) (PySem.mem_of_lookup h)
 exact Option.isSome_iff_exists.mp this
section
variable {X:Cx} {pins:List (Addr×Obj)} {σ:St} {H:Hp} {s:Shared} {scope:Scope} {cl:List (Str×Addr)} {own:List Str} {js:List Nat}
theorem mJ {h1:Heap} {C:Addr} {fp:List Addr} {t':Nat} (c:CompOk X scope cl own js) (I:Inv X pins σ H s) (hf:∀ b∈fp,gC X pins H b) (hlt:∀ b∈fp,b<s.heap.objs.size)
 (hC:s.heap.objs.size≤C) (hk:∀ b o,s.heap.get? b=some o→h1.get? b=some o) (hn:h1.Ns C fun _=>none) :
 Inv (bL X scope cl (dt X own js) C s H fp) [] (du own js σ) H { s with heap:=h1,toks:=t' }:=by
 have kindOfY:∀ x k,(bL X scope cl (dt X own js) C s H fp).env.kindOf x=some k→∃ k',scope.names.lookup x=some k'∧(k'=k∨(k' = .free∧k = .cell)):=fun x k e=>eT (env:=X.env) (names:=scope.names) e
 refine ⟨⟨I.ok.mod,c.kind,I.ok.glob,I.ok.blt,hC,fun x y d h1 h2=>I.ok.inj x y d (c.cells.get h1) (c.cells.get h2),fun x hx=>?_,fun x d h=>(by cases h),I.ok.hd,I.ok.frames,.inl rfl,fun b hb=>⟨?_,fun x d e=>(hf b hb).2.2.2.2.1 x d (c.cells.get e)⟩,
  fun b o e=>I.bs b o e,Nat.le_trans I.ok.bsz I.sz,fun b o e hb=>?_,fun b hb z=>?_,I.stack,I.stkFree,I.ok.tb.un I.base⟩,rfl,I.bare,Un.kept hk,⟨_,hn,fun i x v e1 e2 e3=>?_⟩,fun x d e=>?_,I.hok.fresh hC,fun x d e=>I.freeC x d (c.cells.get e),fun p hp=>(by cases hp),I.hok.kept hk,?_⟩
 ·rcases hx with hx | hx
  ·obtain ⟨k',e1,e2⟩:=kindOfY x _ hx
   rcases e2 with e2 | ⟨e2,_⟩
   ·exact absurd e2 (c.nc _ (PySem.mem_of_lookup e1))
   ·subst e2; exact c.fr e1
  ·obtain ⟨k',e1,e2⟩:=kindOfY x _ hx
   rcases e2 with e2 | ⟨_,e2⟩
   ·subst e2; exact c.fr e1
   ·cases e2
 ·exact Nat.ne_of_lt (Nat.lt_of_lt_of_le (hlt b hb) hC)
 ·rcases (hf b hb).2.2.2.1 with z | z
  ·exact I.ok.noex b o e z
  ·exact absurd (Nat.lt_of_lt_of_le (Heap.lt_size e) (Nat.le_trans I.ok.bsz z)) (Nat.lt_irrefl _)
 ·rcases List.mem_cons.mp (I.stkSub b z) with q | q
  ·exact (hf b hb).2.1 q
  ·exact (hf b hb).2.2.1 q
 ·-- a name taken from the frame
  have e1:(dt X own js)[i]? = some x:=e1
  unfold dt at e1
  unfold du at e2
  by_cases hi:i<own.length
  ·rw [List.getElem?_append_left (by simpa using hi),List.getElem?_map,List.getElem?_eq_getElem hi] at e2
   cases e2
  ·rw [List.getElem?_append_right (by simpa using Nat.not_lt.mp hi),List.getElem?_map,List.length_map] at e2
   rw [List.getElem?_append_right (Nat.not_lt.mp hi),List.getElem?_map] at e1
   cases ej:js[i - own.length]? with
   | none=>rw [ej] at e2; cases e2
   | some j =>
    rw [ej] at e1 e2
    have hj:=List.all_eq_true.mp c.js j (List.mem_of_getElem? ej)
    unfold okJ at hj
    have e1':(X.N[j]?).getD (Str.ofString "")=x:=Option.some.inj e1
    have e2':(σ[j]?).getD none=some v:=Option.some.inj e2
    cases en:X.N[j]? with
    | none=>rw [en] at hj; cases hj
    | some y =>
     rw [en] at hj e1'
     have e1'':y=x:=e1'
     subst e1''
     have hv : σ[j]? = some (some v):=by
      cases es : σ[j]? with
      | none=>rw [es] at e2'; cases e2'
      | some ov=>rw [es] at e2'; rw [show ov=some v from e2']
     dsimp only at hj
     rw [Bool.and_eq_true] at hj
     have k1:X.env.scope.names.lookup y=some .cell:=by
      have:=hj.1
      split at this
      ·assumption
      ·cases this
     have k2:scope.names.lookup y=some .free:=by
      have:=hj.2
      split at this
      ·assumption
      ·cases this
     obtain ⟨m,_,hl⟩:=I.loc
     obtain ⟨u,ru,l⟩:=hl j y v en hv (.inr (.inl k1))
     refine ⟨u,ru,?_⟩
     rcases l with ⟨l,_⟩ | ⟨_,d,ed,z⟩
     ·rw [show X.env.kindOf y=some .cell from k1] at l; cases l
     ·obtain ⟨d',ed'⟩:=c.fr k2
      have:=c.cells.get ed'
      rw [ed] at this
      cases this
      obtain ⟨o,ho,hd⟩:=z
      refine .inr ⟨?_,d,ed',⟨o,hk _ _ ho,hd⟩⟩
      have e3:(bL X scope cl (dt X own js) C s H fp).env.scope.names.lookup y=some .local∨(bL X scope cl (dt X own js) C s H fp).env.scope.names.lookup y=some .cell∨(bL X scope cl (dt X own js) C s H fp).env.scope.names.lookup y=some .free:=e3
      rcases e3 with e3 | e3 | e3
      ·obtain ⟨k',q1,q2⟩:=kindOfY y _ e3
       rw [k2] at q1
       cases q1
       rcases q2 with q2 | ⟨_,q2⟩ <;> cases q2
      ·exact .inl e3
      ·exact .inr e3
 ·obtain ⟨v,o,ho,hd⟩:=I.cell x d (c.cells.get e)
  exact ⟨v,o,hk _ _ ho,hd⟩
 ·show (du own js σ).length=(dt X own js).length
  unfold du dt
  simp
structure PIf (X:Cx) (ifs:List Expr) (t:TT):Prop where
 go:∀ (pins:List (Addr×Obj)) (s:Shared) (σ:St) (H:Hp) (Q:Bool→Hp→Prop),Inv X pins σ H s→t σ H Q →
  wpAny (model X.prog X.w) X.A (forIn ifs true fun c r=>if r=true then do let ok ← isTrue c X.env (eval c X.env); pure (ForInStep.yield ok) else pure (ForInStep.yield r)) (TP X pins σ Q) X.xe s
def tYes:TT:=fun _ H Q=>Q true H
theorem tO:PIf X [] tYes:=⟨fun pins s σ H Q I h=>wpAny_tests_nil ⟨H,I,h⟩⟩
theorem sV {c:Expr} {t:TT} (h:PT X c t):PIf X [c] t:=⟨fun pins s σ H Q I q=>wpAny_tests_one (h.go pins s σ H Q I q)⟩
theorem fA {prog:Program} {w:World} {A:Around} {R:Result→Shared→Prop} {s:Shared} {elt target iter:Expr} {ifs:List Expr} {scope:Scope} {pos:Pos} {it acc:Value} {env:Env} (I:Nat→Shared→Prop)
 (turn:∀ n s,I n s→wpAny (model prog w) A (pyNext it) (fun r s₁=>match r with
  | none=>R (.ok .next) s₁
  | some v=>wpAny (model prog w) A (letOwnedTupleGo target it v) (fun _ s₁=>wpAny (model prog w) A (assign target env v) (fun _ s₂ =>
   wpAny (model prog w) A (forIn ifs true fun c r=>if r=true then do let ok ← isTrue c env (eval c env); pure (ForInStep.yield ok) else pure (ForInStep.yield r)) (fun ok s₃ =>
    if ok=true then wpAny (model prog w) A (eval elt env) (fun x s₄ =>
     wpAny (model prog w) A (call (.builtin "list.append") [acc,x]) (fun _ s₅=>∃ m,m<n∧I m s₅) (fun _ _=>False) s₄) (fun _ _=>False) s₃
    else ∃ m,m<n∧I m s₃) (fun _ _=>False) s₂) (fun _ _=>False) s₁) (fun _ _=>False) s₁) (fun _ _=>False) s)
 (n:Nat) (h:I n s) :
 codeAny (model prog w) A (.compLoop (.ListComp elt [⟨target,iter,ifs,0⟩] scope pos) 0 it acc env) R s:=by
 refine codeAny_loop rfl I (fun n s hI=>?_) n h
 show wpAny _ A ((compTurn (.ListComp elt [⟨target,iter,ifs,0⟩] scope pos) 0 it acc env).onRaise (fun x=>do noteFrame x env; theTreesLotGoes x)) _ _ s
 refine wpAny_noted ?_
 rw [compTurn_list]
 refine wpAny_bind (wpAny_standAt (wpAny_bind (wpAny_mono (turn n s hI) (fun r s₁ h₁=>?_) fun _ _ h'=>h'.elim)))
 cases r with
 | none=>exact wpAny_pure h₁
 | some v =>
  refine wpAny_bind (wpAny_mono h₁ (fun _ s₁ h₁=>?_) fun _ _ h'=>h'.elim)
  refine wpAny_bind (wpAny_mono h₁ (fun _ s₂ h₂=>wpAny_bind (wpAny_mono h₂ (fun ok s₃ h₃=>?_) fun _ _ h'=>h'.elim)) fun _ _ h'=>h'.elim)
  cases ok with
  | false=>exact wpAny_pure ⟨rfl,h₃⟩
  | true =>
   exact wpAny_bind (wpAny_bind (wpAny_mono h₃ (fun x s₄ h₄=>wpAny_bind (wpAny_mono h₄ (fun _ s₅ h₅=>wpAny_pure (wpAny_pure ⟨rfl,h₅⟩)) fun _ _ h'=>h'.elim)) fun _ _ h'=>h'.elim))
def kept:St→St→Prop
 | [],[]=>True
 | none :: r,_ :: r'=>kept r r'
 | some v :: r,y :: r'=>y=some v∧kept r r'
 | [],_ :: _=>False
 | _ :: _,[]=>False
theorem fU:∀ {a b:St},kept a b→a.length=b.length
 | [],[],_=>rfl
 | none :: r,_ :: r',h=>congrArg (· + 1) (fU (a:=r) (b:=r') h)
 | some v :: r,y :: r',h=>congrArg (· + 1) (fU (a:=r) (b:=r') h.2)
 | [],_ :: _,h=>False.elim h
 | none :: _,[],h=>False.elim h
 | some _ :: _,[],h=>False.elim h
theorem gu:∀ {a b:St},kept a b→∀ (i:Nat) (v:V),a[i]? = some (some v)→b[i]? = some (some v)
 | [],[],_,i,v,e=>by simp at e
 | none :: r,_ :: r',h,0,v,e=>by simp at e
 | none :: r,_ :: r',h,i + 1,v,e=>by simpa using gu (a:=r) (b:=r') h i v (by simpa using e)
 | some w :: r,y :: r',h,0,v,e=>by simp at e; subst e; simp [h.1]
 | some w :: r,y :: r',h,i + 1,v,e=>by simpa using gu (a:=r) (b:=r') h.2 i v (by simpa using e)
 | [],_ :: _,h,_,_,_=>False.elim h
 | none :: _,[],h,_,_,_=>False.elim h
 | some _ :: _,[],h,_,_,_=>False.elim h
def qQ (J:It) (g:TG) (tt:TT) (te:TE) (σ0:St) (H:Hp) (Z:List V→Hp→Prop):Prop :=
 ∃ W:Nat→Nat→List V→Hp→Prop,(∃ m,W 0 m [] H)∧∀ i m acc H,W i m acc H →
  (J.stop i H∧acc.length≤sizeLine∧Z acc H)∨(J.go i H∧acc.length<sizeLine∧∃ N:List V→Hp→Prop,(∀ acc' H',N acc' H'→∃ m',m'<m∧W (i + 1) m' acc' H') ∧
   ∀ x H',J.yld i H x H'→g x σ0 H' fun σ2 H2=>kept σ0 σ2∧tt σ2 H2 fun b H3=>if b=true then te σ2 H3 fun v H4=>N (acc++[v]) H4 else N acc H3)
theorem HOk.adopt {P:Program} {w:World} {H:Hp} {h:Heap} {a:Addr} {o:HO} (x:HOk P w H h) (hn:H a=none) (new:a5 P w (upd H a o) h a o):HOk P w (upd H a o) h:=fun b u e=>by
 by_cases hb:b=a
 ·subst hb; rw [av] at e; cases e; exact new
 ·rw [aq hb] at e
  exact (x b u e).stay (fun c v _ q=>q) (fun c q=>by rw [aq (aD q hn)]; exact q) (fun c xs q=>by rw [aq (aD q hn)]; exact q) fun c ob u q=>by rw [aq (aD q hn)]; exact q
theorem jR {elt tg iter:Expr} {ifs:List Expr} {pos:Pos} {J:It} {fp:List Addr} {it:Addr} {tn:Nat→Heap→Prop} {g:TG} {tt:TT} {te:TE} {Z:List V→Hp→Prop} {E:Value→Shared→Prop}
 {RR:Value→Addr→Result→Shared→Prop} (c:CompOk X scope cl own js) (hc:X.calm=true) (I:Inv X pins σ H s) (T:Turn X.prog X.w X.K tg J fp it tn) (t0:tn 0 s.heap) (hf:∀ b∈fp,gC X pins H b)
 (inner:∀ (C:Addr) (s₀:Shared) (H₀:Hp) (ex:List Addr),PG (bL X scope cl (dt X own js) C s₀ H₀ ex) tg g∧PIf (bL X scope cl (dt X own js) C s₀ H₀ ex) ifs tt∧PE (bL X scope cl (dt X own js) C s₀ H₀ ex) elt te)
 (hW:qQ J g tt te (du own js σ) H Z)
 (hRR:∀ (D C:Addr) (s':Shared) (acc:List V) (H':Hp),(∃ m,s'.heap.Ns C m)→H' D=none→Z acc H'→s.heap.objs.size≤C→C≠X.env.locals→(upd H' D (.lst acc)) C=none→(∀ h',Heap.SameBut C s'.heap h'→Inv X pins σ (upd H' D (.lst acc)) { s' with heap:=h' })→RR (.ref D) C (.ok .next) s') :
 wpAny (model X.prog X.w) X.A (newList []) (fun acc s₃=>wpAny (model X.prog X.w) X.A (newFunctionEnv scope X.env.globals cl [] X.env.qual none .none (some X.env)) (fun cenv s₄ =>
  codeAny (model X.prog X.w) X.A (.compStart (.ListComp elt [⟨tg,iter,ifs,0⟩] scope pos) 0 (.ref it) acc { cenv with scope:=relabel scope X.env }) (RR acc cenv.locals) s₄) E s₃) E s:=by
 refine wpAny_newObj_type (wpAny_newFunctionEnv c.nc (by intro y hy; simp at hy) (fun h₁ hns₁ hsb₁=>?_) c.kind)
 dsimp only at hns₁ hsb₁ ⊢
 generalize hH2:s.heap.push { cls:=.type "list",dict:=none,data:=.seq ([]:List Value).toArray } = H2 at hns₁ hsb₁ ⊢
 have hCs:H2.objs.size=s.heap.objs.size + 1:=by rw [← hH2,Heap.size_push]
 have hns₁:h₁.Ns H2.objs.size (fun _=>none):=hns₁
 have hCle:s.heap.objs.size≤H2.objs.size:=by rw [hCs]; exact Nat.le_succ _
 have hDC:s.heap.objs.size≠H2.objs.size:=by rw [hCs]; exact Nat.ne_of_lt (Nat.lt_succ_self _)
 have below:∀ b,b<s.heap.objs.size→b≠H2.objs.size∧b≠s.heap.objs.size:=fun b hb=>⟨by rw [hCs]; exact Nat.ne_of_lt (Nat.lt_succ_of_lt hb),Nat.ne_of_lt hb⟩
 have old:∀ b o,s.heap.get? b=some o→h₁.get? b=some o:=fun b o e=>hsb₁.extBut b o (below b (Heap.lt_size e)).1 (Heap.get?_push_of_some _ (hH2 ▸ Heap.get?_push_of_some _ e))
 have hD1:h₁.get? s.heap.objs.size=some { cls:=.type "list",data:=.seq ([]:List Value).toArray }:=hsb₁.extBut _ _ hDC (Heap.get?_push_of_some _ (hH2 ▸ Heap.get?_push_size _ rfl))
 have hlt:∀ b∈fp,b<s.heap.objs.size:=fun b hb=>by
  obtain ⟨o,e,_⟩:=T.obj 0 _ t0 b hb
  exact Heap.lt_size e
 have hCL:H2.objs.size≠X.env.locals:=fun z=>absurd (Nat.lt_of_lt_of_le I.lt (by rw [← z]; exact hCle)) (Nat.lt_irrefl _)
 have hDfs:s.heap.objs.size ∉ frs X.stack:=fun z=>by
  rcases List.mem_cons.mp (I.stkSub _ z) with q | q
  ·exact absurd I.lt (by rw [← q]; exact Nat.lt_irrefl _)
  ·exact I.nofs (Nat.le_refl _) q
 have hfs:∀ b∈fp,b ∉ frs X.stack:=fun b hb z=>by
  rcases List.mem_cons.mp (I.stkSub b z) with q | q
  ·exact (hf b hb).2.1 q
  ·exact (hf b hb).2.2.1 q
 have hDcell:∀ x d,cl.lookup x=some d→d≠s.heap.objs.size:=fun x d e=>by
  obtain ⟨v,q⟩:=I.cell x d (c.cells.get e)
  exact Nat.ne_of_lt q.lt
 have fresh:H s.heap.objs.size=none:=I.hok.fresh (Nat.le_refl _)
 obtain ⟨W,⟨m0,w0⟩,turn⟩:=hW
 have loop:∀ s₃:Shared,s₃ = { s with heap:=h₁,toks:=s.toks + ([]:List (Str×Value)).length } →
  codeAny (model X.prog X.w) X.A (.compLoop (.ListComp elt [⟨tg,iter,ifs,0⟩] scope pos) 0 (.ref it) (.ref s.heap.objs.size) (compEnvC scope cl H2.objs.size X.env)) (RR (.ref s.heap.objs.size) H2.objs.size) s₃:=by
  rintro s₃ rfl
  have I0:=mJ (t':=s.toks + ([]:List (Str×Value)).length) c I hf hlt hCle old hns₁
  obtain ⟨hg,hi,he⟩:=inner H2.objs.size s H fp
  generalize hY:bL X scope cl (dt X own js) H2.objs.size s H fp=Y at I0 hg hi he
  have Yp:Y.prog=X.prog:=by rw [← hY]; rfl
  have Yw:Y.w=X.w:=by rw [← hY]; rfl
  have YK:Y.K=X.K:=by rw [← hY]; rfl
  have YA:Y.A=X.A:=by rw [← hY]; rfl
  have Ye:Y.env=compEnvC scope cl H2.objs.size X.env:=by rw [← hY]; rfl
  have Yl:Y.env.locals=H2.objs.size:=by rw [← hY]; rfl
  have Yc:Y.env.cells=cl:=by rw [← hY]; rfl
  have Yf:Y.fs=frs X.stack:=by rw [← hY]; rfl
  have Yx:Y.ex=fp:=by rw [← hY]; rfl
  have Ys:Y.s₀=s:=by rw [← hY]; rfl
  have YH:Y.H₀=H:=by rw [← hY]; rfl
  have Yn:Y.pn=[]:=by rw [← hY]; rfl
  have Yo:Y.calm=true:=by rw [← hY]; exact hc
  have YE:Y.xe=fun _ _=>False:=by rw [← hY]; rfl
  have fpY:∀ {H':Hp} (pn:List (Addr×Obj)),(∀ b∈fp,H' b=none)→(∀ b∈fp,∀ p∈pn,p.1≠b)→∀ b∈fp,gC Y pn H' b:=fun pn hn hp b hb =>
   ⟨hn b hb,by rw [Yl]; exact (below b (hlt b hb)).1,by rw [Yf]; exact hfs b hb,.inl (by rw [Yx]; exact hb),fun x d e=>(hf b hb).2.2.2.2.1 x d (c.cells.get (by rw [← Yc]; exact e)),fun p hp'=>hp b hb p (by rw [Yn] at hp'; exact hp')⟩
  refine fA (fun n s'=>∃ i acc its k H',Inv Y [] (du own js σ) H' s'∧tn i s'.heap∧(∀ b∈fp,H' b=none)∧W i n acc H'∧H' s.heap.objs.size=none∧s'.heap.get? s.heap.objs.size=some { cls:=.type "list",data:=.seq (its:List Value).toArray k }∧aV acc its) ?_ m0
   ⟨0,[],[],0,H,I0,T.keep 0 _ _ t0 (fun b hb o e=>old b o e),fun b hb=>(hf b hb).1,w0,fresh,hD1,.nil⟩
  rintro n s' ⟨i,acc,its,k,H',I',tn',fr',w',hD',oD',hv'⟩
  have hpinD:∀ b∈fp,∀ p∈[(s.heap.objs.size,({ cls:=.type "list",data:=.seq its.toArray k }:Obj))],p.1≠b:=fun b hb p hp=>by
   rw [List.mem_singleton] at hp
   subst hp
   exact fun z=>(below b (hlt b hb)).2 z.symm
  have ID:Inv Y [(s.heap.objs.size,({ cls:=.type "list",data:=.seq its.toArray k }:Obj))] (du own js σ) H' s':=I'.pins_of fun p hp=>by
   rw [List.mem_singleton] at hp
   subst hp
   exact ⟨oD',hD',by rw [Yl]; exact hDC,by rw [Yf]; exact hDfs,fun v z=>by cases z⟩
  rcases turn i n acc H' w' with ⟨stop,hlen,hz⟩ | ⟨go,hlen,N,hN,step⟩
  ·have hd:=T.done Y Yp Yw YK Yo i _ s' (du own js σ) H' (fun _ _=>False) ID (fpY _ fr' hpinD) tn' stop
   rw [YA] at hd
   refine thn hd fun r s1 ⟨hr,I1⟩=>?_
   subst hr
   obtain ⟨oD1,_⟩:=I1.pin _ (List.mem_append_right _ (List.mem_singleton.mpr rfl))
   have hC0:H' H2.objs.size=none:=by have:=I1.free; rw [Yl] at this; exact this
   have B1:Un (frs X.stack) fp H H' s.heap s1.heap:=by have:=I1.base; rw [Yf,Yx,YH,Ys] at this; exact this
   refine hRR s.heap.objs.size H2.objs.size s1 acc H' (by obtain ⟨m,hn,_⟩:=I1.loc; rw [Yl] at hn; exact ⟨m,hn⟩) hD' hz hCle hCL (by rw [aq (Ne.symm hDC)]; exact hC0) fun h' hsb=>?_
   have at':∀ b o,b≠H2.objs.size→s1.heap.get? b=some o→h'.get? b=some o:=fun b o hb e=>by rw [hsb.2 b hb]; exact e
   refine I.call' (s':={ s1 with heap:=h' }) (ch:=fp) (by have:=I1.os; rw [Ys] at this; exact this) ⟨fun b o q nn hb hx=>?_,fun b o q nn hb hx=>?_,fun b o q nn hx=>?_,fun b o q hx=>?_,fun b xs q=>?_,fun b o u q=>?_,fun b ps q0 q=>?_⟩ ?_ I1.bare fun b hb=>⟨(hf b hb).2.2.2.1,(hf b hb).2.1,(hf b hb).2.2.2.2.1,(hf b hb).2.2.2.2.2⟩
   ·exact at' b o (below b (Heap.lt_size q)).1 (B1.keep b o q nn hb hx)
   ·obtain ⟨sl,e⟩:=B1.slot b o q nn hb hx
    exact ⟨sl,at' b _ (below b (Heap.lt_size q)).1 e⟩
   ·rw [aq (below b (Heap.lt_size q)).2]; exact B1.free b o q nn hx
   ·obtain ⟨o',e⟩:=B1.there b o q hx
    exact ⟨o',at' b _ (below b (Heap.lt_size q)).1 e⟩
   ·have q':=B1.tups b xs q
    rw [aq (aD q' hD')]; exact q'
   ·have q':=B1.frzs b o u q
    rw [aq (aD q' hD')]; exact q'
   ·obtain ⟨more,q'⟩:=B1.tbls b ps _ q
    exact ⟨more,by rw [aq (aD q' hD')]; exact q'⟩
   ·have hok1:HOk X.prog X.w H' h':=fun a o e=>by
     have hok:=I1.hok
     rw [Yp,Yw] at hok
     refine (hok a o e).stay (fun b u hb q=>at' b u ?_ q) (fun _ q=>q) (fun _ _ q=>q) fun _ _ _ q=>q
     rcases hb with rfl | hb
     ·exact aD e hC0
     ·exact aD hb hC0
    exact hok1.adopt hD' ⟨hlen,its,k,hv',at' _ _ hDC oD1⟩
  ·have hd:=T.item Y Yp Yw YK Yo i _ s' (du own js σ) H' (fun _ _=>False) ID (fpY _ fr' hpinD) tn' go
   rw [YA] at hd
   refine thn hd fun r s1 ⟨u,hr,h4⟩=>?_
   subst hr
   have h4:=h4
   refine thn h4 fun _ s2 ⟨x,H5,I5,r5,y5,tn5,fr5⟩=>?_
   have I5':=I5.pinned (fpY _ fr5 hpinD) (T.obj _ _ tn5)
   have hg':=hg.go _ s2 _ H5 x u _ I5' r5 (step x H5 y5)
   rw [Yp,Yw,YA,Ye,YE] at hg'
   refine thn hg' fun _ s3 ⟨σ6,H6,I6,kp6,q6⟩=>?_
   have hi':=hi.go _ s3 σ6 H6 _ I6 q6
   rw [Yp,Yw,YA,Ye,YE] at hi'
   refine thn hi' fun ok s4 ⟨H7,I7,q7⟩=>?_
   cases ok with
   | false =>
    rw [if_neg Bool.false_ne_true] at q7 ⊢
    obtain ⟨m',hm,w7⟩:=hN _ _ q7
    obtain ⟨oD7,hD7,_⟩:=I7.pin _ (List.mem_append_right _ (List.mem_append_left _ (List.mem_singleton.mpr rfl)))
    refine ⟨m',hm,i + 1,acc,its,k,H7,(I7.pins_of (pins':=[]) fun p hp=>(by cases hp)).weak (fU kp6) (gu kp6),T.keep _ _ _ tn5 fun b hb o e=>(I7.pin (b,o) (List.mem_append_right _ (List.mem_append_right _ (cJ hb e)))).1,fun b hb=>?_,w7,hD7,oD7,hv'⟩
    obtain ⟨o,e,_⟩:=T.obj _ _ tn5 b hb
    exact (I7.pin (b,o) (List.mem_append_right _ (List.mem_append_right _ (cJ hb e)))).2.1
   | true =>
    rw [if_pos rfl] at q7 ⊢
    have he':=he.go _ s4 σ6 H7 _ I7 q7
    rw [Yp,Yw,YA,Ye,YE] at he'
    refine thn he' fun v s5 ⟨xv,H8,I8,r8,n8⟩=>?_
    obtain ⟨m',hm,w8⟩:=hN _ _ n8
    obtain ⟨oD8,hD8,_⟩:=I8.pin _ (List.mem_append_right _ (List.mem_append_left _ (List.mem_singleton.mpr rfl)))
    have hsz:its.toArray.size<sizeLine:=by rw [List.size_toArray,← hv'.length]; exact hlen
    refine call_meets F.slot_list_append ⟨_,oD8,rfl⟩ F.entry_list_append (F.args_list_append_2 _ _) (PySem.list_append s.heap.objs.size its.toArray k v (Nat.le_of_lt hsz)) ⟨oD8,?_⟩
    have q:=PySem.IsL.update oD8 (fun a=>a.push v)
    have J8:Inv Y (iE fp s2.heap) σ6 H8 s5:=I8.pins_of fun p hp=>I8.pin p (List.mem_append_right _ (List.mem_append_right _ hp))
    have ne8:∀ b,b∈fp→b≠s.heap.objs.size:=fun b hb=>(below b (hlt b hb)).2
    have J9:=J8.turned (t':=s5.toks) (h':=s5.heap.update s.heap.objs.size (Obj.mapSeq fun a=>a.push v)) (it:=s.heap.objs.size) (fun b o hb e=>(Heap.get?_update_other s5.heap _ (Ne.symm hb)).trans e) hD8 (by rw [Yl]; exact hDC) (.inr (by rw [Ys]; exact Nat.le_refl _)) (fun x d e=>hDcell x d (by rw [← Yc]; exact e))
     (fun p hp=>by
      rw [Yn,List.nil_append] at hp
      obtain ⟨hb,_⟩:=jG hp
      exact ne8 _ hb)
    have keep9:∀ b o,b∈fp→s2.heap.get? b=some o→(s5.heap.update s.heap.objs.size (Obj.mapSeq fun a=>a.push v)).get? b=some o:=fun b o hb e=>(J9.pin (b,o) (List.mem_append_right _ (cJ hb e))).1
    refine ⟨m',hm,i + 1,acc++[xv],its++[v],(if ((its++[v]).toArray.size == its.toArray.size)=true then k else k + 1),H8,(J9.pins_of (pins':=[]) fun p hp=>(by cases hp)).weak (fU kp6) (gu kp6),T.keep _ _ _ tn5 fun b hb o e=>keep9 b o hb e,fun b hb=>?_,w8,hD8,?_,hv'.append (.cons r8 .nil)⟩
    ·obtain ⟨o,e,_⟩:=T.obj _ _ tn5 b hb
     exact (J9.pin (b,o) (List.mem_append_right _ (cJ hb e))).2.1
    ·have q':=q
     simp only [List.push_toArray] at q'
     exact q'
 exact codeAny_compStart_list (loop _ rfl) (T.self _ 0 _ _ _ (T.keep 0 _ _ t0 (fun b hb o e=>old b o e)) (loop _ rfl))
def nk (wi:TI) (g:TG) (tt:TT) (te:TE) (own:List Str) (js:List Nat):TE:=fun σ H Q=>wi σ H fun J H1=>qQ J g tt te (du own js σ) H1 fun acc H2=>∀ p,H2 p=none→Q (.ref p) (upd H2 p (.lst acc))
theorem mS {elt tg iter:Expr} {ifs:List Expr} {pos:Pos} {wi:TI} {g:TG} {tt:TT} {te:TE} (own:List Str) (js:List Nat) (c:CompOk X scope cl own js) (hc:X.calm=true) (hi:PI X tg iter wi)
 (inner:∀ (C:Addr) (s₀:Shared) (H₀:Hp) (ex:List Addr),PG (bL X scope cl (dt X own js) C s₀ H₀ ex) tg g∧PIf (bL X scope cl (dt X own js) C s₀ H₀ ex) ifs tt∧PE (bL X scope cl (dt X own js) C s₀ H₀ ex) elt te)
 (hs:∀ x,foldedSetIterable iter X.env x=pure x:=by intro _; rfl):PE X (.ListComp elt [⟨tg,iter,ifs,0⟩] scope pos) (nk wi g tt te own js):=by
 refine ⟨fun pins s σ H Q I h=>?_⟩
 rw [eval_ListComp]
 refine wpAny_comprehension_free (use:=none) rfl hs c.clos c.kind c.names (thn (hi.go pins s σ H _ I h) fun v s1 h1=>thn h1 fun itv s2 h2=>?_)
 obtain ⟨it,fp,tn,J,H2,e,I2,T,st2,f2,hW⟩:=h2
 subst e
 refine jR (RR:=fun acc C=>compPost (model X.prog X.w) X.A X.xe none (EP X pins σ Q) acc C) c hc I2 T st2 f2 inner hW ?_
 intro D C s' acc H' hn hD hz hDC hCL hUC hI
 exact ⟨hn.choose,hn.choose_spec,fun h' hsb=>⟨.ref D,_,hI h' hsb,rfl,hz D hD⟩⟩
theorem lP {elt tg iter:Expr} {ifs:List Expr} {pos spos py:Pos} {wi:TI} {g:TG} {tt:TT} {te:TE} {i:Nat} {y:Str} (own:List Str) (js:List Nat) (c:CompOk X scope cl own js) (hc:X.calm=true) (hN:X.N.Nodup) (hy:X.N[i]? = some y) (hx:Loc X.env.scope y) (hi:PI X tg iter wi)
 (inner:∀ (C:Addr) (s₀:Shared) (H₀:Hp) (ex:List Addr),PG (bL X scope cl (dt X own js) C s₀ H₀ ex) tg g∧PIf (bL X scope cl (dt X own js) C s₀ H₀ ex) ifs tt∧PE (bL X scope cl (dt X own js) C s₀ H₀ ex) elt te)
 (hsw:swapsWith (.ListComp elt [⟨tg,iter,ifs,0⟩] scope pos) (some (.Name y py)) spos.line X.env=pure true:=by rfl)
 (hs:∀ x,foldedSetIterable iter X.env x=pure x:=by intro _; rfl) (hf:X.fn y=true∨X.env.scope.names.lookup y=some .local:=by first | exact .inl rfl | exact .inr rfl | assumption) :
 PS X (.Assign [.Name y py] (.ListComp elt [⟨tg,iter,ifs,0⟩] scope pos) spos) (nW (nk wi g tt te own js) (iR i)):=by
 refine ⟨fun pins s σ H D I h=>?_⟩
 rw [exec_Assign_Name_used _ _ _ _ hsw]
 refine wpAny_bind (wpAny_standAt (wpAny_bind ?_))
 show wpAny _ X.A (do let _ ← comprehension (.ListComp elt [⟨tg,iter,ifs,0⟩] scope pos) scope X.env _ (newList []) false (eval iter X.env) (some (assign (.Name y py) X.env))) _ _ s
 refine wpAny_bind (wpAny_mono (wpAny_comprehension_free (use:=some (assign (.Name y py) X.env)) (Q:=fun _ s'=>SP X pins D .next s') rfl hs c.clos c.kind c.names
  (thn (hi.go pins s σ H _ I h) fun v s1 h1=>thn h1 fun itv s2 h2=>?_)) (fun _ s' hq=>wpAny_pure (wpAny_pure hq)) fun _ _ e=>e)
 obtain ⟨it,fp,tn,J,H2,e,I2,T,st2,f2,hW⟩:=h2
 subst e
 refine jR (RR:=fun acc C=>compPost (model X.prog X.w) X.A X.xe (some (assign (.Name y py) X.env)) (fun _ s'=>SP X pins D .next s') acc C) c hc I2 T st2 f2 inner hW ?_
 intro D' C s' acc H' hn hD hz hDC hCL hUC hI
 show wpAny _ X.A (assign (.Name y py) X.env (.ref D')) _ _ _
 have I9:=hI s'.heap (Heap.SameBut.refl _ _)
 obtain ⟨m,hm⟩:=hn
 refine wpAny_assign_Name (ju (v:=.ref D') I9 hN hy hx rfl (fun s'' I'' ⟨a,sb,ha⟩=>?_) hf)
 have aC:C≠a:=by
  rcases ha with ha | ha
  ·rw [ha]; exact hCL
  ·intro z
   subst z
   obtain ⟨v,q⟩:=I2.cell y C ha
   exact absurd (Nat.lt_of_lt_of_le q.lt hDC) (Nat.lt_irrefl _)
 refine ⟨m,hm.sameBut sb aC,fun h' hsb=>?_⟩
 refine ⟨σ.set i (some (.ref D')),upd H' D' (.lst acc),I''.turned (t':=s''.toks) (it:=C) (fun b o hb e=>by rw [hsb.2 b hb]; exact e) ?_ hCL (.inr (Nat.le_trans I2.sz hDC)) (fun x d e z=>?_) (fun p hp z=>?_),hz D' hD⟩
 ·exact hUC
 ·obtain ⟨v,q⟩:=I2.cell x d e
  rw [z] at q
  exact absurd (Nat.lt_of_lt_of_le q.lt hDC) (Nat.lt_irrefl _)
 ·have q:=Heap.lt_size (I2.pin p hp).1
  rw [z] at q
  exact absurd (Nat.lt_of_lt_of_le q hDC) (Nat.lt_irrefl _)
end
def Ite (a:Addr):It :=
 ⟨fun i H=>∃ xs x,H a=some (.lst xs)∧xs[i]? = some x,fun i H v H'=>∃ p x,H p=none∧v = .ref p∧H'=upd H p (.tup [.int i,x])∧∀ xs,H a=some (.lst xs)→xs[i]? = some x,fun i H=>∃ xs,H a=some (.lst xs)∧xs.length≤i⟩
theorem oN {P:Program} {w:World} {K:PySem.W.Frag} {es:List Expr} {k:Nat} {pos:Pos} (a e it:Addr) (hne:e≠it) :
 Turn P w K (.Tuple es k pos) (Ite a) [e,it] e (fun i h=>(∃ old,IsEnum h e it i old)∧h.IsListIter it a i) where
 mem:=by simp
 obj:=fun i h st b hb=>by
  rw [List.mem_cons,List.mem_singleton] at hb
  rcases hb with rfl | rfl
  ·obtain ⟨⟨old,q⟩,_⟩:=st
   exact ⟨_,q,fun v z=>by cases z⟩
  ·obtain ⟨_,o,q,c,d⟩:=st
   exact ⟨o,q,fun v z=>by rw [d] at z; cases z⟩
 keep:=fun i h h' st kp=>⟨by obtain ⟨old,q⟩:=st.1; exact ⟨old,kp e (by simp) _ q⟩,st.2.at fun o q=>kp it (by simp) o q⟩
 item:=by
  intro X hP hw hK hc i pins s σ H E I hf st hg
  subst hP hw hK
  obtain ⟨xs,x,hq,hx⟩:=hg
  obtain ⟨⟨old,he⟩,hit⟩:=st
  obtain ⟨its,rv,p,hz⟩:=I.list (SqL.of hq)
  obtain ⟨u,hu,ru⟩:=rv.get hx
  obtain ⟨f0,f1,f2,f3,f4,f5⟩:=hf e (by simp)
  obtain ⟨g0,g1,g2,g3,g4,g5⟩:=hf it (by simp)
  refine wpAny_pyNext_enum_item he hit p.isList (x:=u) (by simpa using hu) hne fun h' eo it' ht hsz hk=>?_
  refine ⟨.ref s.heap.objs.size,rfl,?_⟩
  refine wpAny_letOwnedTupleGo_enum eo fun h2 he2 hs2=>?_
  have fr:H s.heap.objs.size=none:=I.hok.fresh (Nat.le_refl _)
  have ne2:∀ b,b<s.heap.objs.size→b≠s.heap.objs.size:=fun b hb=>Nat.ne_of_lt hb
  have ee:e<s.heap.objs.size:=Heap.lt_size he
  have k2:∀ b o,b≠e→b≠it→s.heap.get? b=some o→h2.get? b=some o:=fun b o h1 h2' q=>(hs2.2 b h1).trans (hk b o h1 h2' q)
  have ht2:h2.get? s.heap.objs.size=some { cls:=.type "tuple",data:=.seq #[.int i s.toks,u] }:=(hs2.2 _ (Nat.ne_of_gt ee)).trans ht
  have trk:∀ b v,H b=some v→b≠e∧b≠it:=fun b v q=>⟨aD q f0,aD q g0⟩
  have hok0:HOk X.prog X.w H h2:=fun b o q=>(I.hok b o q).stay (fun c v hc q'=>by
   rcases hc with rfl | hc
   ·exact k2 c v (trk c _ q).1 (trk c _ q).2 q'
   ·exact k2 c v (trk c _ hc).1 (trk c _ hc).2 q') (fun _ z=>z) (fun _ _ z=>z) fun _ _ _ z=>z
  have I1:Inv X pins σ (upd H s.heap.objs.size (.tup [.int i,x])) { s with heap:=h2,toks:=s.toks + 1 }:=by
   refine I.step (g':=s.gens) (d':=s.drawn) (ch:=[e,it]) (fun b hb=>?_) (fun b o _ _ hc q _=>k2 b o (fun z=>hc (by simp [z])) (fun z=>hc (by simp [z])) q) (fun b o _ _ hc q _=>⟨o.slots,k2 b o (fun z=>hc (by simp [z])) (fun z=>hc (by simp [z])) q⟩)
    (fun b o _ q n=>by rw [aq (ne2 b (Heap.lt_size q))]; exact n) (fun b o hc q=>⟨o,k2 b o (fun z=>hc (by simp [z])) (fun z=>hc (by simp [z])) q⟩) (fun b ys q=>by rw [aq (aD q fr)]; exact q) (fun b o v q=>by rw [aq (aD q fr)]; exact q)
    (fun b ps _ q=>⟨#[],by rw [aq (aD q fr),q]; simp⟩) (fun m hm=>?_) ?_ I.bare
   ·rw [List.mem_cons,List.mem_singleton] at hb
    rcases hb with rfl | rfl
    ·exact ⟨f3,f1,f4,f5⟩
    ·exact ⟨g3,g1,g4,g5⟩
   ·obtain ⟨o,es',ep,ho,r⟩:=hm
    exact ⟨o,es',ep,k2 _ o (Ne.symm f1) (Ne.symm g1) ho,r⟩
   ·exact hok0.adopt fr ⟨by show 2≤sizeLine; decide,[.int i s.toks,u],.cons ⟨_,rfl⟩ (.cons ru .nil),⟨_,ht2,rfl,_,rfl⟩⟩
  refine ⟨.ref s.heap.objs.size,_,I1,rfl,⟨_,x,fr,rfl,rfl,fun ys hy=>by rw [hq] at hy; cases hy; exact hx⟩,⟨⟨_,by simpa using he2⟩,it'.extBut hs2.extBut (Ne.symm hne)⟩,fun b hb=>?_⟩
  have:H b=none:=(hf b hb).1
  have hb':b<s.heap.objs.size:=by
   rw [List.mem_cons,List.mem_singleton] at hb
   rcases hb with rfl | rfl
   ·exact ee
   ·obtain ⟨o,q,_⟩:=hit; exact Heap.lt_size q
  rw [aq (ne2 b hb')]
  exact this
 done:=by
  intro X hP hw hK hc i pins s σ H E I hf st hg
  subst hP hw hK
  obtain ⟨xs,hq,hx⟩:=hg
  obtain ⟨⟨old,he⟩,hit⟩:=st
  obtain ⟨its,rv,p,hz⟩:=I.list (SqL.of hq)
  obtain ⟨g0,g1,g2,g3,g4,g5⟩:=hf it (by simp)
  have hl:=rv.length
  exact wpAny_pyNext_enum_end (I.ok.hd hc) he hit p.isList (by simp; omega) fun h' eb=>⟨rfl,I.turned (t':=s.toks) (fun b o hb e=>eb b o hb e) g0 g1 g3 g4 g5⟩
 self:=fun _ _ _ _ _ st h=>by
  obtain ⟨⟨old,he⟩,_⟩:=st
  exact wpAny_pyIter_enum he h
section
variable {X:Cx} {es:List Expr} {k:Nat} {tpos:Pos}
def iEnum (ta:TA):TI:=fun σ H R=>ta σ H fun vs H1=>∃ a,vs=[.ref a]∧(∃ xs,H1 a=some (.lst xs))∧R (Ite a) H1
theorem sZ {l:Expr} {ta:TA} {p pos:Pos} (hg:Gl X "enumerate") (hm:X.mg "enumerate" = none) (ha:PA X [l] ta) (hs:starEach [l] X.env=[(false,eval l X.env)]:=by rfl):PI X (.Tuple es k tpos) (.Call (.Name "enumerate" p) [l] [] pos) (iEnum ta):=by
 refine ⟨fun pins s σ H R I h=>?_⟩
 refine wpAny_Call_Name_kw (gK I hg hm ka ?_)
 refine PyProof.Rows.callWith_type1 (thn (ha pos pins s σ H _ I h) fun us s1 ⟨vs,H1,I1,r1,a,e,⟨xs,hx⟩,q⟩=>?_) hs rfl
 subst e
 obtain ⟨u,rfl,ru⟩:=f8 r1
 cases ru
 obtain ⟨_,its,n,rv,ho⟩:=(show a5 X.prog X.w H1 s1.heap a (.lst xs) from I1.hok a _ hx)
 refine call_enumerate_1 ho fun h' he hit hsz hk=>?_
 have I2:Inv X pins σ H1 { s1 with heap:=h' }:=I1.kept (t':=s1.toks) hk
 refine wpAny_pyIter_enum he ⟨s1.heap.objs.size + 1,[s1.heap.objs.size + 1,s1.heap.objs.size],_,Ite a,H1,rfl,I2,oN a (s1.heap.objs.size + 1) s1.heap.objs.size (Nat.succ_ne_self _),⟨⟨_,he⟩,hit⟩,fun b hb=>?_,q⟩
 have hb':s1.heap.objs.size≤b:=by
  rw [List.mem_cons,List.mem_singleton] at hb
  rcases hb with rfl | rfl <;> omega
 have z:=I1.fpOk (H':=H1) hb' (I1.hok.fresh hb')
 exact z
end
mutual
def toP:D→PyData
 | .non=>.none
 | .bl b=>.bool b
 | .int i=>.int i
 | .str x=>.str x
 | .tup ds=>.tuple (toPs ds)
 | .lst ds=>.list (toPs ds)
 | .dct=>.dict []
 | .dic _ _=>.dict []
 | .scr _ _=>.dict []
 | .ext _=>.dict []
def toPs:List D→List PyData
 | []=>[]
 | d :: ds=>toP d :: toPs ds
end
mutual
theorem dP {X:Cx} {pins:List (Addr×Obj)} {σ:St} {H:Hp} {s:Shared} (I:Inv X pins σ H s):∀ (d:D) (v:V) (u:Value),Rep H d v→a_ v u→(toP d).canLay0=true→∃ as,Reads s.heap u (toP d) as
 | .non,v,u,h,r,_=>by rw [Rep] at h; subst h; cases r; rw [toP]; exact ⟨_,.none⟩
 | .bl b,v,u,h,r,_=>by rw [Rep] at h; subst h; cases r; rw [toP]; exact ⟨_,.bool b⟩
 | .int i,v,u,h,r,_=>by rw [Rep] at h; subst h; obtain ⟨t,rfl⟩:=r; rw [toP]; exact ⟨_,.int i t⟩
 | .str x,v,u,h,r,_=>by rw [Rep] at h; subst h; obtain ⟨t,rfl⟩:=r; rw [toP]; exact ⟨_,.str x t⟩
 | .tup ds,v,u,h,r,c=>by
  rw [Rep] at h
  obtain ⟨a,xs,rfl,ha,hx⟩:=h
  cases r
  rw [toP] at c ⊢
  obtain ⟨_,its,rv,o,e1,e2,n,e3⟩:=(show a5 X.prog X.w H s.heap a (.tup xs) from I.hok a _ ha)
  obtain ⟨as,q⟩:=reps_reads I ds xs its hx rv (by rw [PyData.canLay0] at c; exact c)
  exact ⟨_,reads_tuple_at e1 e2 e3 (by simpa using q)⟩
 | .lst ds,v,u,h,r,c=>by
  rw [Rep] at h
  obtain ⟨a,xs,rfl,ha,hx⟩:=h
  cases r
  rw [toP] at c ⊢
  obtain ⟨_,its,n,rv,e1⟩:=(show a5 X.prog X.w H s.heap a (.lst xs) from I.hok a _ ha)
  obtain ⟨as,q⟩:=reps_reads I ds xs its hx rv (by rw [PyData.canLay0] at c; exact c)
  exact ⟨_,reads_list_at e1 rfl rfl (by simpa using q)⟩
 | .dct,v,u,h,r,c=>by rw [toP,PyData.canLay0] at c; cases c
 | .dic _ _,v,u,h,r,c=>by rw [toP,PyData.canLay0] at c; cases c
 | .scr _ _,v,u,h,r,c=>by rw [toP,PyData.canLay0] at c; cases c
 | .ext _,v,u,h,r,c=>by rw [toP,PyData.canLay0] at c; cases c
theorem reps_reads {X:Cx} {pins:List (Addr×Obj)} {σ:St} {H:Hp} {s:Shared} (I:Inv X pins σ H s):∀ (ds:List D) (vs:List V) (us:List Value),Reps H ds vs→aV vs us→PyData.canLayAll0 (toPs ds)=true→∃ as,ReadsAll s.heap us (toPs ds) as
 | [],vs,us,h,r,_=>by rw [Reps] at h; subst h; cases r; rw [toPs]; exact ⟨_,.nil⟩
 | d :: ds,vs,us,h,r,c=>by
  rw [Reps] at h
  obtain ⟨v,vs',rfl,h1,h2⟩:=h
  rw [toPs] at c ⊢
  rw [PyData.canLayAll0,Bool.and_eq_true] at c
  cases r with
  | cons r1 r2 =>
   obtain ⟨as,q1⟩:=dP I d v _ h1 r1 c.1
   obtain ⟨bs,q2⟩:=reps_reads I ds vs' _ h2 r2 c.2
   exact ⟨_,.cons q1 q2⟩
end
section
variable {X:Cx}
def rEqD:R2:=fun x y H Q=>∃ d e,Rep H d x∧Rep H e y∧SeqAt.shaped (toP d)=true∧SeqAt.shaped (toP e)=true∧Q (.bl (PyData.eqv (toP d) (toP e))) H
def rNeD:R2:=fun x y H Q=>∃ d e,Rep H d x∧Rep H e y∧SeqAt.shaped (toP d)=true∧SeqAt.shaped (toP e)=true∧Q (.bl (!PyData.eqv (toP d) (toP e))) H
theorem kD (hu:X.A.units + 64<cLine):OpR X (compareOp .Eq) rEqD:=by
 intro pins s σ H x y v u Q I rx ry h
 obtain ⟨d,e,h1,h2,c1,c2,q⟩:=h
 obtain ⟨as,r1⟩:=dP I d x v h1 rx (SeqAt.canLay_of_shaped c1)
 obtain ⟨bs,r2⟩:=dP I e y u h2 ry (SeqAt.canLay_of_shaped c2)
 exact eq_dataH r1 r2 c1 c2 hu ⟨.bl _,H,I,rfl,q⟩
theorem bo (hu:X.A.units + 64<cLine):OpR X (compareOp .NotEq) rNeD:=by
 intro pins s σ H x y v u Q I rx ry h
 obtain ⟨d,e,h1,h2,c1,c2,q⟩:=h
 obtain ⟨as,r1⟩:=dP I d x v h1 rx (SeqAt.canLay_of_shaped c1)
 obtain ⟨bs,r2⟩:=dP I e y u h2 ry (SeqAt.canLay_of_shaped c2)
 exact ne_dataH r1 r2 c1 c2 hu ⟨.bl _,H,I,rfl,q⟩
end
def aF (ns:List Int):D:=.lst (ns.map .int)
theorem gL (ns:List Int):toPs (ns.map .int)=ns.map .int:=by
 induction ns with
 | nil=>rw [List.map_nil,toPs]; rfl
 | cons n r ih=>rw [List.map_cons,toPs,ih,toP]; rfl
theorem rG (ns:List Int):PyData.canLayAll0 (ns.map .int)=true∧PyData.depthAll (ns.map .int)≤1:=by
 induction ns with
 | nil=>simp [PyData.canLayAll0,PyData.depthAll]
 | cons n r ih=>simp only [List.map_cons,PyData.canLayAll0,PyData.canLay0,PyData.depthAll,PyData.depth,ih.1,Bool.and_self,true_and]; have:=ih.2; omega
theorem pJ (ns ms:List Int):PyData.eqvAll (ns.map .int) (ms.map .int)=decide (ns=ms):=by
 induction ns generalizing ms with
 | nil=>cases ms <;> simp [PyData.eqvAll]
 | cons n r ih =>
  cases ms with
  | nil=>simp [PyData.eqvAll]
  | cons m q =>
   rw [List.map_cons,List.map_cons,PyData.eqvAll,PyData.eqv,ih]
   by_cases h:n=m
   ·subst h; simp
   ·simp [h]
theorem kY (ns:List Int):SeqAt.shaped (toP (aF ns))=true:=by
 have h:=rG ns
 unfold SeqAt.shaped aF
 rw [toP,gL,PyData.canLay0,PyData.depth,h.1,Bool.true_and]
 exact decide_eq_true (by have:=h.2; omega)
theorem qa (ns ms:List Int):PyData.eqv (toP (aF ns)) (toP (aF ms))=decide (ns=ms):=by
 unfold aF
 rw [toP,toP,gL,gL,PyData.eqv,pJ]
theorem jC {H:Hp}:∀ ns:List Int,Reps H (ns.map .int) (ns.map V.int)
 | []=>bO
 | n :: r=>bA (bg n) (jC r)
def aw (ns ms:List Int):D:=.tup [aF ns,aF ms]
section
variable {X:Cx}
end
abbrev DSt:=List (Option D)
abbrev Own:=Addr→Option (Nat×List Nat)
mutual
def Sep (G H:Hp) (O:Own) (i:Nat):D→List Nat→V→Prop
 | .non,_,v=>v = .non
 | .bl b,_,v=>v = .bl b
 | .int n,_,v=>v = .int n
 | .str x,_,v=>v = .str x
 | .tup ds,π,v=>∃ a xs,v = .ref a∧G a=some (.tup xs)∧Seps G H O i ds 0 π xs
 | .lst ds,π,v=>∃ a xs,v = .ref a∧O a=some (i,π)∧H a=some (.lst xs)∧Seps G H O i ds 0 π xs
 | .dct,_,_=>False
 | .dic ks ds,π,v=>∃ a xs,v = .ref a∧O a=some (i,π)∧H a=some (.dK (ks.zip xs))∧ks.length=ds.length∧Seps G H O i ds 0 π xs
 | .scr _ _,_,_=>False
 | .ext _,_,_=>False
def Seps (G H:Hp) (O:Own) (i:Nat):List D→Nat→List Nat→List V→Prop
 | [],_,_,xs=>xs=[]
 | d :: ds,k,π,xs=>∃ v vs,xs=v :: vs∧Sep G H O i d (k :: π) v∧Seps G H O i ds (k + 1) π vs
end
def bY (G G':Hp):Prop:=∀ a xs,G a=some (.tup xs)→G' a=some (.tup xs)
theorem aJ.ts {G G':Hp} (h:aJ G G'):bY G G':=fun a xs e=>h a _ e
mutual
theorem Sep.map {G H G' H':Hp} {O O':Own} {i i':Nat} {f:List Nat→List Nat} (hG:bY G G') (hf:∀ k π,f (k :: π)=k :: f π) :
 ∀ (d:D) (π:List Nat) (v:V),(∀ a τ,O a=some (i,τ++π)→O' a=some (i',f (τ++π))∧H' a=H a)→Sep G H O i d π v→Sep G' H' O' i' d (f π) v
 | .non,_,_,_,h=>by rw [Sep] at *; exact h
 | .bl b,_,_,_,h=>by rw [Sep] at *; exact h
 | .int n,_,_,_,h=>by rw [Sep] at *; exact h
 | .str x,_,_,_,h=>by rw [Sep] at *; exact h
 | .tup ds,π,v,hO,h=>by
  rw [Sep] at *
  obtain ⟨a,xs,h1,h2,h3⟩:=h
  exact ⟨a,xs,h1,hG _ _ h2,Seps.map hG hf ds 0 π xs (fun a τ _=>hO a τ) h3⟩
 | .lst ds,π,v,hO,h=>by
  rw [Sep] at *
  obtain ⟨a,xs,h1,h2,h3,h4⟩:=h
  have q:=hO a [] h2
  exact ⟨a,xs,h1,q.1,q.2.trans h3,Seps.map hG hf ds 0 π xs (fun a τ _=>hO a τ) h4⟩
 | .dic ks ds,π,v,hO,h=>by
  rw [Sep] at *
  obtain ⟨a,xs,h1,h2,h3,h5,h4⟩:=h
  have q:=hO a [] h2
  exact ⟨a,xs,h1,q.1,q.2.trans h3,h5,Seps.map hG hf ds 0 π xs (fun a τ _=>hO a τ) h4⟩
 | .dct,_,_,_,h=>by rw [Sep] at h; exact h.elim
 | .scr _ _,_,_,_,h=>by rw [Sep] at h; exact h.elim
 | .ext _,_,_,_,h=>by rw [Sep] at h; exact h.elim
theorem Seps.map {G H G' H':Hp} {O O':Own} {i i':Nat} {f:List Nat→List Nat} (hG:bY G G') (hf:∀ k π,f (k :: π)=k :: f π) :
 ∀ (ds:List D) (k:Nat) (π:List Nat) (xs:List V),(∀ a τ,τ≠[]→O a=some (i,τ++π)→O' a=some (i',f (τ++π))∧H' a=H a)→Seps G H O i ds k π xs→Seps G' H' O' i' ds k (f π) xs
 | [],_,_,_,_,h=>by rw [Seps] at *; exact h
 | d :: ds,k,π,xs,hO,h=>by
  rw [Seps] at *
  obtain ⟨v,vs,h1,h2,h3⟩:=h
  refine ⟨v,vs,h1,?_,Seps.map hG hf ds (k + 1) π vs hO h3⟩
  rw [← hf]
  refine Sep.map hG hf d (k :: π) v (fun a τ e=>?_) h2
  have e' : τ++k :: π=(τ++[k])++π:=by simp
  rw [e'] at e ⊢
  exact hO a (τ++[k]) (by simp) e
end
theorem Sep.keep {G H G' H':Hp} {O O':Own} {i i':Nat} {d:D} {π:List Nat} {v:V} (hG:bY G G') (hO:∀ a τ,O a=some (i,τ++π)→O' a=some (i',τ++π)∧H' a=H a) (h:Sep G H O i d π v):Sep G' H' O' i' d π v :=
 Sep.map (f:=id) hG (fun _ _=>rfl) d π v hO h
theorem Seps.keep {G H G' H':Hp} {O O':Own} {i i':Nat} {ds:List D} {k:Nat} {π:List Nat} {xs:List V} (hG:bY G G') (hO:∀ a τ,τ≠[]→O a=some (i,τ++π)→O' a=some (i',τ++π)∧H' a=H a) (h:Seps G H O i ds k π xs):Seps G' H' O' i' ds k π xs :=
 Seps.map (f:=id) hG (fun _ _=>rfl) ds k π xs hO h
mutual
theorem Sep.rep {G H G':Hp} {O:Own} {i:Nat} (hG:bY G G'):∀ (d:D) (π:List Nat) (v:V),(∀ a τ (o:HO),O a=some (i,τ++π)→H a=some o→G' a=some o)→Sep G H O i d π v→Rep G' d v
 | .non,_,_,_,h=>by rw [Sep] at h; rw [Rep]; exact h
 | .bl b,_,_,_,h=>by rw [Sep] at h; rw [Rep]; exact h
 | .int n,_,_,_,h=>by rw [Sep] at h; rw [Rep]; exact h
 | .str x,_,_,_,h=>by rw [Sep] at h; rw [Rep]; exact h
 | .tup ds,π,v,hO,h=>by
  rw [Sep] at h; rw [Rep]
  obtain ⟨a,xs,h1,h2,h3⟩:=h
  exact ⟨a,xs,h1,hG _ _ h2,Seps.rep hG ds 0 π xs (fun a τ ys _=>hO a τ ys) h3⟩
 | .lst ds,π,v,hO,h=>by
  rw [Sep] at h; rw [Rep]
  obtain ⟨a,xs,h1,h2,h3,h4⟩:=h
  exact ⟨a,xs,h1,hO a [] _ h2 h3,Seps.rep hG ds 0 π xs (fun a τ ys _=>hO a τ ys) h4⟩
 | .dic ks ds,π,v,hO,h=>by
  rw [Sep] at h; rw [Rep]
  obtain ⟨a,xs,h1,h2,h3,h5,h4⟩:=h
  exact ⟨a,xs,h1,hO a [] _ h2 h3,h5,Seps.rep hG ds 0 π xs (fun a τ ys _=>hO a τ ys) h4⟩
 | .dct,_,_,_,h=>by rw [Sep] at h; exact h.elim
 | .scr _ _,_,_,_,h=>by rw [Sep] at h; exact h.elim
 | .ext _,_,_,_,h=>by rw [Sep] at h; exact h.elim
theorem Seps.rep {G H G':Hp} {O:Own} {i:Nat} (hG:bY G G'):∀ (ds:List D) (k:Nat) (π:List Nat) (xs:List V),(∀ a τ (o:HO),τ≠[]→O a=some (i,τ++π)→H a=some o→G' a=some o)→Seps G H O i ds k π xs→Reps G' ds xs
 | [],_,_,_,_,h=>by rw [Seps] at h; rw [Reps]; exact h
 | d :: ds,k,π,xs,hO,h=>by
  rw [Seps] at h; rw [Reps]
  obtain ⟨v,vs,h1,h2,h3⟩:=h
  refine ⟨v,vs,h1,Sep.rep hG d (k :: π) v (fun a τ ys e q=>?_) h2,Seps.rep hG ds (k + 1) π vs hO h3⟩
  have e' : τ++k :: π=(τ++[k])++π:=by simp
  rw [e'] at e
  exact hO a (τ++[k]) ys (by simp) e q
end
mutual
def imm:D→Bool
 | .tup ds=>imms ds
 | .lst _=>false
 | .dct=>false
 | .dic _ _=>false
 | .scr _ _=>false
 | .ext _=>false
 | _=>true
def imms:List D→Bool
 | []=>true
 | d :: ds=>imm d&&imms ds
end
mutual
theorem Rep.sep {G H:Hp} {O:Own} {i:Nat}:∀ (d:D) (π:List Nat) (v:V),imm d=true→Rep G d v→Sep G H O i d π v
 | .non,_,_,_,h=>by rw [Rep] at h; rw [Sep]; exact h
 | .bl b,_,_,_,h=>by rw [Rep] at h; rw [Sep]; exact h
 | .int n,_,_,_,h=>by rw [Rep] at h; rw [Sep]; exact h
 | .str x,_,_,_,h=>by rw [Rep] at h; rw [Sep]; exact h
 | .tup ds,π,v,hi,h=>by
  rw [Rep] at h; rw [Sep]
  obtain ⟨a,xs,h1,h2,h3⟩:=h
  exact ⟨a,xs,h1,h2,Reps.sep ds 0 π xs (by rw [imm] at hi; exact hi) h3⟩
 | .lst ds,_,_,hi,_=>by rw [imm] at hi; cases hi
 | .dct,_,_,hi,_=>by rw [imm] at hi; cases hi
 | .dic _ _,_,_,hi,_=>by rw [imm] at hi; cases hi
 | .scr _ _,_,_,hi,_=>by rw [imm] at hi; cases hi
 | .ext _,_,_,hi,_=>by rw [imm] at hi; cases hi
theorem Reps.sep {G H:Hp} {O:Own} {i:Nat}:∀ (ds:List D) (k:Nat) (π:List Nat) (xs:List V),imms ds=true→Reps G ds xs→Seps G H O i ds k π xs
 | [],_,_,_,_,h=>by rw [Reps] at h; rw [Seps]; exact h
 | d :: ds,k,π,xs,hi,h=>by
  rw [Reps] at h; rw [Seps]
  rw [imms,Bool.and_eq_true] at hi
  obtain ⟨v,vs,h1,h2,h3⟩:=h
  exact ⟨v,vs,h1,Rep.sep d (k :: π) v hi.1 h2,Reps.sep ds (k + 1) π vs hi.2 h3⟩
end
mutual
theorem Rep.imms {G G':Hp} (hG:bY G G'):∀ (d:D) (v:V),L2.imm d=true→Rep G d v→Rep G' d v
 | .non,_,_,h=>by rw [Rep] at *; exact h
 | .bl b,_,_,h=>by rw [Rep] at *; exact h
 | .int n,_,_,h=>by rw [Rep] at *; exact h
 | .str x,_,_,h=>by rw [Rep] at *; exact h
 | .tup ds,v,hi,h=>by
  rw [Rep] at *
  obtain ⟨a,xs,h1,h2,h3⟩:=h
  exact ⟨a,xs,h1,hG _ _ h2,Reps.imms hG ds xs (by rw [L2.imm] at hi; exact hi) h3⟩
 | .lst ds,_,hi,_=>by rw [L2.imm] at hi; cases hi
 | .dct,_,hi,_=>by rw [L2.imm] at hi; cases hi
 | .dic _ _,_,hi,_=>by rw [L2.imm] at hi; cases hi
 | .scr _ _,_,hi,_=>by rw [L2.imm] at hi; cases hi
 | .ext _,_,hi,_=>by rw [L2.imm] at hi; cases hi
theorem Reps.imms {G G':Hp} (hG:bY G G'):∀ (ds:List D) (xs:List V),L2.imms ds=true→Reps G ds xs→Reps G' ds xs
 | [],_,_,h=>by rw [Reps] at *; exact h
 | d :: ds,xs,hi,h=>by
  rw [Reps] at *
  rw [L2.imms,Bool.and_eq_true] at hi
  obtain ⟨v,vs,h1,h2,h3⟩:=h
  exact ⟨v,vs,h1,Rep.imms hG d v hi.1 h2,Reps.imms hG ds vs hi.2 h3⟩
end
theorem Seps.length {G H:Hp} {O:Own} {i:Nat}:∀ {ds:List D} {k:Nat} {π:List Nat} {xs:List V},Seps G H O i ds k π xs→xs.length=ds.length
 | [],_,_,_,h=>by rw [Seps] at h; subst h; rfl
 | d :: ds,k,π,xs,h=>by
  rw [Seps] at h
  obtain ⟨v,vs,rfl,_,h3⟩:=h
  simp [Seps.length h3]
abbrev WrO:=List V ⊕ List (Key×V)
def WrO.ho:WrO→HO
 | .inl xs=>.lst xs
 | .inr kvs=>.dK kvs
theorem WrO.ne {m:WrO} {xs:List V} (h:m.ho = .tup xs):False:=by cases m <;> cases h
structure Ctx where
 G:Hp
 H:Hp
 O:Own
 mu:List (Option V)
 np:Nat
def bN (G H:Hp) (O:Own):List (D×V)→Prop
 | []=>True
 | (d,v) :: r=>Sep G H O (2 * r.length + 1) d [] v∧bN G H O r
def Nw (C:Ctx) (a:Addr) (l:Nat):Prop:=C.H a=none∨∃ π,C.O a=some (l,π)
def NT (o:HO):Prop:=∀ ps q,o≠.tbl ps q
theorem WrO.nt (x:WrO):NT x.ho:=by cases x <;> (intro _ _ z; cases z)
structure RO (C:Ctx) (ow:List Bool) (G:Hp) (ρ:DSt) (σ:St) (H:Hp) (pd:List (D×V)) (O:Own):Prop where
 len : ρ.length=σ.length
 gh:aJ G H
 g0:aJ C.G G
 gn:∀ a o,G a=some o→C.G a=some o∨C.H a=none
 og:∀ a l,O a=some l→G a=none∧(∃ xs:WrO,H a=some xs.ho)∧Nw C a l.1
 cok:∀ a l π,C.O a=some (l,π)→(∃ (i:Nat) (v:V),l=2 * i∧C.mu[i]? = some (some v))∨∃ j,l=2 * j + 1∧j<C.np
 fr:∀ a o,C.H a=some o→C.O a=none→NT o→H a=some o
 ft:∀ a ps q,H a=some (.tbl ps q)→G a=none
 al:∀ a,H a=none→C.H a=none
 mp:∀ (i:Nat) v,C.mu[i]? = some (some v)→σ[i]? = some (some v)
 sl:∀ (i:Nat) d,ρ[i]? = some (some d)→∃ v,σ[i]? = some (some v)∧if ow[i]? = some true then Sep G H O (2 * i) d [] v else Rep G d v
 pn:bN G H O pd
 np:C.np≤pd.length
def R (C:Ctx) (ow:List Bool) (G:Hp) (ρ:DSt) (σ:St) (H:Hp) (pd:List (D×V)):Prop:=∃ O,RO C ow G ρ σ H pd O
theorem bN.keep {G H G' H':Hp} {O O':Own} (hG:bY G G'):∀ {pd:List (D×V)},(∀ a j π,j<pd.length→O a=some (2 * j + 1,π)→O' a=some (2 * j + 1,π)∧H' a=H a)→bN G H O pd→bN G' H' O' pd
 | [],_,_=>trivial
 | (d,v) :: r,hO,⟨h1,h2⟩=>⟨h1.keep hG fun a τ e=>hO a r.length _ (by simp) e,bN.keep hG (fun a j π hj=>hO a j π (by simp; omega)) h2⟩
section
variable {C:Ctx} {ow:List Bool} {G:Hp} {ρ:DSt} {σ:St} {H:Hp} {pd:List (D×V)} {O:Own}
theorem RO.new (h:RO C ow G ρ σ H pd O) {p:Addr} (hp:H p=none) (o:HO) (nt:NT o:=by intro _ _ z; cases z):RO C ow (upd G p o) ρ σ (upd H p o) pd O∧aJ G (upd G p o):=by
 have gp:G p=none:=by
  cases e:G p with
  | none=>rfl
  | some z=>rw [h.gh _ _ e] at hp; cases hp
 have sG:=lE gp o
 have ne:∀ a l,O a=some l→a≠p:=fun a l e z=>by
  obtain ⟨_,⟨xs,q⟩,_⟩:=h.og a l e
  rw [z,hp] at q; cases q
 refine ⟨⟨h.len,?_,fun a u e=>sG _ _ (h.g0 a u e),?_,?_,h.cok,?_,?_,?_,h.mp,?_,?_,h.np⟩,sG⟩
 ·intro a u e
  by_cases z:a=p
  ·subst z; rw [av] at e ⊢; exact e
  ·rw [aq z] at e ⊢; exact h.gh _ _ e
 ·intro a u e
  by_cases z:a=p
  ·subst z; exact .inr (h.al _ hp)
  ·rw [aq z] at e; exact h.gn a u e
 ·intro a l e
  have z:=ne a l e
  rw [aq z,aq z]
  exact h.og a l e
 ·intro a u e n t
  rw [aq (aD (h.fr a u e n t) hp)]
  exact h.fr a u e n t
 ·intro a ps q e
  by_cases z:a=p
  ·subst z; rw [av] at e; cases e; exact absurd rfl (nt ps q)
  ·rw [aq z] at e ⊢; exact h.ft a ps q e
 ·intro a e
  by_cases z:a=p
  ·subst z; rw [av] at e; cases e
  ·rw [aq z] at e; exact h.al a e
 ·intro i d e
  obtain ⟨v,h1,h2⟩:=h.sl i d e
  refine ⟨v,h1,?_⟩
  split at h2
  ·rename_i c; rw [if_pos c]; exact h2.keep sG.ts fun a τ q=>⟨q,aq (ne a _ q)⟩
  ·rename_i c; rw [if_neg c]; exact h2.mono sG
 ·exact bN.keep sG.ts (fun a j π _ q=>⟨q,aq (ne a _ q)⟩) h.pn
theorem RO.newL (h:RO C ow G ρ σ H pd O) {p:Addr} (hp:H p=none) {xs:List V} {ds:List D} (hi:imms ds=true) (hr:Reps G ds xs) :
 R C ow G ρ σ (upd H p (.lst xs)) ((.lst ds,.ref p) :: pd):=by
 have gp:G p=none:=by
  cases e:G p with
  | none=>rfl
  | some z=>rw [h.gh _ _ e] at hp; cases hp
 have ne:∀ a l,O a=some l→a≠p:=fun a l e z=>by
  obtain ⟨_,⟨xs,q⟩,_⟩:=h.og a l e
  rw [z,hp] at q; cases q
 let O':Own:=fun a=>if a=p then some (2 * pd.length + 1,[]) else O a
 have old:∀ a l,O a=some l→O' a=some l:=fun a l e=>by
  show (if a=p then _ else _)=_
  rw [if_neg (ne a _ e),e]
 refine ⟨O',h.len,?_,h.g0,h.gn,?_,h.cok,?_,?_,?_,h.mp,?_,⟨?_,?_⟩,Nat.le_succ_of_le h.np⟩
 ·intro a u e
  rw [aq (fun z=>by rw [z,gp] at e; cases e)]
  exact h.gh _ _ e
 ·intro a l e
  by_cases z:a=p
  ·subst z; exact ⟨gp,⟨.inl xs,av⟩,.inl (h.al _ hp)⟩
  ·rw [aq z]
   change (if a=p then _ else _)=_ at e
   rw [if_neg z] at e
   exact h.og a _ e
 ·intro a u e n t
  rw [aq (aD (h.fr a u e n t) hp)]
  exact h.fr a u e n t
 ·intro a ps q e
  by_cases z:a=p
  ·subst z; rw [av] at e; cases e
  ·rw [aq z] at e; exact h.ft a ps q e
 ·intro a e
  by_cases z:a=p
  ·subst z; rw [av] at e; cases e
  ·rw [aq z] at e; exact h.al a e
 ·intro i d e
  obtain ⟨v,h1,h2⟩:=h.sl i d e
  refine ⟨v,h1,?_⟩
  split at h2
  ·rename_i c; rw [if_pos c]; exact h2.keep (fun _ _ z=>z) fun a τ q=>⟨old a _ q,aq (ne a _ q)⟩
  ·rename_i c; rw [if_neg c]; exact h2
 ·rw [Sep]
  exact ⟨p,xs,rfl,by show (if p=p then _ else _)=_; rw [if_pos rfl],av,hr.sep ds 0 [] xs hi⟩
 ·exact bN.keep (fun _ _ z=>z) (fun a j π hj q=>⟨old a _ q,aq (ne a _ q)⟩) h.pn
end
theorem Seps.snoc {G H:Hp} {O:Own} {i:Nat} {d:D} {v:V}:∀ {ds:List D} {k:Nat} {π:List Nat} {xs:List V},Seps G H O i ds k π xs→Sep G H O i d ((k + ds.length) :: π) v→Seps G H O i (ds++[d]) k π (xs++[v])
 | [],k,π,xs,h,hd=>by rw [Seps] at h; subst h; show Seps _ _ _ _ [d] _ _ [v]; rw [Seps]; exact ⟨v,[],rfl,by simpa using hd,by rw [Seps]⟩
 | e :: ds,k,π,xs,h,hd=>by
  rw [Seps] at h
  obtain ⟨u,us,rfl,h2,h3⟩:=h
  show Seps _ _ _ _ (e :: (ds++[d])) _ _ (u :: (us++[v]))
  rw [Seps]
  refine ⟨u,us++[v],rfl,h2,Seps.snoc h3 ?_⟩
  have:k + 1 + ds.length=k + (e :: ds).length:=by simp; omega
  rw [this]; exact hd
theorem Seps.set {G H:Hp} {O:Own} {i:Nat} {d:D} {v:V}:∀ {ds:List D} {k:Nat} {π:List Nat} {xs:List V} {j:Nat},Seps G H O i ds k π xs→Sep G H O i d ((k + j) :: π) v→Seps G H O i (ds.set j d) k π (xs.set j v)
 | [],k,π,xs,j,h,hd=>by rw [Seps] at h; subst h; simp; rw [Seps]
 | e :: ds,k,π,xs,0,h,hd=>by
  rw [Seps] at h
  obtain ⟨u,us,rfl,h2,h3⟩:=h
  simp only [List.set_cons_zero]; rw [Seps]
  exact ⟨v,us,rfl,by simpa using hd,h3⟩
 | e :: ds,k,π,xs,j + 1,h,hd=>by
  rw [Seps] at h
  obtain ⟨u,us,rfl,h2,h3⟩:=h
  simp only [List.set_cons_succ]; rw [Seps]
  refine ⟨u,_,rfl,h2,Seps.set h3 ?_⟩
  have:k + 1 + j=k + (j + 1):=by omega
  rw [this]; exact hd
section
variable {C:Ctx} {ow:List Bool} {G:Hp} {ρ:DSt} {σ:St} {H:Hp} {pd:List (D×V)} {O:Own}
theorem i5 {α:Type} {l:List (Option α)} {i j:Nat} {x:Option α} {d : α} (h:(l.set i x)[j]? = some (some d)):(j=i∧x=some d)∨(j≠i∧l[j]? = some (some d)):=by
 rw [List.getElem?_set] at h
 by_cases e:i=j
 ·rw [if_pos e] at h
  split at h
  ·exact .inl ⟨e.symm,Option.some.inj h⟩
  ·cases h
 ·rw [if_neg e] at h; exact .inr ⟨fun z=>e z.symm,h⟩
theorem eH {α:Type} {l:List (Option α)} {i:Nat} {x:Option α} (h:l[i]? = some x):i<l.length:=(List.getElem?_eq_some_iff.mp h).1
theorem RO.setS (h:RO C ow G ρ σ H pd O) {i:Nat} {d:D} {v:V} (hi:ow[i]?≠some true) (hm:∀ v,C.mu[i]?≠some (some v)) (r:Rep G d v):RO C ow G (ρ.set i (some d)) (σ.set i (some v)) H pd O:=by
 refine ⟨by simp [h.len],h.gh,h.g0,h.gn,h.og,h.cok,h.fr,h.ft,h.al,?_,?_,h.pn,h.np⟩
 ·intro j u e
  have:i≠j:=fun z=>hm u (z ▸ e)
  rw [List.getElem?_set_ne this]
  exact h.mp j u e
 ·intro j e q
  rcases i5 q with ⟨rfl,z⟩ | ⟨z,q'⟩
  ·cases z
   have hl:j<σ.length:=by have:=eH q; rw [List.length_set,h.len] at this; exact this
   exact ⟨v,by rw [List.getElem?_set_self hl],by rw [if_neg hi]; exact r⟩
  ·obtain ⟨u,h1,h2⟩:=h.sl j e q'
   exact ⟨u,by rw [List.getElem?_set_ne (Ne.symm z)]; exact h1,h2⟩
theorem RO.drop {d:D} {v:V} (h:RO C ow G ρ σ H ((d,v) :: pd) O) (hn:C.np≤pd.length):RO C ow G ρ σ H pd O :=
 ⟨h.len,h.gh,h.g0,h.gn,h.og,h.cok,h.fr,h.ft,h.al,h.mp,h.sl,h.pn.2,hn⟩
def lab (f:Nat→List Nat→Nat×List Nat) (O:Own):Own:=fun a=>(O a).map fun l=>f l.1 l.2
theorem bB {f:Nat→List Nat→Nat×List Nat} {a:Addr} {l:Nat} {π:List Nat} (h:O a=some (l,π)):lab f O a=some (f l π):=by unfold lab; rw [h]; rfl
theorem gP {f:Nat→List Nat→Nat×List Nat} {a:Addr} {m:Nat×List Nat} (h:lab f O a=some m):∃ l π,O a=some (l,π)∧m=f l π:=by
 unfold lab at h
 cases e:O a with
 | none=>rw [e] at h; cases h
 | some l=>rw [e] at h; exact ⟨l.1,l.2,rfl,(Option.some.inj h).symm⟩
theorem cn {i j:Nat} : 2 * i≠2 * j + 1:=by omega
theorem RO.setO {d:D} {v:V} (h:RO C ow G ρ σ H ((d,v) :: pd) O) {i:Nat} (hi:ow[i]? = some true) (hm:∀ v,C.mu[i]?≠some (some v)) (hn:C.np≤pd.length) :
 R C ow G (ρ.set i (some d)) (σ.set i (some v)) H pd:=by
 refine ⟨lab (fun l π=>if l=2 * pd.length + 1 then (2 * i,π) else (l,π)) O,by simp [h.len],h.gh,h.g0,h.gn,?_,h.cok,h.fr,h.ft,h.al,?_,?_,?_,hn⟩
 ·intro a m e
  obtain ⟨l,π,e1,rfl⟩:=gP e
  obtain ⟨q1,q2,q3⟩:=h.og a _ e1
  refine ⟨q1,q2,?_⟩
  try dsimp only
  split
  ·rename_i z
   rcases q3 with q3 | ⟨_,q3⟩
   ·exact .inl q3
   ·rcases h.cok _ _ _ q3 with ⟨k,_,q4,_⟩ | ⟨k,q4,q5⟩
    ·exact absurd (q4.symm.trans z) cn
    ·omega
  ·exact q3
 ·intro j u e
  have:i≠j:=fun z=>hm u (z ▸ e)
  rw [List.getElem?_set_ne this]
  exact h.mp j u e
 ·intro j e q
  rcases i5 q with ⟨rfl,z⟩ | ⟨z,q'⟩
  ·cases z
   have hl:j<σ.length:=by have:=eH q; rw [List.length_set,h.len] at this; exact this
   refine ⟨v,by rw [List.getElem?_set_self hl],?_⟩
   rw [if_pos hi]
   exact h.pn.1.keep (fun _ _ z=>z) fun a τ q=>⟨by rw [bB q,if_pos rfl],rfl⟩
  ·obtain ⟨u,h1,h2⟩:=h.sl j e q'
   refine ⟨u,by rw [List.getElem?_set_ne (Ne.symm z)]; exact h1,?_⟩
   split at h2
   ·rename_i c; rw [if_pos c]; exact h2.keep (fun _ _ z=>z) fun a τ q=>⟨by rw [bB q,if_neg cn],rfl⟩
   ·rename_i c; rw [if_neg c]; exact h2
 ·exact bN.keep (fun _ _ z=>z) (fun a j π hj q=>⟨by rw [bB q,if_neg (by omega)],rfl⟩) h.pn.2
theorem RO.move (h:RO C ow G ρ σ H pd O) {i:Nat} {d:D} (e : ρ[i]? = some (some d)) (hi:ow[i]? = some true) (hm:∀ v,C.mu[i]?≠some (some v)) :
 ∃ v,σ[i]? = some (some v)∧R C ow G (ρ.set i none) σ H ((d,v) :: pd):=by
 obtain ⟨v,hv,s⟩:=h.sl i d e
 rw [if_pos hi] at s
 refine ⟨v,hv,lab (fun l π=>if l=2 * i then (2 * pd.length + 1,π) else (l,π)) O,by simp [h.len],h.gh,h.g0,h.gn,?_,h.cok,h.fr,h.ft,h.al,h.mp,?_,⟨?_,?_⟩,Nat.le_succ_of_le h.np⟩
 ·intro a m e
  obtain ⟨l,π,e1,rfl⟩:=gP e
  obtain ⟨q1,q2,q3⟩:=h.og a _ e1
  refine ⟨q1,q2,?_⟩
  try dsimp only
  split
  ·rename_i z
   rcases q3 with q3 | ⟨_,q3⟩
   ·exact .inl q3
   ·rcases h.cok _ _ _ q3 with ⟨k,u,q4,q5⟩ | ⟨k,q4,_⟩
    ·have:k=i:=by have:=q4.symm.trans z; omega
     exact absurd (this ▸ q5) (hm u)
    ·omega
  ·exact q3
 ·intro j e q
  rcases i5 q with ⟨rfl,z⟩ | ⟨z,q'⟩
  ·cases z
  ·obtain ⟨u,h1,h2⟩:=h.sl j e q'
   refine ⟨u,h1,?_⟩
   split at h2
   ·rename_i c; rw [if_pos c]; exact h2.keep (fun _ _ z=>z) fun a τ q=>⟨by rw [bB q,if_neg (by omega)],rfl⟩
   ·rename_i c; rw [if_neg c]; exact h2
 ·exact s.keep (fun _ _ z=>z) fun a τ q=>⟨by rw [bB q,if_pos rfl],rfl⟩
 ·exact bN.keep (fun _ _ z=>z) (fun a j π hj q=>⟨by rw [bB q,if_neg (fun z=>cn z.symm)],rfl⟩) h.pn
def hasL (O:Own) (l:Nat) (a:Addr):Bool:=match O a with
 | some m=>m.1 == l
 | none=>false
theorem eL {l:Nat} {a:Addr}:hasL O l a=true↔∃ π,O a=some (l,π):=by
 unfold hasL
 cases e:O a with
 | none=>simp
 | some m=>obtain ⟨m1,m2⟩:=m; simp
theorem RO.share {d:D} {v:V} (h:RO C ow G ρ σ H ((d,v) :: pd) O) (hn:C.np≤pd.length):∃ G',aJ G G'∧R C ow G' ρ σ H pd∧Rep G' d v:=by
 let l₀:=2 * pd.length + 1
 let G':Hp:=fun a=>if hasL O l₀ a=true then H a else G a
 have sG:aJ G G':=fun a o e=>by
  show (if _ then _ else _)=_
  split
  ·exact h.gh _ _ e
  ·exact e
 have inH:∀ a τ (o:HO),O a=some (l₀,τ)→H a=some o→G' a=some o:=fun a τ xs q e=>by
  show (if _ then _ else _)=_
  rw [if_pos (eL.mpr ⟨_,q⟩)]; exact e
 refine ⟨G',sG,⟨fun a=>if hasL O l₀ a=true then none else O a,h.len,?_,fun a o e=>sG _ _ (h.g0 _ _ e),?_,?_,h.cok,h.fr,(fun a ps q e=>by
  show (if _ then _ else _)=_
  split
  ·rename_i c
   obtain ⟨τ,c⟩:=eL.mp c
   obtain ⟨_,⟨xs,z⟩,_⟩:=h.og a _ c
   rw [z] at e; exact absurd (Option.some.inj e) (WrO.nt xs _ _)
  ·exact h.ft a ps q e),h.al,h.mp,?_,?_,hn⟩,h.pn.1.rep sG.ts d [] v (fun a τ xs q e=>inH a _ xs q e)⟩
 ·intro a o e
  change (if _ then _ else _)=_ at e
  split at e
  ·exact e
  ·exact h.gh _ _ e
 ·intro a o e
  change (if _ then _ else _)=_ at e
  split at e
  ·rename_i c
   obtain ⟨π,q⟩:=eL.mp c
   obtain ⟨_,_,q3⟩:=h.og a _ q
   rcases q3 with q3 | ⟨_,q3⟩
   ·exact .inr q3
   ·rcases h.cok _ _ _ q3 with ⟨k,_,q4,_⟩ | ⟨k,q4,q5⟩
    ·exact absurd q4.symm cn
    ·have q4' : 2 * pd.length + 1=2 * k + 1:=q4
     omega
  ·exact h.gn a o e
 ·intro a l e
  try dsimp only at e
  split at e
  ·cases e
  ·rename_i c
   obtain ⟨q1,q2,q3⟩:=h.og a l e
   exact ⟨by show (if _ then _ else _)=_; rw [if_neg c]; exact q1,q2,q3⟩
 ·intro j e q
  obtain ⟨u,h1,h2⟩:=h.sl j e q
  refine ⟨u,h1,?_⟩
  split at h2
  ·rename_i c; rw [if_pos c]
   refine h2.keep sG.ts fun a τ q=>⟨?_,rfl⟩
   rw [if_neg,q]
   intro z
   obtain ⟨π,z⟩:=eL.mp z
   rw [q] at z
   have:=(Prod.mk.inj (Option.some.inj z)).1
   omega
  ·rename_i c; rw [if_neg c]; exact h2.mono sG
 ·refine bN.keep sG.ts (fun a j π hj q=>⟨?_,rfl⟩) h.pn.2
  rw [if_neg,q]
  intro z
  obtain ⟨π,z⟩:=eL.mp z
  rw [q] at z
  have:=(Prod.mk.inj (Option.some.inj z)).1
  omega
theorem RO.write (h:RO C ow G ρ σ H pd O) {i:Nat} {ds:List D} (e : ρ[i]? = some (some (.lst ds))) (hi:ow[i]? = some true) :
 ∃ a xs,σ[i]? = some (some (.ref a))∧H a=some (.lst xs)∧Seps G H O (2 * i) ds 0 [] xs ∧
  ∀ ds' xs',Seps G H O (2 * i) ds' 0 [] xs'→RO C ow G (ρ.set i (some (.lst ds'))) σ (upd H a (.lst xs')) pd O:=by
 obtain ⟨v,hv,s⟩:=h.sl i _ e
 rw [if_pos hi,Sep] at s
 obtain ⟨a,xs,rfl,hO,hH,hs⟩:=s
 refine ⟨a,xs,hv,hH,hs,fun ds' xs' hs'=>?_⟩
 obtain ⟨g0,_,nw⟩:=h.og a _ hO
 have ne:∀ b l π,O b=some (l,π)→(l≠2 * i∨π≠[])→b≠a:=fun b l π q n z=>by
  subst z
  rw [hO] at q
  obtain ⟨q1,q2⟩:=Prod.mk.inj (Option.some.inj q)
  rcases n with n | n
  ·exact n q1.symm
  ·exact n q2.symm
 refine ⟨by simp [h.len],?_,h.g0,h.gn,?_,h.cok,?_,?_,?_,h.mp,?_,?_,h.np⟩
 ·intro b o q
  rw [aq (fun z=>by rw [z,g0] at q; cases q)]; exact h.gh _ _ q
 ·intro b l q
  obtain ⟨q1,⟨ys,q2⟩,q3⟩:=h.og b l q
  refine ⟨q1,?_,q3⟩
  by_cases z:b=a
  ·subst z; exact ⟨.inl _,av⟩
  ·rw [aq z]; exact ⟨ys,q2⟩
 ·intro b o q n t
  by_cases z:b=a
  ·subst z
   rcases nw with nw | ⟨_,nw⟩
   ·rw [nw] at q; cases q
   ·rw [nw] at n; cases n
  ·rw [aq z]; exact h.fr b o q n t
 ·intro b ps q e
  by_cases z:b=a
  ·subst z; rw [av] at e; cases e
  ·rw [aq z] at e; exact h.ft b ps q e
 ·intro b q
  by_cases z:b=a
  ·subst z; rw [av] at q; cases q
  ·rw [aq z] at q; exact h.al b q
 ·intro j u q
  rcases i5 q with ⟨rfl,z⟩ | ⟨z,q'⟩
  ·cases z
   refine ⟨_,hv,?_⟩
   rw [if_pos hi,Sep]
   exact ⟨a,xs',rfl,hO,av,hs'.keep (fun _ _ z=>z) fun b τ hτ q=>⟨q,aq (ne b _ _ q (.inr (by simpa using hτ)))⟩⟩
  ·obtain ⟨w,h1,h2⟩:=h.sl j u q'
   refine ⟨w,h1,?_⟩
   split at h2
   ·rename_i c; rw [if_pos c]; exact h2.keep (fun _ _ z=>z) fun b τ q=>⟨q,aq (ne b _ _ q (.inl (by omega)))⟩
   ·rename_i c; rw [if_neg c]; exact h2
 ·exact bN.keep (fun _ _ z=>z) (fun b j π hj q=>⟨q,aq (ne b _ _ q (.inl (fun z=>cn z.symm)))⟩) h.pn
theorem RO.join {d:D} {v:V} (h:RO C ow G ρ σ H ((d,v) :: pd) O) (i n:Nat) (hn:C.np≤pd.length) :
 ∃ O',RO C ow G ρ σ H pd O'∧Sep G H O' (2 * i) d [n] v∧∀ (l:Nat) ds k π xs,l≠2 * pd.length + 1→Seps G H O l ds k π xs→Seps G H O' l ds k π xs:=by
 refine ⟨lab (fun l π=>if l=2 * pd.length + 1 then (2 * i,π++[n]) else (l,π)) O,⟨h.len,h.gh,h.g0,h.gn,?_,h.cok,h.fr,h.ft,h.al,h.mp,?_,?_,hn⟩,?_,?_⟩
 ·intro a m e
  obtain ⟨l,π,e1,rfl⟩:=gP e
  obtain ⟨q1,q2,q3⟩:=h.og a _ e1
  refine ⟨q1,q2,?_⟩
  try dsimp only
  split
  ·rename_i z
   rcases q3 with q3 | ⟨_,q3⟩
   ·exact .inl q3
   ·rcases h.cok _ _ _ q3 with ⟨k,_,q4,_⟩ | ⟨k,q4,q5⟩
    ·exact absurd (q4.symm.trans z) cn
    ·omega
  ·exact q3
 ·intro j e q
  obtain ⟨u,h1,h2⟩:=h.sl j e q
  refine ⟨u,h1,?_⟩
  split at h2
  ·rename_i c; rw [if_pos c]; exact h2.keep (fun _ _ z=>z) fun a τ q=>⟨by rw [bB q,if_neg cn],rfl⟩
  ·rename_i c; rw [if_neg c]; exact h2
 ·exact bN.keep (fun _ _ z=>z) (fun a j π hj q=>⟨by rw [bB q,if_neg (by omega)],rfl⟩) h.pn.2
 ·exact Sep.map (f:=fun π=>π++[n]) (fun _ _ z=>z) (fun _ _=>rfl) d [] v (fun a τ q=>⟨by rw [bB q,if_pos rfl],rfl⟩) h.pn.1
 ·intro l ds k π xs hl hs
  exact hs.keep (fun _ _ z=>z) fun a τ _ q=>⟨by rw [bB q,if_neg hl],rfl⟩
end
def bor (js:List Nat) (ow:List Bool):List Bool:=ow.mapIdx fun j b=>b && !js.contains j
theorem e7 {js:List Nat} {ow:List Bool} {j:Nat}:(bor js ow)[j]? = some true↔ow[j]? = some true∧js.contains j=false:=by
 unfold bor
 rw [List.getElem?_mapIdx]
 cases e:ow[j]? with
 | none=>simp
 | some b=>cases b <;> simp
def l6 (ρ:DSt) (js:List Nat) (n l:Nat):Bool:=if l % 2=0 then (match ρ[l / 2]? with | some (some _)=>!js.contains (l / 2) | _=>false) else decide (l / 2<n)
def je (js:List Nat) (l:Nat):Bool:=decide (l % 2=0)&&js.contains (l / 2)
def dh (f:Nat→Bool) (O:Own):Own:=fun a=>match O a with
 | some m=>if f m.1=true then some m else none
 | none=>none
theorem gv {f:Nat→Bool} {O:Own} {a:Addr} {m:Nat×List Nat} (h:O a=some m) (hf:f m.1=true):dh f O a=some m:=by unfold dh; rw [h]; show (if _ then _ else _)=_; rw [if_pos hf]
theorem dj {f:Nat→Bool} {O:Own} {a:Addr} {m:Nat×List Nat} (h:dh f O a=some m):O a=some m∧f m.1=true:=by
 unfold dh at h
 cases e:O a with
 | none=>rw [e] at h; cases h
 | some n =>
  rw [e] at h
  change (if _ then _ else _)=_ at h
  split at h
  ·rename_i c; cases h; exact ⟨rfl,c⟩
  ·cases h
def isSm {α:Type}:Option α→Bool
 | some _=>true
 | none=>false
section
variable {C:Ctx} {ow:List Bool} {G:Hp} {ρ:DSt} {σ:St} {H:Hp} {pd:List (D×V)} {O:Own}
def gBor (js:List Nat) (G H:Hp) (O:Own):Hp:=fun a=>if isSm (dh (je js) O a)=true then H a else G a
def cBor (js:List Nat) (G H:Hp) (O:Own) (ρ:DSt) (σ:St) (n:Nat):Ctx:=⟨gBor js G H O,H,dh (l6 ρ js n) O,σ,n⟩
theorem jz (h:RO C ow G ρ σ H pd O) (js:List Nat):aJ G (gBor js G H O):=fun a o e=>by
 show (if _ then _ else _)=_
 split
 ·exact h.gh _ _ e
 ·exact e
theorem ib {α:Type} {o:Option α} (h:isSm o=true):∃ x,o=some x:=by cases o with | none=>cases h | some x=>exact ⟨x,rfl⟩
theorem RO.enter (h:RO C ow G ρ σ H pd O) (js:List Nat):RO (cBor js G H O ρ σ pd.length) (bor js ow) (gBor js G H O) ρ σ H pd (dh (l6 ρ js pd.length) O):=by
 have sG:=jz h js
 refine ⟨h.len,?_,fun _ _ e=>e,fun _ _ e=>.inl e,?_,?_,fun _ _ e _ _=>e,(fun a ps q e=>by
  show (if _ then _ else _)=_
  split
  ·rename_i c
   obtain ⟨m,c⟩:=ib c
   obtain ⟨_,⟨xs,z⟩,_⟩:=h.og a m (dj c).1
   rw [z] at e; exact absurd (Option.some.inj e) (WrO.nt xs _ _)
  ·exact h.ft a ps q e),fun _ e=>e,fun _ _ e=>e,?_,?_,Nat.le_refl _⟩
 ·intro a o e
  change (if _ then _ else _)=_ at e
  split at e
  ·exact e
  ·exact h.gh _ _ e
 ·intro a l e
  obtain ⟨e1,e2⟩:=dj e
  obtain ⟨q1,q2,q3⟩:=h.og a l e1
  refine ⟨?_,q2,.inr ⟨l.2,e⟩⟩
  ·show (if _ then _ else _)=_
   rw [if_neg]; exact q1
   intro z
   obtain ⟨m,z⟩:=ib z
   obtain ⟨z1,z2⟩:=dj z
   rw [e1] at z1; cases z1
   unfold je at z2; unfold l6 at e2
   simp only [Bool.and_eq_true,decide_eq_true_eq] at z2
   rw [if_pos z2.1] at e2
   split at e2
   ·rw [z2.2] at e2; cases e2
   ·cases e2
 ·intro a l π e
  obtain ⟨e1,e2⟩:=dj e
  unfold l6 at e2
  split at e2
  ·rename_i c
   split at e2
   ·rename_i d hd
    obtain ⟨v,hv,_⟩:=h.sl _ _ hd
    exact .inl ⟨l / 2,v,by omega,hv⟩
   ·cases e2
  ·exact .inr ⟨l / 2,by omega,of_decide_eq_true e2⟩
 ·intro j d e
  obtain ⟨v,h1,h2⟩:=h.sl j d e
  refine ⟨v,h1,?_⟩
  by_cases c:ow[j]? = some true
  ·rw [if_pos c] at h2
   by_cases c2:js.contains j=true
   ·rw [if_neg (fun z=>by rw [e7] at z; rw [c2] at z; exact absurd z.2 (by decide))]
    refine h2.rep sG.ts d [] v fun a τ xs q e=>?_
    show (if _ then _ else _)=_
    rw [if_pos]; exact e
    rw [gv q]; rfl
    unfold je
    simp only [Bool.and_eq_true,decide_eq_true_eq]
    exact ⟨by omega,by rw [show 2 * j / 2=j by omega]; exact c2⟩
   ·rw [if_pos (e7.mpr ⟨c,by simpa using c2⟩)]
    refine h2.keep sG.ts fun a τ q=>⟨gv q ?_,rfl⟩
    unfold l6
    show (if 2 * j % 2=0 then _ else _)=_
    rw [if_pos (by omega),show 2 * j / 2=j by omega,e]
    simp at c2 ⊢; exact c2
  ·rw [if_neg c] at h2
   rw [if_neg (fun z=>c (e7.mp z).1)]
   exact h2.mono sG
 ·refine bN.keep sG.ts (fun a j π hj q=>⟨gv q ?_,rfl⟩) h.pn
  unfold l6
  show (if (2 * j + 1) % 2=0 then _ else _)=_
  rw [if_neg (by omega),show (2 * j + 1) / 2=j by omega]
  simpa using hj
def Kp (ow:List Bool) (ρ ρ':DSt):Prop:=∀ (j:Nat),ow[j]?≠some true→ρ'[j]? = ρ[j]?
def lF (js:List Nat) (O:Own) (G2:Hp):Hp:=fun a=>if isSm (dh (je js) O a)=true then none else G2 a
def uI (js:List Nat) (O O2:Own):Own:=fun a=>match O2 a with
 | some l=>some l
 | none=>dh (je js) O a
theorem RO.leave (h:RO C ow G ρ σ H pd O) {js:List Nat} {G2:Hp} {ρ2:DSt} {H2:Hp} {pd2:List (D×V)} {O2:Own}
 (h2:RO (cBor js G H O ρ σ pd.length) (bor js ow) G2 ρ2 σ H2 pd2 O2) (kp:Kp (bor js ow) ρ ρ2) :
 RO C ow (lF js O G2) ρ2 σ H2 pd2 (uI js O O2)∧aJ G (lF js O G2)∧bY G2 (lF js O G2):=by
 have sG:=jz h js
 have dm:∀ a m,dh (je js) O a=some m→O a=some m∧G a=none∧∃ xs:WrO,H a=some xs.ho∧G2 a=some xs.ho:=fun a m e=>by
  obtain ⟨e1,e2⟩:=dj e
  obtain ⟨q1,⟨xs,q2⟩,q3⟩:=h.og a m e1
  refine ⟨e1,q1,xs,q2,h2.g0 a _ ?_⟩
  show (if _ then _ else _)=_
  rw [if_pos (by rw [e]; rfl)]; exact q2
 have nd:∀ a,G a≠none→¬ isSm (dh (je js) O a)=true:=fun a g z=>by
  obtain ⟨m,z⟩:=ib z
  exact g (dm a m z).2.1
 have sG3:aJ G (lF js O G2):=fun a o e=>by
  show (if _ then _ else _)=_
  rw [if_neg (nd a (by rw [e]; simp))]
  exact h2.g0 a o (sG a o e)
 have ts:bY G2 (lF js O G2):=fun a xs e=>by
  show (if _ then _ else _)=_
  rw [if_neg]; exact e
  intro z
  obtain ⟨m,z⟩:=ib z
  obtain ⟨_,_,ys,_,q⟩:=dm a m z
  rw [e] at q; exact (WrO.ne (Option.some.inj q).symm).elim
 have o2:∀ a l,O2 a=some l→uI js O O2 a=some l:=fun a l e=>by show (match O2 a with | some l=>some l | none=>_)=_; rw [e]
 refine ⟨⟨h2.len,?_,fun a o e=>sG3 _ _ (h.g0 _ _ e),?_,?_,h.cok,?_,(fun a ps q e=>by show (if _ then _ else _)=_; split <;> first | rfl | exact h2.ft a ps q e),fun a e=>h.al a (h2.al a e),h.mp,?_,?_,Nat.le_trans h.np h2.np⟩,sG3,ts⟩
 ·intro a o e
  change (if _ then _ else _)=_ at e
  split at e
  ·cases e
  ·exact h2.gh _ _ e
 ·intro a o e
  change (if _ then _ else _)=_ at e
  split at e
  ·cases e
  ·rename_i c
   rcases h2.gn a o e with q | q
   ·change (if _ then _ else _)=_ at q
    rw [if_neg c] at q
    exact h.gn a o q
   ·exact .inr (h.al a q)
 ·intro a l e
  change (match O2 a with | some l=>some l | none=>_)=_ at e
  cases q:O2 a with
  | some l' =>
   rw [q] at e; cases e
   obtain ⟨q1,q2,q3⟩:=h2.og a l q
   refine ⟨by show (if _ then _ else _)=_; split <;> first | rfl | exact q1,q2,?_⟩
   rcases q3 with q3 | ⟨q3,q4⟩
   ·exact .inl (h.al a q3)
   ·exact (h.og a _ (dj q4).1).2.2
  | none =>
   rw [q] at e
   change dh (je js) O a=some l at e
   obtain ⟨e1,q1,xs,q2,q3⟩:=dm a l e
   refine ⟨by show (if _ then _ else _)=_; rw [if_pos (by rw [e]; rfl)],⟨xs,h2.gh _ _ q3⟩,(h.og a l e1).2.2⟩
 ·intro a o e n t
  have q:=h.fr a o e n t
  refine h2.fr a o q ?_ t
  show dh _ O a=none
  cases z:dh (l6 ρ js pd.length) O a with
  | none=>rfl
  | some m =>
   obtain ⟨z1,_⟩:=dj z
   obtain ⟨_,_,z3⟩:=h.og a m z1
   rcases z3 with z3 | ⟨_,z3⟩
   ·rw [z3] at e; cases e
   ·rw [z3] at n; cases n
 ·intro j d e
  by_cases c:(bor js ow)[j]? = some true
  ·obtain ⟨v,q1,q2⟩:=h2.sl j d e
   rw [if_pos c] at q2
   refine ⟨v,q1,?_⟩
   rw [if_pos (e7.mp c).1]
   exact q2.keep ts fun a τ q=>⟨o2 _ _ q,rfl⟩
  ·rw [kp j c] at e
   obtain ⟨v,q1,q2⟩:=h.sl j d e
   refine ⟨v,q1,?_⟩
   by_cases c2:ow[j]? = some true
   ·rw [if_pos c2] at q2 ⊢
    have hj:js.contains j=true:=by
     cases z:js.contains j with
     | true=>rfl
     | false=>exact absurd (e7.mpr ⟨c2,z⟩) c
    refine q2.keep sG3.ts fun a τ q=>?_
    have dd:dh (je js) O a=some (2 * j,τ++[]):=gv q (by
     unfold je
     simp only [Bool.and_eq_true,decide_eq_true_eq]
     exact ⟨by omega,by rw [show 2 * j / 2=j by omega]; exact hj⟩)
    obtain ⟨_,_,xs,q4,q5⟩:=dm a _ dd
    refine ⟨?_,by rw [q4]; exact h2.gh _ _ q5⟩
    show (match O2 a with | some l=>some l | none=>_)=_
    cases z:O2 a with
    | some l=>have:=(h2.og a l z).1; rw [q5] at this; cases this
    | none=>exact dd
   ·rw [if_neg c2] at q2 ⊢
    exact q2.mono sG3
 ·exact bN.keep ts (fun a j π hj q=>⟨o2 _ _ q,rfl⟩) h2.pn
end
abbrev ME:=DSt→(D→DSt→Prop)→Prop
abbrev MT:=DSt→(Bool→DSt→Prop)→Prop
abbrev MA:=DSt→(List D→DSt→Prop)→Prop
def SE (ow:List Bool) (t:TE) (m:ME):Prop:=∀ (C:Ctx) (G:Hp) (ρ:DSt) (σ:St) (H:Hp) (pd:List (D×V)) (q:D→DSt→Prop) (Q:VK),R C ow G ρ σ H pd→m ρ q →
 (∀ d ρ' v G' H',q d ρ'→aJ G G'→Kp ow ρ ρ'→R C ow G' ρ' σ H' pd→Rep G' d v→Q v H')→t σ H Q
def SF (ow:List Bool) (t:TE) (m:ME):Prop:=∀ (C:Ctx) (G:Hp) (ρ:DSt) (σ:St) (H:Hp) (pd:List (D×V)) (q:D→DSt→Prop) (Q:VK),R C ow G ρ σ H pd→m ρ q →
 (∀ d ρ' v G' H',q d ρ'→aJ G G'→Kp ow ρ ρ'→R C ow G' ρ' σ H' ((d,v) :: pd)→Q v H')→t σ H Q
def STe (ow:List Bool) (t:TT) (m:MT):Prop:=∀ (C:Ctx) (G:Hp) (ρ:DSt) (σ:St) (H:Hp) (pd:List (D×V)) (q:Bool→DSt→Prop) (Q:Bool→Hp→Prop),R C ow G ρ σ H pd→m ρ q →
 (∀ b ρ' G' H',q b ρ'→aJ G G'→Kp ow ρ ρ'→R C ow G' ρ' σ H' pd→Q b H')→t σ H Q
def SA (ow:List Bool) (n:Nat) (t:TA) (m:MA):Prop:=∀ (C:Ctx) (G:Hp) (ρ:DSt) (σ:St) (H:Hp) (pd:List (D×V)) (q:List D→DSt→Prop) (Q:List V→Hp→Prop),R C ow G ρ σ H pd→m ρ q →
 (∀ ds ρ' vs G' H',q ds ρ'→aJ G G'→Kp ow ρ ρ'→R C ow G' ρ' σ H' pd→Reps G' ds vs→vs.length=n→Q vs H')→t σ H Q
structure QE (X:Cx) (ow:List Bool) (e:Expr) (m:ME):Prop where
 ex:∃ t,PE X e t∧SE ow t m
structure QF (X:Cx) (ow:List Bool) (e:Expr) (m:ME):Prop where
 ex:∃ t,PE X e t∧SF ow t m
structure QT (X:Cx) (ow:List Bool) (e:Expr) (m:MT):Prop where
 ex:∃ t,PT X e t∧STe ow t m
structure QW (X:Cx) (ow:List Bool) (e:Expr) (m:MT):Prop where
 ex:∃ t,PW X e t∧STe ow t m
structure QA (X:Cx) (ow:List Bool) (es:List Expr) (m:MA):Prop where
 ex:∃ t,PA X es t∧SA ow es.length t m
theorem Kp.refl {ow:List Bool} {ρ:DSt}:Kp ow ρ ρ:=fun _ _=>rfl
theorem Kp.trans {ow:List Bool} {ρ ρ1 ρ2:DSt} (a:Kp ow ρ ρ1) (b:Kp ow ρ1 ρ2):Kp ow ρ ρ2:=fun j h=>(b j h).trans (a j h)
theorem R.gh {C:Ctx} {ow:List Bool} {G:Hp} {ρ:DSt} {σ:St} {H:Hp} {pd:List (D×V)} (h:R C ow G ρ σ H pd):aJ G H:=let ⟨_,h⟩:=h; h.gh
theorem R.np {C:Ctx} {ow:List Bool} {G:Hp} {ρ:DSt} {σ:St} {H:Hp} {pd:List (D×V)} (h:R C ow G ρ σ H pd):C.np≤pd.length:=let ⟨_,h⟩:=h; h.np
section
variable {X:Cx} {ow:List Bool} {a b c e:Expr} {ma mb mc:ME} {pos:Pos}
def mVar (i:Nat):ME:=fun ρ q=>match ρ[i]? with
 | some (some d)=>q d ρ
 | _=>False
theorem aa (i:Nat) {x:Str} (hs:ow[i]?≠some true:=by decide) (hN:X.N[i]? = some x:=by rfl) (hv:Vis X.env.scope x:=by first | exact Or.inl rfl | exact Or.inr (Or.inl rfl) | exact Or.inr (Or.inr rfl)) (hd:(x == ("__debug__":Str))=false:=by decide)
 (hcd:(x == ("__classdict__":Str))=false:=by decide):QE X ow (.Name x pos) (mVar i):=⟨_,eO hN hv hd hcd,fun C G ρ σ H pd q Q r h k=>by
 unfold mVar at h
 split at h
 ·rename_i d e
  obtain ⟨O,ro⟩:=r
  obtain ⟨v,h1,h2⟩:=ro.sl i d e
  rw [if_neg hs] at h2
  exact ⟨v,h1,k d ρ v G H h (aJ.refl _) Kp.refl ⟨O,ro⟩ h2⟩
 ·exact h.elim⟩
def mC (d:D):ME:=fun ρ q=>q d ρ
theorem qK {v:V} {d:D} (h:PE X e (tC v)) (hr:∀ G,Rep G d v):QE X ow e (mC d):=⟨_,h,fun C G ρ σ H pd q Q r h k=>k d ρ v G H h (aJ.refl _) Kp.refl r (hr G)⟩
theorem ae {i j}:QE X ow (.Constant (.int i) j pos) (mC (.int i)):=qK vA fun _=>bg _
theorem cG {i j}:QE X ow (.Constant (.bool i) j pos) (mC (.bl i)):=qK uu fun _=>cZ _
theorem bE {j}:QE X ow (.Constant .none j pos) (mC .non):=qK wJ fun _=>kH
theorem bR {i j}:QE X ow (.Constant (.str i) j pos) (mC (.str i)):=qK pD fun _=>sY _
theorem dq {x:Str} {i:Int} (hg:Gl X x) (hm:∃ t,X.mg x=some (.int i t)) (hd:(x == ("__debug__":Str))=false:=by decide):QE X ow (.Name x pos) (mC (.int i)):=by
 obtain ⟨t,hm⟩:=hm
 exact qK (gg (v:=.int i) hg hm ⟨t,rfl⟩ hd) fun _=>bg _
theorem ki {ta tb:TE} (ha:SE ow ta ma) (hb:SE ow tb mb) {C:Ctx} {G:Hp} {ρ:DSt} {σ:St} {H:Hp} {pd:List (D×V)} {f:D→D→DSt→Prop} {Q:V→V→Hp→Prop}
 (r:R C ow G ρ σ H pd) (h:ma ρ fun x ρ1=>mb ρ1 fun y ρ2=>f x y ρ2)
 (k:∀ dx dy ρ' x y G' H',f dx dy ρ'→aJ G G'→Kp ow ρ ρ'→R C ow G' ρ' σ H' pd→Rep G' dx x→Rep G' dy y→Q x y H'):ta σ H fun x H1=>tb σ H1 fun y H2=>Q x y H2:=by
 refine ha C G ρ σ H pd _ _ r h fun dx ρ1 x G1 H1 h1 s1 k1 r1 p1=>?_
 refine hb C G1 ρ1 σ H1 pd _ _ r1 h1 fun dy ρ2 y G2 H2 h2 s2 k2 r2 p2=>?_
 exact k dx dy ρ2 x y G2 H2 h2 (s1.trans s2) (k1.trans k2) r2 (Rep.mono s2 _ _ p1) p2
def DOp (r:R2) (f:D→D→(D→Prop)→Prop):Prop:=∀ (G H:Hp) (x y:V) (dx dy:D) (q:D→Prop) (Q:VK),aJ G H→Rep G dx x→Rep G dy y→f dx dy q→(∀ d v,q d→Rep G d v→Q v H)→r x y H Q
def mOp (f:D→D→(D→Prop)→Prop) (ma mb:ME):ME:=fun ρ q=>ma ρ fun x ρ1=>mb ρ1 fun y ρ2=>f x y fun d=>q d ρ2
theorem nO {r:R2} {f:D→D→(D→Prop)→Prop} {ta tb:TE} (hd:DOp r f) (ha:SE ow ta ma) (hb:SE ow tb mb):SE ow (tOp r ta tb) (mOp f ma mb):=fun C G ρ σ H pd q Q hr h k=>by
 refine ki ha hb hr h fun dx dy ρ' x y G' H' hf s kp r' p1 p2=>?_
 exact hd G' H' x y dx dy _ _ r'.gh p1 p2 hf fun d v hq p=>k d ρ' v G' H' hq s kp r' p
theorem ay {op:Operator} {r:R2} {f:D→D→(D→Prop)→Prop} (ho:OpR X (binaryOp op) r) (hd:DOp r f) (ha:QE X ow a ma) (hb:QE X ow b mb):QE X ow (.BinOp a op b pos) (mOp f ma mb):=by
 obtain ⟨ta,pa,sa⟩:=ha; obtain ⟨tb,pb,sb⟩:=hb
 exact ⟨_,ql ho pa pb,nO hd sa sb⟩
theorem dJ {op:CmpOp} {r:R2} {f:D→D→(D→Prop)→Prop} (ho:OpR X (compareOp op) r) (hd:DOp r f) (ha:QE X ow a ma) (hb:QE X ow b mb) (hm:behindInMarks op b=false):QE X ow (.Compare a [op] [b] pos) (mOp f ma mb):=by
 obtain ⟨ta,pa,sa⟩:=ha; obtain ⟨tb,pb,sb⟩:=hb
 exact ⟨_,sI ho pa pb hm,nO hd sa sb⟩
theorem ar {r:R2} {f:D→D→(D→Prop)→Prop} (ho:IxR X r) (hd:DOp r f) (ha:QE X ow a ma) (hb:QE X ow b mb) (hs:mX b):QE X ow (.Subscript a b pos) (mOp f ma mb):=by
 obtain ⟨ta,pa,sa⟩:=ha; obtain ⟨tb,pb,sb⟩:=hb
 exact ⟨_,pe_ix ho pa pb hs,nO hd sa sb⟩
def mB (m:ME):MT:=fun ρ q=>m ρ fun d ρ'=>match d with
 | .bl b=>q b ρ'
 | _=>False
theorem cH {G:Hp} {b:Bool} {v:V} (h:Rep G (.bl b) v):v = .bl b:=by rw [Rep] at h; exact h
theorem aG {G:Hp} {b:Int} {v:V} (h:Rep G (.int b) v):v = .int b:=by rw [Rep] at h; exact h
theorem uy {t:TE} {m:ME} (h:SE ow t m):STe ow (uG t) (mB m):=fun C G ρ σ H pd q Q r hm k=>by
 refine h C G ρ σ H pd _ _ r hm fun d ρ' v G' H' hq s kp r' p=>?_
 cases d with
 | bl b=>exact ⟨b,cH p,k b ρ' G' H' hq s kp r'⟩
 | _=>exact hq.elim
theorem aY {op:CmpOp} {r:R2} {f:D→D→(D→Prop)→Prop} (ho:OpR X (compareOp op) r) (hd:DOp r f) (ha:QE X ow a ma) (hb:QE X ow b mb) (hm:behindInMarks op b=false):QT X ow (.Compare a [op] [b] pos) (mB (mOp f ma mb)):=by
 obtain ⟨ta,pa,sa⟩:=ha; obtain ⟨tb,pb,sb⟩:=hb
 exact ⟨_,t6 ho pa pb hm,uy (nO hd sa sb)⟩
theorem a9 (h:QE X ow e ma) (he:∀ whole,isTrue e X.env whole=(do let v ← whole; standAt e.pos; holding [v] (truthy v)):=by intro _; rfl):QT X ow e (mB ma):=by
 obtain ⟨ta,pa,sa⟩:=h
 exact ⟨_,xi pa he,uy sa⟩
def mIf {α:Type} (m:MT) (x y:DSt→(α→DSt→Prop)→Prop):DSt→(α→DSt→Prop)→Prop:=fun ρ q=>m ρ fun b ρ1=>if b=true then x ρ1 q else y ρ1 q
def mYes (b:Bool):MT:=fun ρ q=>q b ρ
theorem st_if {t t1 t2:TT} {m m1 m2:MT} (h:STe ow t m) (h1:STe ow t1 m1) (h2:STe ow t2 m2):STe ow (fun σ H Q=>t σ H fun c H1=>if c=true then t1 σ H1 Q else t2 σ H1 Q) (mIf m m1 m2):=fun C G ρ σ H pd q Q r hm k=>by
 refine h C G ρ σ H pd _ _ r hm fun b ρ' G' H' hq s kp r'=>?_
 cases b with
 | true=>rw [if_pos rfl] at hq ⊢; exact h1 C G' ρ' σ H' pd _ _ r' hq fun b ρ2 G2 H2 hq2 s2 kp2 r2=>k b ρ2 G2 H2 hq2 (s.trans s2) (kp.trans kp2) r2
 | false=>rw [if_neg (by decide)] at hq ⊢; exact h2 C G' ρ' σ H' pd _ _ r' hq fun b ρ2 G2 H2 hq2 s2 kp2 r2=>k b ρ2 G2 H2 hq2 (s.trans s2) (kp.trans kp2) r2
theorem qT (b:Bool):STe ow (fun _ H Q=>Q b H) (mYes b):=fun C G ρ σ H pd q Q r hm k=>k b ρ G H hm (aJ.refl _) Kp.refl r
variable {mt mu mv:MT} {rest:List Expr}
theorem cK (h:QT X ow a mt):QW X ow (.BoolOp .Or [a] pos) mt:=by obtain ⟨t,p,s⟩:=h; exact ⟨_,wq p,s⟩
theorem d6 (h:QT X ow a mt) (h2:QW X ow (.BoolOp .Or (b :: rest) pos) mu):QW X ow (.BoolOp .Or (a :: b :: rest) pos) (mIf mt (mYes true) mu):=by
 obtain ⟨t,p,s⟩:=h; obtain ⟨t2,p2,s2⟩:=h2; exact ⟨_,pw_or p p2,st_if s (qT true) s2⟩
theorem QW.qt (h:QW X ow e mt):QT X ow e mt:=by obtain ⟨t,p,s⟩:=h; exact ⟨_,p.pt,s⟩
def mNot (m:MT):MT:=fun ρ q=>m ρ fun b ρ'=>q (!b) ρ'
theorem bi (h:QT X ow a mt):QT X ow (.UnaryOp .Not a pos) (mNot mt):=by
 obtain ⟨t,p,s⟩:=h
 exact ⟨_,vm p,fun C G ρ σ H pd q Q r hm k=>s C G ρ σ H pd _ _ r hm fun b ρ' G' H' hq s kp r'=>k _ ρ' G' H' hq s kp r'⟩
def mV (m:MT):ME:=fun ρ q=>m ρ fun b ρ'=>q (.bl b) ρ'
theorem fL {op} (h:QE X ow a ma):QE X ow (.BoolOp op [a] pos) ma:=by obtain ⟨t,p,s⟩:=h; exact ⟨_,xj p,s⟩
theorem wW (h:QE X ow a ma):QE X ow (.UnaryOp .Not a pos) (mV (mNot (mB ma))):=by
 obtain ⟨t,p,s⟩:=h
 refine ⟨_,vM p,fun C G ρ σ H pd q Q r hm k=>?_⟩
 refine s C G ρ σ H pd _ _ r hm fun d ρ' v G' H' hq s kp r' p=>?_
 cases d with
 | bl b=>exact ⟨b,cH p,k _ ρ' _ G' H' hq s kp r' (cZ _)⟩
 | _=>exact hq.elim
theorem eC (h:QE X ow a ma) (h2:QE X ow (.BoolOp .And (b :: rest) pos) mb):QE X ow (.BoolOp .And (a :: b :: rest) pos) (mIf (mB ma) mb (mC (.bl false))):=by
 obtain ⟨t,p,s⟩:=h; obtain ⟨t2,p2,s2⟩:=h2
 refine ⟨_,vL p p2,fun C G ρ σ H pd q Q r hm k=>?_⟩
 refine s C G ρ σ H pd _ _ r hm fun d ρ' v G' H' hq s kp r' p=>?_
 cases d with
 | bl b =>
  refine ⟨b,cH p,?_⟩
  change (if b=true then _ else _) at hq
  cases b with
  | true=>rw [if_pos rfl] at hq ⊢; exact s2 C G' ρ' σ H' pd _ _ r' hq fun d ρ2 v G2 H2 hq2 z2 kp2 r2 p2=>k d ρ2 v G2 H2 hq2 (s.trans z2) (kp.trans kp2) r2 p2
  | false=>rw [if_neg (by decide)] at hq ⊢; exact k _ ρ' _ G' H' hq s kp r' (cZ _)
 | _=>exact hq.elim
theorem iq (h:QT X ow c mt) (ha:QE X ow a ma) (hb:QE X ow b mb):QE X ow (.IfExp c a b pos) (mIf mt ma mb):=by
 obtain ⟨t,p,s⟩:=h; obtain ⟨t1,p1,s1⟩:=ha; obtain ⟨t2,p2,s2⟩:=hb
 refine ⟨_,rh p p1 p2,fun C G ρ σ H pd q Q r hm k=>?_⟩
 refine s C G ρ σ H pd _ _ r hm fun d ρ' G' H' hq s kp r'=>?_
 cases d with
 | true=>rw [if_pos rfl] at hq ⊢; exact s1 C G' ρ' σ H' pd _ _ r' hq fun d ρ2 v G2 H2 hq2 z2 kp2 r2 p2=>k d ρ2 v G2 H2 hq2 (s.trans z2) (kp.trans kp2) r2 p2
 | false=>rw [if_neg (by decide)] at hq ⊢; exact s2 C G' ρ' σ H' pd _ _ r' hq fun d ρ2 v G2 H2 hq2 z2 kp2 r2 p2=>k d ρ2 v G2 H2 hq2 (s.trans z2) (kp.trans kp2) r2 p2
theorem QF.qe (h:QF X ow e ma):QE X ow e ma:=by
 obtain ⟨t,p,s⟩:=h
 refine ⟨_,p,fun C G ρ σ H pd q Q r hm k=>s C G ρ σ H pd _ _ r hm fun d ρ' v G' H' hq s kp r'=>?_⟩
 obtain ⟨O,r'⟩:=r'
 obtain ⟨G2,s2,r2,p2⟩:=r'.share r.np
 exact k d ρ' v G2 H' hq (s.trans s2) kp r2 p2
def mImm (m:ME):ME:=fun ρ q=>m ρ fun d ρ'=>imm d=true∧q d ρ'
theorem QE.qf (h:QE X ow e ma):QF X ow e (mImm ma):=by
 obtain ⟨t,p,s⟩:=h
 refine ⟨_,p,fun C G ρ σ H pd q Q r hm k=>s C G ρ σ H pd _ _ r hm fun d ρ' v G' H' hq s kp r' p=>?_⟩
 obtain ⟨O,r'⟩:=r'
 exact k d ρ' v G' H' hq.2 s kp ⟨O,r'.len,r'.gh,r'.g0,r'.gn,r'.og,r'.cok,r'.fr,r'.ft,r'.al,r'.mp,r'.sl,⟨p.sep d [] v hq.1,r'.pn⟩,Nat.le_succ_of_le r'.np⟩
theorem mP {js:List Nat} {ρ ρ':DSt} (h:Kp (bor js ow) ρ ρ'):Kp ow ρ ρ':=fun j n=>h j fun z=>n (e7.mp z).1
theorem QE.bor (js:List Nat) (h:QE X (bor js ow) e ma):QE X ow e (mImm ma):=by
 obtain ⟨t,p,s⟩:=h
 refine ⟨_,p,fun C G ρ σ H pd q Q r hm k=>?_⟩
 obtain ⟨O,r⟩:=r
 refine s _ _ ρ σ H pd _ _ ⟨_,r.enter js⟩ hm fun d ρ' v G' H' hq s kp r' p=>?_
 obtain ⟨O',r'⟩:=r'
 obtain ⟨r2,s2,ts⟩:=r.leave r' kp
 exact k d ρ' v _ H' hq.2 s2 (mP kp) ⟨_,r2⟩ (p.imms ts d v hq.1)
theorem QF.bor (js:List Nat) (h:QF X (bor js ow) e ma):QF X ow e ma:=by
 obtain ⟨t,p,s⟩:=h
 refine ⟨_,p,fun C G ρ σ H pd q Q r hm k=>?_⟩
 obtain ⟨O,r⟩:=r
 refine s _ _ ρ σ H pd _ _ ⟨_,r.enter js⟩ hm fun d ρ' v G' H' hq s kp r'=>?_
 obtain ⟨O',r'⟩:=r'
 obtain ⟨r2,s2,ts⟩:=r.leave r' kp
 exact k d ρ' v _ H' hq s2 (mP kp) ⟨_,r2⟩
theorem QT.bor (js:List Nat) (h:QT X (bor js ow) e mt):QT X ow e mt:=by
 obtain ⟨t,p,s⟩:=h
 refine ⟨_,p,fun C G ρ σ H pd q Q r hm k=>?_⟩
 obtain ⟨O,r⟩:=r
 refine s _ _ ρ σ H pd _ _ ⟨_,r.enter js⟩ hm fun d ρ' G' H' hq s kp r'=>?_
 obtain ⟨O',r'⟩:=r'
 obtain ⟨r2,s2,ts⟩:=r.leave r' kp
 exact k d ρ' _ H' hq s2 (mP kp) ⟨_,r2⟩
def n4:MA:=fun ρ q=>q [] ρ
def ge (m:ME) (r:MA):MA:=fun ρ q=>m ρ fun d ρ1=>r ρ1 fun ds ρ2=>q (d :: ds) ρ2
variable {mr:MA} {es:List Expr}
theorem af:QA X ow [] n4:=⟨_,cq,fun C G ρ σ H pd q Q r h k=>k [] ρ [] G H h (aJ.refl _) Kp.refl r bO rfl⟩
theorem ad (ha:QE X ow e ma) (hr:QA X ow es mr) (hs:starEach (e :: es) X.env=(false,eval e X.env) :: starEach es X.env:=by rfl):QA X ow (e :: es) (ge ma mr):=by
 obtain ⟨t,p,s⟩:=ha; obtain ⟨t2,p2,s2⟩:=hr
 refine ⟨_,a6 p p2 hs,fun C G ρ σ H pd q Q r hm k=>?_⟩
 refine s C G ρ σ H pd _ _ r hm fun d ρ' v G' H' hq z kp r' p=>?_
 refine s2 C G' ρ' σ H' pd _ _ r' hq fun ds ρ2 vs G2 H2 hq2 z2 kp2 r2 p2 hl=>?_
 exact k (d :: ds) ρ2 (v :: vs) G2 H2 hq2 (z.trans z2) (kp.trans kp2) r2 (bA (Rep.mono z2 _ _ p) p2) (by simp [hl])
def mTup (m:MA):ME:=fun ρ q=>m ρ fun ds ρ'=>q (.tup ds) ρ'
def mLst (m:MA):ME:=fun ρ q=>m ρ fun ds ρ'=>q (.lst ds) ρ'
def mLstI (m:MA):ME:=fun ρ q=>m ρ fun ds ρ'=>imms ds=true∧q (.lst ds) ρ'
theorem dz {n:Nat} (h:n≤1000):n≤sizeLine:=Nat.le_of_lt (ff h)
theorem bf {x1} (h:QA X ow es mr) (hl:es.length≤1000:=by decide):QE X ow (.Tuple es x1 pos) (mTup mr):=by
 obtain ⟨t,p,s⟩:=h
 refine ⟨_,rb p,fun C G ρ σ H pd q Q r hm k=>s C G ρ σ H pd _ _ r hm fun ds ρ' vs G' H' hq z kp r' p hn=>⟨dz (by omega),fun a ha=>?_⟩⟩
 obtain ⟨O,r'⟩:=r'
 obtain ⟨r2,s2⟩:=r'.new ha (.tup vs)
 exact k _ ρ' _ _ _ hq (z.trans s2) kp ⟨O,r2⟩ (kE av (Reps.mono s2 _ _ p))
theorem aU (h:QA X ow es mr) (hl:es.length≤1000:=by decide):QE X ow (.List es pos) (mLst mr):=by
 obtain ⟨t,p,s⟩:=h
 refine ⟨_,l4 p,fun C G ρ σ H pd q Q r hm k=>s C G ρ σ H pd _ _ r hm fun ds ρ' vs G' H' hq z kp r' p hn=>⟨dz (by omega),fun a ha=>?_⟩⟩
 obtain ⟨O,r'⟩:=r'
 obtain ⟨r2,s2⟩:=r'.new ha (.lst vs)
 exact k _ ρ' _ _ _ hq (z.trans s2) kp ⟨O,r2⟩ (e_ av (Reps.mono s2 _ _ p))
theorem dH (h:QA X ow es mr) (hl:es.length≤1000:=by decide):QF X ow (.List es pos) (mLstI mr):=by
 obtain ⟨t,p,s⟩:=h
 refine ⟨_,l4 p,fun C G ρ σ H pd q Q r hm k=>s C G ρ σ H pd _ _ r hm fun ds ρ' vs G' H' hq z kp r' p hn=>⟨dz (by omega),fun a ha=>?_⟩⟩
 obtain ⟨O,r'⟩:=r'
 exact k _ ρ' _ _ _ hq.2 z kp (r'.newL ha hq.1 p)
def gf (r:List V→Hp→VK→Prop) (f:List D→(D→Prop)→Prop):Prop:=∀ (G H:Hp) (xs:List V) (ds:List D) (q:D→Prop) (Q:VK),aJ G H→Reps G ds xs→f ds q→(∀ d v,q d→Rep G d v→Q v H)→r xs H Q
def mCB (f:List D→(D→Prop)→Prop) (m:MA):ME:=fun ρ q=>m ρ fun ds ρ'=>f ds fun d=>q d ρ'
theorem uM {r:List V→Hp→VK→Prop} {f:List D→(D→Prop)→Prop} {t:TA} {n:Nat} (hd:gf r f) (s:SA ow n t mr):SE ow (tCB r t) (mCB f mr):=fun C G ρ σ H pd q Q hr hm k =>
 s C G ρ σ H pd _ _ hr hm fun ds ρ' vs G' H' hq z kp r' p hn=>hd G' H' vs ds _ _ r'.gh p hq fun d v hq p=>k d ρ' v G' H' hq z kp r' p
variable {x:Str} {p':Pos}
theorem aK {id:String} {r:List V→Hp→VK→Prop} {f:List D→(D→Prop)→Prop} (hc:cF X (.builtin id) r) (hd:gf r f) (hg:Gl X x) (hm:X.mg x=none) (hv:bootBuiltins x=some (.builtin id)) (ha:QA X ow (e :: es) mr) (hn:x ≠ "__name__":=by decide) (hdb:(x == ("__debug__":Str))=false:=by decide)
 (he:starEach (e :: es) X.env=(false,eval e X.env) :: starEach es X.env:=by rfl) (hpl:(backTo pos (starEach es X.env)).any (·.1)=false:=by rfl):QE X ow (.Call (.Name x p') (e :: es) [] pos) (mCB f mr):=by
 obtain ⟨t,p,s⟩:=ha
 exact ⟨_,fS hc hg hm hv p hn hdb he hpl,uM hd s⟩
theorem dN {id:String} {r:List V→Hp→VK→Prop} {f:List D→(D→Prop)→Prop} (hc:cF X (.type id) r) (hd:gf r f) (hg:Gl X x) (hm:X.mg x=none) (hv:bootBuiltins x=some (.type id)) (ha:QA X ow (e :: es) mr) (hn:x ≠ "__name__":=by decide) (hdb:(x == ("__debug__":Str))=false:=by decide)
 (he:starEach (e :: es) X.env=(false,eval e X.env) :: starEach es X.env:=by rfl) (hpl:(backTo pos (starEach es X.env)).any (·.1)=false:=by rfl):QE X ow (.Call (.Name x p') (e :: es) [] pos) (mCB f mr):=by
 obtain ⟨t,p,s⟩:=ha
 exact ⟨_,e9 hc hg hm hv p hn hdb he hpl,uM hd s⟩
end
def fI (g:Int→Int→Int):D→D→(D→Prop)→Prop:=fun a b q=>match a,b with
 | .int i,.int j=>q (.int (g i j))
 | _,_=>False
def fIC (C:Int→Int→Prop) (g:Int→Int→Int):D→D→(D→Prop)→Prop:=fun a b q=>match a,b with
 | .int i,.int j=>C i j∧q (.int (g i j))
 | _,_=>False
def fB (g:Int→Int→Bool):D→D→(D→Prop)→Prop:=fun a b q=>match a,b with
 | .int i,.int j=>q (.bl (g i j))
 | _,_=>False
theorem dI {g:Int→Int→Int}:DOp (rI0 fun i j=>.int (g i j)) (fI g):=fun G H x y dx dy q Q s p1 p2 hf k=>by
 unfold fI at hf
 split at hf
 ·exact ⟨_,_,aG p1,aG p2,k _ _ hf (bg _)⟩
 ·exact hf.elim
theorem dIC {C:Int→Int→Prop} {g:Int→Int→Int}:DOp (rI C fun i j=>.int (g i j)) (fIC C g):=fun G H x y dx dy q Q s p1 p2 hf k=>by
 unfold fIC at hf
 split at hf
 ·exact ⟨_,_,aG p1,aG p2,hf.1,k _ _ hf.2 (bg _)⟩
 ·exact hf.elim
theorem dB {g:Int→Int→Bool}:DOp (rI0 fun i j=>.bl (g i j)) (fB g):=fun G H x y dx dy q Q s p1 p2 hf k=>by
 unfold fB at hf
 split at hf
 ·exact ⟨_,_,aG p1,aG p2,k _ _ hf (cZ _)⟩
 ·exact hf.elim
def eqD (a b:D):Bool:=PyData.eqv (toP a) (toP b)
def okD (a:D):Bool:=SeqAt.shaped (toP a)
def fEq:D→D→(D→Prop)→Prop:=fun a b q=>match a,b with
 | .int i,.int j=>q (.bl (decide (i=j)))
 | a,b=>okD a=true∧okD b=true∧q (.bl (eqD a b))
def fNe:D→D→(D→Prop)→Prop:=fun a b q=>match a,b with
 | .int i,.int j=>q (.bl (!decide (i=j)))
 | a,b=>okD a=true∧okD b=true∧q (.bl (!eqD a b))
theorem nF (i j:Int):eqD (.int i) (.int j)=decide (i=j):=by
 unfold eqD; rw [toP,toP,PyData.eqv]; first | rfl | (rw [Bool.beq_eq_decide_eq])
theorem ii (i:Int):okD (.int i)=true:=by unfold okD; rw [toP]; rfl
theorem dEq:DOp rEqD fEq:=fun G H x y dx dy q Q s p1 p2 hf k=>by
 have main:okD dx=true∧okD dy=true∧q (.bl (eqD dx dy)):=by
  unfold fEq at hf
  split at hf
  ·exact ⟨ii _,ii _,by rw [nF]; exact hf⟩
  ·exact hf
 exact ⟨dx,dy,Rep.mono s _ _ p1,Rep.mono s _ _ p2,main.1,main.2.1,k _ _ main.2.2 (cZ _)⟩
theorem dNe:DOp rNeD fNe:=fun G H x y dx dy q Q s p1 p2 hf k=>by
 have main:okD dx=true∧okD dy=true∧q (.bl (!eqD dx dy)):=by
  unfold fNe at hf
  split at hf
  ·exact ⟨ii _,ii _,by rw [nF]; exact hf⟩
  ·exact hf
 exact ⟨dx,dy,Rep.mono s _ _ p1,Rep.mono s _ _ p2,main.1,main.2.1,k _ _ main.2.2 (cZ _)⟩
def uC:D→Bool
 | .non=>true
 | _=>false
theorem lz {G:Hp} {d:D} {v:V} (h:Rep G d v):decide (v = .non)=uC d:=by
 cases d <;> rw [Rep] at h
 case non=>subst h; rfl
 case tup=>obtain ⟨a,xs,rfl,_⟩:=h; rfl
 case lst=>obtain ⟨a,xs,rfl,_⟩:=h; rfl
 case dct=>obtain ⟨a,xs,rfl,_⟩:=h; rfl
 case dic=>obtain ⟨a,xs,rfl,_⟩:=h; rfl
 case scr=>obtain ⟨a,rfl,_⟩:=h; rfl
 case ext=>obtain ⟨a,H0,rfl,_⟩:=h; rfl
 all_goals subst h; rfl
def fIsN:D→D→(D→Prop)→Prop:=fun a b q=>match b with
 | .non=>q (.bl (uC a))
 | _=>False
theorem dIsN:DOp (fun x y H Q=>y = .non∧Q (.bl (decide (x = .non))) H) fIsN:=fun G H x y dx dy q Q s p1 p2 hf k=>by
 unfold fIsN at hf
 split at hf
 ·rw [Rep] at p2; exact ⟨p2,by rw [lz p1]; exact k _ _ hf (cZ _)⟩
 ·exact hf.elim
def fIsB:D→D→(D→Prop)→Prop:=fun a b q=>match a,b with
 | .bl x,.bl y=>q (.bl (x == y))
 | _,_=>False
def d7:D→Bool
 | .non=>true
 | .bl _=>true
 | .int _=>true
 | .str _=>true
 | _=>false
def eqF:D→D→Bool
 | .non,.non=>true
 | .bl a,.bl b=>a == b
 | .bl a,.int b=>(if a then 1 else 0) == b
 | .int a,.bl b=>a == (if b then 1 else 0)
 | .int a,.int b=>a == b
 | .str a,.str b=>a == b
 | _,_=>false
def toV:D→V
 | .non=>.non
 | .bl b=>.bl b
 | .int i=>.int i
 | .str x=>.str x
 | _=>.non
theorem eV {G:Hp} {d:D} {v:V} (h:Rep G d v) (f:d7 d=true):v=toV d:=by
 cases d <;> first | (rw [Rep] at h; exact h) | cases f
theorem sM:∀ {a b:D},d7 a=true→d7 b=true→eqV (toV a) (toV b)=eqF a b:=by
 intro a b f g
 cases a <;> cases b <;> first | rfl | exact absurd f Bool.false_ne_true | exact absurd g Bool.false_ne_true
theorem gy {d:D} (f:d7 d=true):fE (toV d)=true:=by
 cases d <;> first | rfl | cases f
theorem d4 {G:Hp}:∀ {ds:List D} {xs:List V},Reps G ds xs→ds.all d7=true→xs=ds.map toV
 | [],xs,h,_=>by rw [Reps] at h; subst h; rfl
 | d :: ds,xs,h,f=>by
  rw [Reps] at h
  obtain ⟨v,vs,rfl,h1,h2⟩:=h
  rw [List.all_cons,Bool.and_eq_true] at f
  rw [eV h1 f.1,d4 h2 f.2]; rfl
def inD (a:D) (ds:List D):Bool:=ds.any fun y=>eqF y a
theorem ky {a:D} (f:d7 a=true):∀ {ds:List D},ds.all d7=true→inV (toV a) (ds.map toV)=inD a ds
 | [],_=>rfl
 | d :: ds,g=>by
  rw [List.all_cons,Bool.and_eq_true] at g
  have:=ky f g.2
  unfold inV inD at *
  rw [List.map_cons,List.any_cons,List.any_cons,sM g.1 f,this]
theorem ir:∀ {ds:List D},ds.all d7=true→(ds.map toV).all fE=true
 | [],_=>rfl
 | d :: ds,g=>by
  rw [List.all_cons,Bool.and_eq_true] at g
  rw [List.map_cons,List.all_cons,gy g.1,ir g.2]; rfl
def fIn (neg:Bool):D→D→(D→Prop)→Prop:=fun a b q=>match b with
 | .lst ds=>d7 a=true∧ds.all d7=true∧q (.bl (if neg then !inD a ds else inD a ds))
 | .tup ds=>d7 a=true∧ds.all d7=true∧q (.bl (if neg then !inD a ds else inD a ds))
 | _=>False
theorem dIn {K:PySem.W.Frag} {neg:Bool}:DOp (rIn K neg) (fIn neg):=fun G H x y dx dy q Q s p1 p2 hf k=>by
 unfold fIn at hf
 split at hf
 ·rw [Rep] at p2
  obtain ⟨a,xs,rfl,h1,h2⟩:=p2
  obtain ⟨f1,f2,hq⟩:=hf
  refine ⟨a,xs,rfl,.inl (SqL.of (s _ _ h1)),?_,?_,?_⟩
  ·rw [eV p1 f1]; exact gy f1
  ·rw [d4 h2 f2]; exact ir f2
  ·rw [eV p1 f1,d4 h2 f2,ky f1 f2]; exact k _ _ hq (cZ _)
 ·rw [Rep] at p2
  obtain ⟨a,xs,rfl,h1,h2⟩:=p2
  obtain ⟨f1,f2,hq⟩:=hf
  refine ⟨a,xs,rfl,.inr (SqT.of (s _ _ h1)),?_,?_,?_⟩
  ·rw [eV p1 f1]; exact gy f1
  ·rw [d4 h2 f2]; exact ir f2
  ·rw [eV p1 f1,d4 h2 f2,ky f1 f2]; exact k _ _ hq (cZ _)
 ·exact hf.elim
def atD (ds:List D) (i:Int) (q:D→Prop):Prop:=match atI ds i with
 | some d=>q d
 | none=>False
def fIx (K:PySem.W.Frag):D→D→(D→Prop)→Prop:=fun a b q=>match a,b with
 | .lst ds,.int i=>atD ds i q
 | .tup ds,.int i=>atD ds i q
 | .scr φ ns,.int i=>(∀ a H,φ a→SqL K H a (ns.map V.int))∧match atI ns i with
  | some n=>q (.int n)
  | none=>False
 | _,_=>False
theorem gm {G:Hp}:∀ {ds:List D} {xs:List V} {j:Nat} {d:D},Reps G ds xs→ds[j]? = some d→∃ v,xs[j]? = some v∧Rep G d v
 | [],_,_,_,_,e=>by simp at e
 | d :: ds,xs,0,e,h,q=>by rw [Reps] at h; obtain ⟨v,vs,rfl,h1,_⟩:=h; simp at q; subst q; exact ⟨v,rfl,h1⟩
 | d :: ds,xs,j + 1,e,h,q=>by
  rw [Reps] at h
  obtain ⟨v,vs,rfl,_,h2⟩:=h
  obtain ⟨u,e1,e2⟩:=gm (j:=j) h2 (by simpa using q)
  exact ⟨u,by simpa using e1,e2⟩
theorem kQ {G:Hp} {ds:List D} {xs:List V} {i:Int} {d:D} (h:Reps G ds xs) (e:atI ds i=some d):∃ v,atI xs i=some v∧Rep G d v:=by
 unfold atI at *
 rw [h.length]
 cases q:ixN ds.length i with
 | none=>rw [q] at e; cases e
 | some j=>rw [q] at e; exact gm h e
theorem nq {α β:Type} {f : α→β} {xs:List α} {i:Int} {x : α} (h:atI xs i=some x):atI (xs.map f) i=some (f x):=by
 unfold atI at *
 rw [List.length_map]
 cases q:ixN xs.length i with
 | none=>rw [q] at h; cases h
 | some j=>rw [q] at h; rw [show (Option.some j).bind _=(xs.map f)[j]? from rfl,List.getElem?_map,show xs[j]? = some x from h]; rfl
theorem dIx {K:PySem.W.Frag}:DOp (rIx K) (fIx K):=fun G H x y dx dy q Q s p1 p2 hf k=>by
 unfold fIx at hf
 split at hf
 ·rw [Rep] at p1
  obtain ⟨a,xs,rfl,h1,h2⟩:=p1
  unfold atD at hf
  split at hf
  ·rename_i e
   obtain ⟨v,e1,e2⟩:=kQ h2 e
   exact .inl ⟨a,xs,_,v,rfl,aG p2,SqL.of (s _ _ h1),e1,k _ _ hf e2⟩
  ·exact hf.elim
 ·rw [Rep] at p1
  obtain ⟨a,xs,rfl,h1,h2⟩:=p1
  unfold atD at hf
  split at hf
  ·rename_i e
   obtain ⟨v,e1,e2⟩:=kQ h2 e
   exact .inr (.inl ⟨a,xs,_,v,rfl,aG p2,SqT.of (s _ _ h1),e1,k _ _ hf e2⟩)
  ·exact hf.elim
 ·rw [Rep] at p1
  obtain ⟨a,rfl,h1⟩:=p1
  obtain ⟨hk,hf⟩:=hf
  split at hf
  ·rename_i e
   refine .inl ⟨a,_,_,_,rfl,aG p2,?_,nq e,k _ _ hf (bg _)⟩
   rcases h1 with ⟨o,h1⟩ | h1
   ·exact .inl (.inr ⟨o,s _ _ h1⟩)
   ·exact hk a H h1
  ·exact hf.elim
 ·exact hf.elim
def fLen (K:PySem.W.Frag):List D→(D→Prop)→Prop:=fun ds q=>match ds with
 | [.lst ds]=>q (.int ds.length)
 | [.tup ds]=>q (.int ds.length)
 | [.scr φ ns]=>(∀ a H,φ a→SqL K H a (ns.map V.int))∧q (.int ns.length)
 | _=>False
theorem bu {G:Hp} {ds:List D} {v:V} (h:Rep G (.lst ds) v):∃ a xs,v = .ref a∧G a=some (.lst xs)∧Reps G ds xs:=by rw [Rep] at h; exact h
theorem fO {G:Hp} {ds:List D} {v:V} (h:Rep G (.tup ds) v):∃ a xs,v = .ref a∧G a=some (.tup xs)∧Reps G ds xs:=by rw [Rep] at h; exact h
theorem mM {G:Hp} {φ:Addr→Prop} {ns:List Int} {v:V} (h:Rep G (.scr φ ns) v):∃ a,v = .ref a∧((∃ o,G a=some (.frz o (.lst (ns.map V.int))))∨φ a):=by rw [Rep] at h; exact h
theorem bz {G:Hp} {d:D} {xs:List V} (h:Reps G [d] xs):∃ v,xs=[v]∧Rep G d v:=by
 rw [Reps] at h; obtain ⟨v,vs,rfl,h1,h2⟩:=h; rw [Reps] at h2; subst h2; exact ⟨v,rfl,h1⟩
theorem eN {G:Hp} {d e:D} {xs:List V} (h:Reps G [d,e] xs):∃ v u,xs=[v,u]∧Rep G d v∧Rep G e u:=by
 rw [Reps] at h; obtain ⟨v,vs,rfl,h1,h2⟩:=h; obtain ⟨u,rfl,h3⟩:=bz h2; exact ⟨v,u,rfl,h1,h3⟩
theorem dl {K:PySem.W.Frag}:gf (fun xs H Q=>∃ p ys,xs=[.ref p]∧(SqL K H p ys∨SqT K H p ys)∧Q (.int ys.length) H) (fLen K):=fun G H xs ds q Q s p hf k=>by
 unfold fLen at hf
 split at hf
 ·obtain ⟨v,rfl,p1⟩:=bz p
  obtain ⟨a,xs,rfl,h1,h2⟩:=bu p1
  exact ⟨a,xs,rfl,.inl (SqL.of (s _ _ h1)),by rw [h2.length]; exact k _ _ hf (bg _)⟩
 ·obtain ⟨v,rfl,p1⟩:=bz p
  obtain ⟨a,xs,rfl,h1,h2⟩:=fO p1
  exact ⟨a,xs,rfl,.inr (SqT.of (s _ _ h1)),by rw [h2.length]; exact k _ _ hf (bg _)⟩
 ·obtain ⟨v,rfl,p1⟩:=bz p
  obtain ⟨a,rfl,h1⟩:=mM p1
  rename_i φ ns
  have hS:SqL K H a (ns.map V.int):=by
   rcases h1 with ⟨o,h1⟩ | h1
   ·exact .inl (.inr ⟨o,s _ _ h1⟩)
   ·exact hf.1 a H h1
  exact ⟨a,_,rfl,.inl hS,by rw [List.length_map]; exact k _ _ hf.2 (bg _)⟩
 ·exact hf.elim
def fMax:List D→(D→Prop)→Prop:=fun ds q=>match ds with
 | [.int i,.int j]=>q (.int (if j > i then j else i))
 | _=>False
def fMin:List D→(D→Prop)→Prop:=fun ds q=>match ds with
 | [.int i,.int j]=>q (.int (if j<i then j else i))
 | _=>False
theorem dMax:gf (fun xs H Q=>∃ i j,xs=[.int i,.int j]∧Q (.int (if j > i then j else i)) H) fMax:=fun G H xs ds q Q s p hf k=>by
 unfold fMax at hf
 split at hf
 ·obtain ⟨v,u,rfl,p1,p2⟩:=eN p
  rw [aG p1,aG p2]
  exact ⟨_,_,rfl,k _ _ hf (bg _)⟩
 ·exact hf.elim
theorem dMin:gf (fun xs H Q=>∃ i j,xs=[.int i,.int j]∧Q (.int (if j<i then j else i)) H) fMin:=fun G H xs ds q Q s p hf k=>by
 unfold fMin at hf
 split at hf
 ·obtain ⟨v,u,rfl,p1,p2⟩:=eN p
  rw [aG p1,aG p2]
  exact ⟨_,_,rfl,k _ _ hf (bg _)⟩
 ·exact hf.elim
def uF:List D→(D→Prop)→Prop:=fun ds q=>match ds with
 | [.int i]=>q (.int i)
 | [.bl k]=>q (.int (if k then 1 else 0))
 | _=>False
theorem k9:gf (fun xs H Q=>(∃ i,xs=[.int i]∧Q (.int i) H)∨∃ k,xs=[.bl k]∧Q (.int (if k then 1 else 0)) H) uF:=fun G H xs ds q Q s p hf k=>by
 unfold uF at hf
 split at hf
 ·obtain ⟨v,rfl,p1⟩:=bz p
  rw [aG p1]
  exact .inl ⟨_,rfl,k _ _ hf (bg _)⟩
 ·obtain ⟨v,rfl,p1⟩:=bz p
  rw [cH p1]
  exact .inr ⟨_,rfl,k _ _ hf (bg _)⟩
 ·exact hf.elim
def fAbs:List D→(D→Prop)→Prop:=fun ds q=>match ds with
 | [.int i]=>q (.int (if i<0 then -i else i))
 | _=>False
theorem dAbs:gf (fun xs H Q=>∃ i,xs=[.int i]∧Q (.int (if i<0 then -i else i)) H) fAbs:=fun G H xs ds q Q s p hf k=>by
 unfold fAbs at hf
 split at hf
 ·obtain ⟨v,rfl,p1⟩:=bz p
  rw [aG p1]
  exact ⟨_,rfl,k _ _ hf (bg _)⟩
 ·exact hf.elim
section
variable {X:Cx} {ow:List Bool} {a b c e:Expr} {ma mb mc:ME} {pos:Pos} {mr:MA} {es:List Expr}
def mNeg (m:ME):ME:=fun ρ q=>m ρ fun d ρ'=>match d with
 | .int i=>q (.int (-i)) ρ'
 | _=>False
theorem i4 (h:QE X ow a ma):QE X ow (.UnaryOp .USub a pos) (mNeg ma):=by
 obtain ⟨t,p,s⟩:=h
 refine ⟨_,pe_un vv p,fun C G ρ σ H pd q Q r hm k=>s C G ρ σ H pd _ _ r hm fun d ρ' v G' H' hq s kp r' p=>?_⟩
 cases d with
 | int i=>exact ⟨i,aG p,k _ ρ' _ G' H' hq s kp r' (bg _)⟩
 | _=>exact hq.elim
def mIsT (T:String) (m:ME):ME:=fun ρ q=>m ρ fun d ρ'=>match nT d T with
 | some b=>q (.bl b) ρ'
 | none=>False
theorem dL {T:String} {x y:Str} {p1 p2:Pos} (hg:Gl X x) (hm:X.mg x=none) (hv:bootBuiltins x=some (.builtin "isinstance")) (ha:QE X ow a ma) (ht:PE X (.Name y p2) (tC (.ty T)))
 (hn:x ≠ "__name__":=by decide) (hdb:(x == ("__debug__":Str))=false:=by decide)
 (hs:starEach [.Name y p2] X.env=[(false,eval (.Name y p2) X.env)]:=by rfl)
 (he:starEach [a,.Name y p2] X.env=(false,eval a X.env) :: starEach [.Name y p2] X.env:=by rfl) (hpl:(backTo pos (starEach [.Name y p2] X.env)).any (·.1)=false:=by rfl) :
 QE X ow (.Call (.Name x p1) [a,.Name y p2] [] pos) (mIsT T ma):=by
 obtain ⟨t,p,s⟩:=ha
 refine ⟨_,fS lj hg hm hv (a6 p (a6 ht cq hs) he) hn hdb he hpl,fun C G ρ σ H pd q Q r hm k=>s C G ρ σ H pd _ _ r hm fun d ρ' v G' H' hq s kp r' p=>?_⟩
 cases e:nT d T with
 | none=>rw [e] at hq; exact hq.elim
 | some b=>rw [e] at hq; exact ⟨v,T,d,b,rfl,Rep.mono r'.gh _ _ p,e,k _ ρ' _ G' H' hq s kp r' (cZ _)⟩
def rM (f g:D→D→(D→Prop)→Prop) (ma mb mc:ME):ME:=fun ρ q=>ma ρ fun x ρ1=>mb ρ1 fun y ρ2=>f x y fun z=>match z with
 | .bl k=>if k=true then mc ρ2 fun w ρ3=>g y w fun d=>q d ρ3 else q (.bl false) ρ2
 | _=>False
theorem rc {r r':R2} {f g:D→D→(D→Prop)→Prop} {ta tb tc:TE} (hf:DOp r f) (hg:DOp r' g) (ha:SE ow ta ma) (hb:SE ow tb mb) (hc:SE ow tc mc):SE ow (q_ r r' ta tb tc) (rM f g ma mb mc):=fun C G ρ σ H pd q Q hr h k=>by
 refine ki (Q:=fun x y H2=>r x y H2 _) ha hb hr h fun dx dy ρ' x y G' H' h1 s kp r1 p1 p2=>?_
 refine hf G' H' x y dx dy _ _ r1.gh p1 p2 h1 fun d v hq p=>?_
 cases d with
 | bl b =>
  refine ⟨b,cH p,?_⟩
  change (if b=true then _ else _) at hq
  cases b with
  | true =>
   rw [if_pos rfl] at hq ⊢
   refine hc C G' ρ' σ H' pd _ _ r1 hq fun dw ρ3 w G3 H3 h3 s3 kp3 r3 p3=>?_
   exact hg G3 H3 y w dy dw _ _ r3.gh (Rep.mono s3 _ _ p2) p3 h3 fun d v hq p=>k d ρ3 v G3 H3 hq (s.trans s3) (kp.trans kp3) r3 p
  | false=>rw [if_neg (by decide)] at hq ⊢; exact k _ ρ' _ G' H' hq s kp r1 (cZ _)
 | _=>exact hq.elim
theorem ll {op op':CmpOp} {r r':R2} {f g:D→D→(D→Prop)→Prop} (ho:OpR X (compareOp op) r) (ho':OpR X (compareOp op') r') (hf:DOp r f) (hg:DOp r' g) (ha:QE X ow a ma) (hb:QE X ow b mb) (hc:QE X ow c mc)
 (hm:lastMarks [op,op'] [b,c]=false:=by with_unfolding_all rfl):QE X ow (.Compare a [op,op'] [b,c] pos) (rM f g ma mb mc):=by
 obtain ⟨ta,pa,sa⟩:=ha; obtain ⟨tb,pb,sb⟩:=hb; obtain ⟨tc,pc,sc⟩:=hc
 exact ⟨_,rF ho ho' pa pb pc hm,rc hf hg sa sb sc⟩
def fM (r:List V→Hp→VK→Prop) (f:List D→(List D→Prop)→Prop):Prop:=∀ (G H:Hp) (xs:List V) (ds:List D) (q:List D→Prop) (Q:VK),aJ G H→Reps G ds xs→f ds q →
 (∀ es ys p,q es→Reps G es ys→H p=none→Q (.ref p) (upd H p (.lst ys)))→r xs H Q
def mNew (f:List D→(List D→Prop)→Prop) (m:MA):ME:=fun ρ q=>m ρ fun ds ρ'=>f ds fun es=>imms es=true∧q (.lst es) ρ'
def uv (f:List D→(List D→Prop)→Prop) (m:MA):ME:=fun ρ q=>m ρ fun ds ρ'=>f ds fun es=>q (.lst es) ρ'
theorem mK {r:List V→Hp→VK→Prop} {f:List D→(List D→Prop)→Prop} {t:TA} {n:Nat} (hd:fM r f) (s:SA ow n t mr):SF ow (fun σ H Q=>t σ H fun xs H1=>r xs H1 Q) (mNew f mr):=fun C G ρ σ H pd q Q hr hm k =>
 s C G ρ σ H pd _ _ hr hm fun ds ρ' vs G' H' hq z kp r' p hn=>hd G' H' vs ds _ _ r'.gh p hq fun es ys a hq p ha=>by
  obtain ⟨O,r'⟩:=r'
  exact k _ ρ' _ _ _ hq.2 z kp (r'.newL ha hq.1 p)
theorem vW {r:List V→Hp→VK→Prop} {f:List D→(List D→Prop)→Prop} {t:TA} {n:Nat} (hd:fM r f) (s:SA ow n t mr):SE ow (fun σ H Q=>t σ H fun xs H1=>r xs H1 Q) (uv f mr):=fun C G ρ σ H pd q Q hr hm k =>
 s C G ρ σ H pd _ _ hr hm fun ds ρ' vs G' H' hq z kp r' p hn=>hd G' H' vs ds _ _ r'.gh p hq fun es ys a hq p ha=>by
  obtain ⟨O,r'⟩:=r'
  obtain ⟨r2,s2⟩:=r'.new ha (.lst ys)
  exact k _ ρ' _ _ _ hq (z.trans s2) kp ⟨O,r2⟩ (e_ av (Reps.mono s2 _ _ p))
theorem pX {ta tb:TE} (ha:SE ow ta ma) (hb:SE ow tb mb):SA ow 2 (fun σ H Q=>ta σ H fun x H1=>tb σ H1 fun y H2=>Q [x,y] H2) (ge ma (ge mb n4)):=fun C G ρ σ H pd q Q hr hm k =>
 ki (Q:=fun x y H2=>Q [x,y] H2) ha hb hr hm fun dx dy ρ' x y G' H' h1 s kp r1 p1 p2=>k [dx,dy] ρ' [x,y] G' H' h1 s kp r1 (bA p1 (bA p2 bO)) rfl
theorem gk {G:Hp}:∀ {ds es:List D} {xs ys:List V},Reps G ds xs→Reps G es ys→Reps G (ds++es) (xs++ys)
 | [],es,xs,ys,h,h2=>by rw [Reps] at h; subst h; exact h2
 | d :: ds,es,xs,ys,h,h2=>by rw [Reps] at h; obtain ⟨v,vs,rfl,h1,h3⟩:=h; exact bA h1 (gk h3 h2)
theorem jx {G:Hp}:∀ {ds:List D} {xs:List V} (n:Nat),Reps G ds xs→Reps G (ds.drop n) (xs.drop n)
 | [],xs,n,h=>by rw [Reps] at h; subst h; simp; exact bO
 | d :: ds,xs,0,h=>h
 | d :: ds,xs,n + 1,h=>by rw [Reps] at h; obtain ⟨v,vs,rfl,h1,h3⟩:=h; exact jx n h3
theorem jE {G:Hp}:∀ {ds:List D} {xs:List V} (n:Nat),Reps G ds xs→Reps G (ds.take n) (xs.take n)
 | [],xs,n,h=>by rw [Reps] at h; subst h; simp; exact bO
 | d :: ds,xs,0,h=>by simp; exact bO
 | d :: ds,xs,n + 1,h=>by rw [Reps] at h; obtain ⟨v,vs,rfl,h1,h3⟩:=h; exact bA h1 (jE n h3)
theorem k_ {G:Hp} {ds:List D} {xs:List V} (h:Reps G ds xs):∀ n:Nat,Reps G (List.replicate n ds).flatten (List.replicate n xs).flatten
 | 0=>by simp; exact bO
 | n + 1=>by simp [List.replicate_succ]; exact gk h (k_ h n)
def fCat:List D→(List D→Prop)→Prop:=fun ds q=>match ds with
 | [.lst xs,.lst ys]=>xs.length + ys.length≤1000∧q (xs++ys)
 | _=>False
theorem oP:fM (fun xs H Q=>∃ x y,xs=[x,y]∧rCat x y H Q) fCat:=fun G H xs ds q Q s p hf k=>by
 unfold fCat at hf
 split at hf
 ·obtain ⟨v,u,rfl,p1,p2⟩:=eN p
  rw [Rep] at p1 p2
  obtain ⟨a1,xs,rfl,h1,h2⟩:=p1
  obtain ⟨a2,ys,rfl,h3,h4⟩:=p2
  exact ⟨_,_,rfl,a1,a2,xs,ys,rfl,rfl,s _ _ h1,s _ _ h3,dz (by rw [h2.length,h4.length]; exact hf.1),fun p hp=>k _ _ p hf.2 (gk h2 h4) hp⟩
 ·exact hf.elim
def fRep:List D→(List D→Prop)→Prop:=fun ds q=>match ds with
 | [.lst xs,.int n]=>(-(2 ^ 63)≤n∧n<2 ^ 63∧xs.length * n.toNat≤1000)∧q (List.replicate n.toNat xs).flatten
 | _=>False
theorem dRep:fM (fun xs H Q=>∃ x y,xs=[x,y]∧rRep x y H Q) fRep:=fun G H xs ds q Q s p hf k=>by
 unfold fRep at hf
 split at hf
 ·obtain ⟨v,u,rfl,p1,p2⟩:=eN p
  obtain ⟨a1,xs,rfl,h1,h2⟩:=bu p1
  rw [aG p2]
  exact ⟨_,_,rfl,a1,_,xs,rfl,rfl,s _ _ h1,hf.1.1,hf.1.2.1,dz (by rw [h2.length]; exact hf.1.2.2),fun p hp=>k _ _ p hf.2 (k_ h2 _) hp⟩
 ·exact hf.elim
def mMk (f:List D→(List D→Prop)→Prop) (ma mb:ME):ME:=mNew f (ge ma (ge mb n4))
def mMkS (f:List D→(List D→Prop)→Prop) (ma mb:ME):ME:=uv f (ge ma (ge mb n4))
def R2ok (r:R2):List V→Hp→VK→Prop:=fun xs H Q=>match xs with
 | [x,y]=>r x y H Q
 | _=>False
theorem fM.r2 {r:R2} {f:List D→(List D→Prop)→Prop} (h:fM (fun xs H Q=>∃ x y,xs=[x,y]∧r x y H Q) f):fM (R2ok r) f:=fun G H xs ds q Q s p hf k=>by
 obtain ⟨x,y,rfl,z⟩:=h G H xs ds q Q s p hf k
 exact z
theorem qf_mk {op:Operator} {r:R2} {f:List D→(List D→Prop)→Prop} (ho:OpR X (binaryOp op) r) (hd:fM (fun xs H Q=>∃ x y,xs=[x,y]∧r x y H Q) f) (ha:QE X ow a ma) (hb:QE X ow b mb):QF X ow (.BinOp a op b pos) (mMk f ma mb):=by
 obtain ⟨ta,pa,sa⟩:=ha; obtain ⟨tb,pb,sb⟩:=hb
 exact ⟨tOp r ta tb,ql ho pa pb,mK (r:=R2ok r) hd.r2 (pX sa sb)⟩
theorem gY {op:Operator} {r:R2} {f:List D→(List D→Prop)→Prop} (ho:OpR X (binaryOp op) r) (hd:fM (fun xs H Q=>∃ x y,xs=[x,y]∧r x y H Q) f) (ha:QE X ow a ma) (hb:QE X ow b mb):QE X ow (.BinOp a op b pos) (mMkS f ma mb):=by
 obtain ⟨ta,pa,sa⟩:=ha; obtain ⟨tb,pb,sb⟩:=hb
 exact ⟨tOp r ta tb,ql ho pa pb,vW (r:=R2ok r) hd.r2 (pX sa sb)⟩
def uN:List D→(List D→Prop)→Prop:=fun ds q=>match ds with
 | [.lst xs]=>q xs
 | [.tup xs]=>q xs
 | _=>False
theorem jw {K:PySem.W.Frag}:fM (fun xs H Q=>∃ p ys,xs=[.ref p]∧(SqL K H p ys∨SqT K H p ys)∧∀ l,H l=none→Q (.ref l) (upd H l (.lst ys))) uN:=fun G H xs ds q Q s p hf k=>by
 unfold uN at hf
 split at hf
 ·obtain ⟨v,rfl,p1⟩:=bz p
  obtain ⟨a,xs,rfl,h1,h2⟩:=bu p1
  exact ⟨a,xs,rfl,.inl (SqL.of (s _ _ h1)),fun l hl=>k _ _ l hf h2 hl⟩
 ·obtain ⟨v,rfl,p1⟩:=bz p
  obtain ⟨a,xs,rfl,h1,h2⟩:=fO p1
  exact ⟨a,xs,rfl,.inr (SqT.of (s _ _ h1)),fun l hl=>k _ _ l hf h2 hl⟩
 ·exact hf.elim
variable {x:Str} {p':Pos}
theorem dO {id:String} {r:List V→Hp→VK→Prop} {f:List D→(List D→Prop)→Prop} (hc:cF X (.type id) r) (hd:fM r f) (hg:Gl X x) (hm:X.mg x=none) (hv:bootBuiltins x=some (.type id)) (ha:QA X ow (e :: es) mr) (hn:x ≠ "__name__":=by decide) (hdb:(x == ("__debug__":Str))=false:=by decide)
 (he:starEach (e :: es) X.env=(false,eval e X.env) :: starEach es X.env:=by rfl) (hpl:(backTo pos (starEach es X.env)).any (·.1)=false:=by rfl):QF X ow (.Call (.Name x p') (e :: es) [] pos) (mNew f mr):=by
 obtain ⟨t,p,s⟩:=ha
 exact ⟨_,e9 hc hg hm hv p hn hdb he hpl,mK hd s⟩
theorem ld {id:String} {r:List V→Hp→VK→Prop} {f:List D→(List D→Prop)→Prop} (hc:cF X (.builtin id) r) (hd:fM r f) (hg:Gl X x) (hm:X.mg x=none) (hv:bootBuiltins x=some (.builtin id)) (ha:QA X ow (e :: es) mr) (hn:x ≠ "__name__":=by decide) (hdb:(x == ("__debug__":Str))=false:=by decide)
 (he:starEach (e :: es) X.env=(false,eval e X.env) :: starEach es X.env:=by rfl) (hpl:(backTo pos (starEach es X.env)).any (·.1)=false:=by rfl):QF X ow (.Call (.Name x p') (e :: es) [] pos) (mNew f mr):=by
 obtain ⟨t,p,s⟩:=ha
 exact ⟨_,fS hc hg hm hv p hn hdb he hpl,mK hd s⟩
def gR (xs:List D) (lo hi:Option Int):List D:=(xs.drop (HT.sIx xs.length 0 lo)).take (HT.sIx xs.length xs.length hi - HT.sIx xs.length 0 lo)
theorem pk {G:Hp} {ds:List D} {xs:List V} (h:Reps G ds xs) (lo hi:Option Int):Reps G (gR ds lo hi) (lY xs lo hi):=by
 unfold gR lY
 rw [h.length]
 exact jE _ (jx _ h)
abbrev MO:=DSt→(Option Int→DSt→Prop)→Prop
def SO (ow:List Bool) (t:TO) (m:MO):Prop:=∀ (C:Ctx) (G:Hp) (ρ:DSt) (σ:St) (H:Hp) (pd:List (D×V)) (q:Option Int→DSt→Prop) (Q:Option Int→Hp→Prop),R C ow G ρ σ H pd→m ρ q →
 (∀ b ρ' G' H',q b ρ'→aJ G G'→Kp ow ρ ρ'→R C ow G' ρ' σ H' pd→Q b H')→t σ H Q
structure QO (X:Cx) (ow:List Bool) (e:Option Expr) (m:MO):Prop where
 ex:∃ t,PO X e t∧SO ow t m
def sQ:MO:=fun ρ q=>q none ρ
def mPart (m:ME):MO:=fun ρ q=>m ρ fun d ρ'=>match d with
 | .int i=>q (some i) ρ'
 | _=>False
theorem jS:QO X ow none sQ:=⟨_,t7,fun C G ρ σ H pd q Q r h k=>k none ρ G H h (aJ.refl _) Kp.refl r⟩
theorem kc (h:QE X ow e ma):QO X ow (some e) (mPart ma):=by
 obtain ⟨t,p,s⟩:=h
 refine ⟨_,t3 p,fun C G ρ σ H pd q Q r hm k=>s C G ρ σ H pd _ _ r hm fun d ρ' v G' H' hq s kp r' p=>?_⟩
 cases d with
 | int i=>exact ⟨i,aG p,k _ ρ' G' H' hq s kp r'⟩
 | _=>exact hq.elim
def mSl (m:ME) (ml mh:MO):ME:=fun ρ q=>m ρ fun d ρ1=>ml ρ1 fun lo ρ2=>mh ρ2 fun hi ρ3=>match d with
 | .lst ds=>imms (gR ds lo hi)=true∧q (.lst (gR ds lo hi)) ρ3
 | _=>False
def mSlS (m:ME) (ml mh:MO):ME:=fun ρ q=>m ρ fun d ρ1=>ml ρ1 fun lo ρ2=>mh ρ2 fun hi ρ3=>match d with
 | .lst ds=>q (.lst (gR ds lo hi)) ρ3
 | _=>False
variable {lo hi:Option Expr} {ml mh:MO} {p2:Pos}
theorem iF (h:QE X ow e ma) (hl:QO X ow lo ml) (hh:QO X ow hi mh):QE X ow (.Subscript e (.Slice lo hi none p2) pos) (mSlS ma ml mh):=by
 obtain ⟨t,p,s⟩:=h; obtain ⟨t1,p1,s1⟩:=hl; obtain ⟨t2,p2,s2⟩:=hh
 refine ⟨_,rS tK p p1 p2,fun C G ρ σ H pd q Q r hm k=>s C G ρ σ H pd _ _ r hm fun d ρ' v G' H' hq z kp r' p=>?_⟩
 refine s1 C G' ρ' σ H' pd _ _ r' hq fun l ρ1 G1 H1 hq1 z1 kp1 r1=>s2 C G1 ρ1 σ H1 pd _ _ r1 hq1 fun u ρ2 G2 H2 hq2 z2 kp2 r2=>?_
 cases d with
 | lst ds =>
  obtain ⟨a,xs,rfl,h1,h2⟩:=bu (Rep.mono (z1.trans z2) _ _ p)
  refine ⟨a,xs,rfl,SqL.of (r2.gh _ _ h1),fun b hb=>?_⟩
  obtain ⟨O,r2⟩:=r2
  obtain ⟨r3,z3⟩:=r2.new hb (.lst (lY xs l u))
  exact k _ ρ2 _ _ _ hq2 (z.trans (z1.trans (z2.trans z3))) (kp.trans (kp1.trans kp2)) ⟨O,r3⟩ (e_ av (Reps.mono z3 _ _ (pk h2 _ _)))
 | _=>exact hq2.elim
end
def c9 (f:Nat→Option Nat) (O:Own):Own:=fun a=>match O a with
 | some m=>(f m.1).map fun l=>(l,m.2)
 | none=>none
theorem tU {f:Nat→Option Nat} {O:Own} {a:Addr} {l l':Nat} {π:List Nat} (h:O a=some (l,π)) (hf:f l=some l'):c9 f O a=some (l',π):=by unfold c9; rw [h]; show (f l).map _=_; rw [hf]; rfl
theorem ia {f:Nat→Option Nat} {O:Own} {a:Addr} {l':Nat} {π:List Nat} (h:c9 f O a=some (l',π)):∃ l,O a=some (l,π)∧f l=some l':=by
 unfold c9 at h
 cases e:O a with
 | none=>rw [e] at h; cases h
 | some m =>
  rw [e] at h
  change (f m.1).map _=_ at h
  cases e2:f m.1 with
  | none=>rw [e2] at h; cases h
  | some l=>rw [e2] at h; cases h; exact ⟨m.1,rfl,e2⟩
theorem oA {f:Nat→Option Nat} {O:Own} {a:Addr} {l:Nat} {π:List Nat} (h:O a=some (l,π)) (hf:f l=none):c9 f O a=none:=by unfold c9; rw [h]; show (f l).map _=_; rw [hf]; rfl
def msV:List Bool→List V→List (Option V)
 | b :: bs,v :: vs=>(if b=true then some v else none) :: msV bs vs
 | _,_=>[]
theorem km:∀ {mu:List Bool} {vs:List V} {k:Nat} {v:V},(msV mu vs)[k]? = some (some v)→mu[k]? = some true∧vs[k]? = some v
 | [],vs,k,v,h=>by simp [msV] at h
 | b :: bs,[],k,v,h=>by simp [msV] at h
 | b :: bs,u :: vs,0,v,h=>by
  simp only [msV,List.getElem?_cons_zero,Option.some.injEq] at h
  split at h
  ·rename_i c; cases h; subst c; exact ⟨rfl,rfl⟩
  ·cases h
 | b :: bs,u :: vs,k + 1,v,h=>by
  simp only [msV,List.getElem?_cons_succ] at h
  simpa using km h
theorem kC:∀ {mu:List Bool} {vs:List V} {k:Nat} {v:V},mu[k]? = some true→vs[k]? = some v→(msV mu vs)[k]? = some (some v)
 | [],vs,k,v,h,_=>by simp at h
 | b :: bs,[],k,v,_,h=>by simp at h
 | b :: bs,u :: vs,0,v,h,h2=>by simp at h h2; subst h; subst h2; simp [msV]
 | b :: bs,u :: vs,k + 1,v,h,h2=>by simp only [msV,List.getElem?_cons_succ]; exact kC (by simpa using h) (by simpa using h2)
section
variable {C:Ctx} {ow mu:List Bool} {G:Hp} {ρ:DSt} {σ:St} {H:Hp} {pd:List (D×V)} {O:Own} {fin fbk:Nat→Option Nat}
theorem RO.into (ro:RO C ow G ρ σ H pd O) {ds:List D} {vs:List V} (hl:ds.length=vs.length)
 (hs:∀ (k:Nat) d,ds[k]? = some d→∃ v,vs[k]? = some v∧if mu[k]? = some true then ∃ l,Sep G H O l d [] v∧fin l=some (2 * k) else Rep G d v)
 (hc:∀ l l',fin l=some l'→∃ k,l'=2 * k∧mu[k]? = some true∧k<vs.length) :
 RO ⟨G,H,c9 fin O,msV mu vs,0⟩ mu G (ds.map some) (vs.map some) H [] (c9 fin O):=by
 refine ⟨by simp [hl],ro.gh,fun _ _ e=>e,fun _ _ e=>.inl e,?_,?_,fun _ _ e _ _=>e,ro.ft,fun _ e=>e,?_,?_,trivial,Nat.le_refl _⟩
 ·intro a m e
  obtain ⟨l',π⟩:=m
  obtain ⟨l,e1,e2⟩:=ia e
  obtain ⟨q1,q2,_⟩:=ro.og a _ e1
  exact ⟨q1,q2,.inr ⟨π,e⟩⟩
 ·intro a l' π e
  obtain ⟨l,e1,e2⟩:=ia e
  obtain ⟨k,rfl,h2,h3⟩:=hc _ _ e2
  exact .inl ⟨k,vs[k],rfl,kC h2 (List.getElem?_eq_getElem h3)⟩
 ·intro k v e
  rw [List.getElem?_map,(km e).2]; rfl
 ·intro k d e
  rw [List.getElem?_map] at e
  cases e1:ds[k]? with
  | none=>rw [e1] at e; cases e
  | some d' =>
   rw [e1] at e
   cases e
   obtain ⟨v,h1,h2⟩:=hs k d e1
   refine ⟨v,by rw [List.getElem?_map,h1]; rfl,?_⟩
   split at h2
   ·rename_i c
    rw [if_pos c]
    obtain ⟨l,h3,h4⟩:=h2
    exact h3.keep (fun _ _ z=>z) fun a τ q=>⟨tU q h4,rfl⟩
   ·rename_i c; rw [if_neg c]; exact h2
def nY (fin fbk:Nat→Option Nat) (O O2:Own):Own:=fun a=>match O2 a with
 | some m=>(fbk m.1).map fun l=>(l,m.2)
 | none=>match c9 fin O a with
  | some _=>none
  | none=>O a
theorem RO.out (ro:RO C ow G ρ σ H pd O) {vs:List V} {G2:Hp} {ρ2:DSt} {σ2:St} {H2:Hp} {pd2 pd3:List (D×V)} {O2:Own} {ρ3:DSt} {ow2:List Bool} {np:Nat} {mv:List (Option V)}
 (ri:RO ⟨G,H,c9 fin O,mv,np⟩ ow2 G2 ρ2 σ2 H2 pd2 O2) (hib:∀ l0 l' l,fin l0=some l'→fbk l'=some l→l=l0)
 (hlen : ρ3.length=σ.length) (hnp:C.np≤pd3.length)
 (hS:∀ (i:Nat) d,ow[i]?≠some true→ρ3[i]? = some (some d)→ρ[i]? = some (some d))
 (hO:∀ (i:Nat) d,ow[i]? = some true→ρ3[i]? = some (some d)→(fin (2 * i)=none∧ρ[i]? = some (some d))∨∃ (k:Nat) (v:V),fbk (2 * k)=some (2 * i)∧ow2[k]? = some true∧ρ2[k]? = some (some d)∧σ[i]? = some (some v)∧σ2[k]? = some (some v))
 (hP:∀ (O3:Own),(∀ a l π,O a=some (l,π)→fin l=none→O3 a=some (l,π)∧H2 a=H a)→(∀ a l l' π,O2 a=some (l',π)→fbk l'=some l→O3 a=some (l,π))→bY G G2→bN G2 H2 O3 pd3) :
 RO C ow G2 ρ3 σ H2 pd3 (nY fin fbk O O2):=by
 have keep:∀ a l π,O a=some (l,π)→fin l=none→nY fin fbk O O2 a=some (l,π)∧H2 a=H a:=fun a l π e hn=>by
  have e1:=oA (f:=fin) e hn
  obtain ⟨g,⟨xs,hx⟩,_⟩:=ro.og a _ e
  have e2:O2 a=none:=by
   cases q:O2 a with
   | none=>rfl
   | some m =>
    obtain ⟨_,_,q3⟩:=ri.og a m q
    rcases q3 with q3 | ⟨π',q3⟩
    ·change H a=none at q3; rw [hx] at q3; cases q3
    ·change c9 fin O a=_ at q3; rw [e1] at q3; cases q3
  constructor
  ·show (match O2 a with | some m=>_ | none=>_)=_
   rw [e2]
   show (match c9 fin O a with | some _=>none | none=>O a)=_
   rw [e1]; exact e
  ·rw [ri.fr a _ hx e1 (WrO.nt xs),hx]
 have come:∀ a l l' π,O2 a=some (l',π)→fbk l'=some l→nY fin fbk O O2 a=some (l,π):=fun a l l' π e hb=>by
  show (match O2 a with | some m=>_ | none=>_)=_
  rw [e]
  show (fbk l').map _=_
  rw [hb]; rfl
 have ts:bY G G2:=(aJ.ts ri.g0)
 refine ⟨hlen,ri.gh,fun a o e=>ri.g0 a o (ro.g0 a o e),?_,?_,ro.cok,?_,ri.ft,fun a e=>ro.al a (ri.al a e),ro.mp,?_,hP _ keep come ts,hnp⟩
 ·intro a o e
  rcases ri.gn a o e with q | q
  ·exact ro.gn a o q
  ·exact .inr (ro.al a q)
 ·intro a m e
  change (match O2 a with | some m=>_ | none=>_)=_ at e
  cases q:O2 a with
  | some m' =>
   rw [q] at e
   change (fbk m'.1).map _=_ at e
   cases q2:fbk m'.1 with
   | none=>rw [q2] at e; cases e
   | some l =>
    rw [q2] at e; cases e
    obtain ⟨g1,g2,g3⟩:=ri.og a m' q
    refine ⟨g1,g2,?_⟩
    rcases g3 with g3 | ⟨π',g3⟩
    ·exact .inl (ro.al a g3)
    ·obtain ⟨l0,g4,g5⟩:=ia g3
     have:=hib _ _ _ g5 q2
     subst this
     exact (ro.og a _ g4).2.2
  | none =>
   rw [q] at e
   change (match c9 fin O a with | some _=>none | none=>O a)=_ at e
   cases q2:c9 fin O a with
   | some _=>rw [q2] at e; cases e
   | none =>
    rw [q2] at e
    change O a=some m at e
    obtain ⟨g1,⟨xs,g2⟩,g3⟩:=ro.og a m e
    refine ⟨?_,⟨xs,ri.fr a _ g2 q2 (WrO.nt xs)⟩,g3⟩
    cases z:G2 a with
    | none=>rfl
    | some o =>
     rcases ri.gn a o z with z | z
     ·change G a=_ at z; rw [g1] at z; cases z
     ·change H a=_ at z; rw [g2] at z; cases z
 ·intro a o e n t
  have q:=ro.fr a o e n t
  refine ri.fr a o q ?_ t
  show c9 fin O a=none
  cases z:c9 fin O a with
  | none=>rfl
  | some m =>
   obtain ⟨l',π⟩:=m
   obtain ⟨l,z1,_⟩:=ia z
   obtain ⟨_,_,z3⟩:=ro.og a _ z1
   rcases z3 with z3 | ⟨_,z3⟩
   ·rw [z3] at e; cases e
   ·rw [z3] at n; cases n
 ·intro i d e
  by_cases c:ow[i]? = some true
  ·rcases hO i d c e with ⟨h1,h2⟩ | ⟨k,v,h1,h2,h3,h4,h5⟩
   ·obtain ⟨v,q1,q2⟩:=ro.sl i d h2
    rw [if_pos c] at q2
    exact ⟨v,q1,by rw [if_pos c]; exact q2.keep ts fun a τ q=>keep a _ _ q h1⟩
   ·obtain ⟨v',q1,q2⟩:=ri.sl k d h3
    rw [if_pos h2] at q2
    rw [h5] at q1; cases q1
    exact ⟨v,h4,by rw [if_pos c]; exact q2.keep (fun _ _ z=>z) fun a τ q=>⟨come _ _ _ _ q h1,rfl⟩⟩
  ·obtain ⟨v,q1,q2⟩:=ro.sl i d (hS i d c e)
   rw [if_neg c] at q2
   exact ⟨v,q1,by rw [if_neg c]; exact q2.mono ri.g0⟩
end
def Ret (fr:Bool) (C:Ctx) (ow:List Bool) (G:Hp) (ρ:DSt) (σ:St) (H:Hp) (d:D) (v:V):Prop:=if fr=true then R C ow G ρ σ H [(d,v)] else R C ow G ρ σ H []∧Rep G d v
def mus:List Bool→DSt→DSt
 | true :: bs,x :: ρ=>x :: mus bs ρ
 | false :: bs,_ :: ρ=>mus bs ρ
 | true :: bs,[]=>none :: mus bs []
 | false :: bs,[]=>mus bs []
 | [],_=>[]
def cj {α:Type}:Nat→List (Option α)→List (Option α)
 | 0,_=>[]
 | n + 1,x :: ρ=>x :: cj n ρ
 | n + 1,[]=>none :: cj n []
theorem cu {α:Type}:∀ (n:Nat) (ρ:List (Option α)),(cj n ρ).length=n
 | 0,_=>rfl
 | n + 1,x :: ρ=>by simp [cj,cu n ρ]
 | n + 1,[]=>by simp [cj,cu n []]
theorem cD:∀ (mu:List Bool) (ρ:DSt),mus mu (cj mu.length ρ)=mus mu ρ
 | [],_=>by simp [mus]
 | true :: bs,x :: ρ=>by simp [cj,mus,cD bs ρ]
 | false :: bs,x :: ρ=>by simp [cj,mus,cD bs ρ]
 | true :: bs,[]=>by simp [cj,mus,cD bs []]
 | false :: bs,[]=>by simp [cj,mus,cD bs []]
theorem kL {α:Type}:∀ {n:Nat} {ρ:List (Option α)} {i:Nat} {d : α},(cj n ρ)[i]? = some (some d)→i<n∧ρ[i]? = some (some d)
 | 0,_,_,_,h=>by simp [cj] at h
 | n + 1,x :: ρ,0,d,h=>by simp [cj] at h; exact ⟨by omega,by simp [h]⟩
 | n + 1,x :: ρ,i + 1,d,h=>by simp only [cj,List.getElem?_cons_succ] at h; obtain ⟨a,b⟩:=kL h; exact ⟨by omega,by simpa using b⟩
 | n + 1,[],0,d,h=>by simp [cj] at h
 | n + 1,[],i + 1,d,h=>by simp only [cj,List.getElem?_cons_succ] at h; obtain ⟨a,b⟩:=kL h; simp at b
theorem j5 {α:Type}:∀ {n:Nat} {ρ:List (Option α)} {i:Nat} {d : α},i<n→ρ[i]? = some (some d)→(cj n ρ)[i]? = some (some d)
 | 0,_,_,_,h,_=>by omega
 | n + 1,x :: ρ,0,d,h,e=>by simp at e; simp [cj,e]
 | n + 1,x :: ρ,i + 1,d,h,e=>by simp only [cj,List.getElem?_cons_succ]; exact j5 (by omega) (by simpa using e)
 | n + 1,[],i,d,h,e=>by simp at e
abbrev SpD:=List D→(D→DSt→Prop)→Prop
def bb (mu:List Bool) (fr:Bool) (sd:SpD):Sp:=fun vs H Q _=>∃ (C:Ctx) (G:Hp) (ds:List D) (q:D→DSt→Prop),C.np=0∧C.mu=msV mu vs∧R C mu G (ds.map some) (vs.map some) H []∧sd ds q∧mu.length=ds.length ∧
 ∀ d ρ' σ' v G' H',q d (mus mu ρ')→aJ G G'→ρ'.length=mu.length→Ret fr C mu G' ρ' σ' H' d v→Q v H'
structure EndsD where
 nx:DSt→Prop
 rt:D→DSt→Prop
 bk:DSt→Prop:=fun _=>False
 ct:DSt→Prop:=fun _=>False
abbrev MS:=EndsD→DSt→Prop
structure Ks (C:Ctx) (ow:List Bool) (fr:Bool) (G:Hp) (n:EndsD) (D:Ends):Prop where
 nx:∀ ρ σ G' H,n.nx ρ→aJ G G'→R C ow G' ρ σ H []→D.nx σ H
 bk:∀ ρ σ G' H,n.bk ρ→aJ G G'→R C ow G' ρ σ H []→D.bk σ H
 ct:∀ ρ σ G' H,n.ct ρ→aJ G G'→R C ow G' ρ σ H []→D.ct σ H
 rt:∀ d ρ σ v G' H,n.rt d ρ→aJ G G'→Ret fr C ow G' ρ σ H d v→D.rt v H
theorem Ks.mono {C:Ctx} {ow:List Bool} {fr:Bool} {G G1:Hp} {n:EndsD} {D:Ends} (h:Ks C ow fr G n D) (s:aJ G G1):Ks C ow fr G1 n D :=
 ⟨fun ρ σ G' H a b c=>h.nx ρ σ G' H a (s.trans b) c,fun ρ σ G' H a b c=>h.bk ρ σ G' H a (s.trans b) c,fun ρ σ G' H a b c=>h.ct ρ σ G' H a (s.trans b) c,fun d ρ σ v G' H a b c=>h.rt d ρ σ v G' H a (s.trans b) c⟩
def gr (C:Ctx) (mu:List Bool):Prop:=∀ (i:Nat) v,C.mu[i]? = some (some v)→mu[i]? = some true
theorem gr.no {C:Ctx} {mu:List Bool} (h:gr C mu) {i:Nat} (hi:mu[i]?≠some true):∀ v,C.mu[i]?≠some (some v):=fun v e=>hi (h i v e)
structure Md where
 mu:List Bool
 ow:List Bool
 fr:Bool
def SS (M:Md) (t:TS) (m:MS):Prop:=∀ (C:Ctx) (G:Hp) (ρ:DSt) (σ:St) (H:Hp) (n:EndsD) (D:Ends),gr C M.mu→C.np=0→R C M.ow G ρ σ H []→m n ρ→Ks C M.ow M.fr G n D→t D σ H
structure QS (X:Cx) (M:Md) (st:Stmt) (m:MS):Prop where
 ex:∃ t,PS X st t∧SS M t m
structure QSs (X:Cx) (M:Md) (st:List Stmt) (m:MS):Prop where
 ex:∃ t,PSs X st t∧SS M t m
section
variable {X:Cx} {M:Md} {a b c e:Expr} {ma mb mc:ME} {mt:MT} {pos pos':Pos} {st:Stmt} {rest:List Stmt} {m m1 m2:MS}
def mSeq (m1 m2:MS):MS:=fun n ρ=>m1 { n with nx:=fun ρ'=>m2 n ρ' } ρ
def ux:MS:=fun n ρ=>n.nx ρ
theorem aT:QSs X M [] ux:=⟨_,nE,fun C G ρ σ H n D hm hn r h k=>k.nx ρ σ G H h (aJ.refl _) r⟩
theorem am (h:QS X M st m):QSs X M [st] m:=by obtain ⟨t,p,s⟩:=h; exact ⟨_,fu p,s⟩
theorem ag (h:QS X M st m1) (h2:QSs X M rest m2):QSs X M (st :: rest) (mSeq m1 m2):=by
 obtain ⟨t,p,s⟩:=h; obtain ⟨t2,p2,s2⟩:=h2
 refine ⟨_,cz p p2,fun C G ρ σ H n D hm hn r h k=>s C G ρ σ H _ _ hm hn r h ?_⟩
 exact ⟨fun ρ' σ' G' H' h' z r'=>s2 C G' ρ' σ' H' n D hm hn r' h' (k.mono z),k.bk,k.ct,k.rt⟩
def wB:MS:=fun _ _=>False
theorem d5:QS X M st wB:=⟨_,rY,fun C G ρ σ H n D hm hn r h k=>h.elim⟩
def mIfS (mt:MT) (m1 m2:MS):MS:=fun n ρ=>mt ρ fun b ρ1=>if b=true then m1 n ρ1 else m2 n ρ1
theorem bj {s1 s2:List Stmt} (h:QT X M.ow c mt) (h1:QSs X M s1 m1) (h2:QSs X M s2 m2):QS X M (.If c s1 s2 pos) (mIfS mt m1 m2):=by
 obtain ⟨t,p,s⟩:=h; obtain ⟨t1,p1,s1⟩:=h1; obtain ⟨t2,p2,s2⟩:=h2
 refine ⟨_,uK p p1 p2,fun C G ρ σ H n D hm hn r h k=>s C G ρ σ H [] _ _ r h fun b ρ' G' H' hq z kp r'=>?_⟩
 cases b with
 | true=>rw [if_pos rfl] at hq ⊢; exact s1 C G' ρ' σ H' n D hm hn r' hq (k.mono z)
 | false=>rw [if_neg (by decide)] at hq ⊢; exact s2 C G' ρ' σ H' n D hm hn r' hq (k.mono z)
def mRet (m:ME):MS:=fun n ρ=>m ρ n.rt
theorem aE (h:QE X M.ow e ma) (hf:M.fr=false:=by rfl):QS X M (.Return (some e) pos) (mRet ma):=by
 obtain ⟨t,p,s⟩:=h
 refine ⟨_,rn p,fun C G ρ σ H n D hm hn r h k=>s C G ρ σ H [] _ _ r h fun d ρ' v G' H' hq z kp r' p=>k.rt d ρ' σ v G' H' hq z (by unfold Ret; rw [if_neg (by rw [hf]; decide)]; exact ⟨r',p⟩)⟩
theorem R.non {C:Ctx} {ow:List Bool} {fr:Bool} {G:Hp} {ρ:DSt} {σ:St} {H:Hp} (r:R C ow G ρ σ H []):Ret fr C ow G ρ σ H .non .non:=by
 unfold Ret
 split
 ·obtain ⟨O,r⟩:=r
  exact ⟨O,r.len,r.gh,r.g0,r.gn,r.og,r.cok,r.fr,r.ft,r.al,r.mp,r.sl,⟨by rw [Sep],trivial⟩,Nat.le_succ_of_le r.np⟩
 ·exact ⟨r,kH⟩
def mx (i:Nat) (m:ME):MS:=fun n ρ=>m ρ fun d ρ1=>n.nx (ρ1.set i (some d))
theorem sm {t:TE} {i:Nat} (s:SE M.ow t ma) (ho:M.ow[i]?≠some true) (hu:M.mu[i]?≠some true):SS M (nW t (iR i)) (mx i ma):=fun C G ρ σ H n D hm hn r h k =>
 s C G ρ σ H [] _ _ r h fun d ρ' v G' H' hq z kp r' p=>by
  obtain ⟨O,r'⟩:=r'
  exact k.nx _ _ G' H' hq z ⟨O,r'.setS ho (hm.no hu) p⟩
theorem sE {t:TE} {i:Nat} (s:SF M.ow t ma) (ho:M.ow[i]? = some true) (hu:M.mu[i]?≠some true):SS M (nW t (iR i)) (mx i ma):=fun C G ρ σ H n D hm hn r h k =>
 s C G ρ σ H [] _ _ r h fun d ρ' v G' H' hq z kp r'=>by
  obtain ⟨O,r'⟩:=r'
  exact k.nx _ _ G' H' hq z (r'.setO ho (hm.no hu) (by rw [hn]; exact Nat.zero_le _))
theorem aH {i:Nat} {x:Str} (hN:X.N.Nodup) (hi:X.N[i]? = some x) (hx:Loc X.env.scope x) (he:QE X M.ow e ma) (ho:M.ow[i]?≠some true:=by decide) (hu:M.mu[i]?≠some true:=by decide) (hs:swapsWith e (some (.Name x pos')) pos.line X.env=pure false:=by rfl) (hf:X.fn x=true∨X.env.scope.names.lookup x=some .local:=by first | exact .inl rfl | exact .inr rfl | assumption) :
 QS X M (.Assign [.Name x pos'] e pos) (mx i ma):=by
 obtain ⟨t,p,s⟩:=he
 exact ⟨_,gO hN hi hx p hs hf,sm s ho hu⟩
theorem ey {i:Nat} {x:Str} (hN:X.N.Nodup) (hi:X.N[i]? = some x) (hx:Loc X.env.scope x) (he:QF X M.ow e ma) (ho:M.ow[i]? = some true:=by decide) (hu:M.mu[i]?≠some true:=by decide) (hs:swapsWith e (some (.Name x pos')) pos.line X.env=pure false:=by rfl) (hf:X.fn x=true∨X.env.scope.names.lookup x=some .local:=by first | exact .inl rfl | exact .inr rfl | assumption) :
 QS X M (.Assign [.Name x pos'] e pos) (mx i ma):=by
 obtain ⟨t,p,s⟩:=he
 exact ⟨_,gO hN hi hx p hs hf,sE s ho hu⟩
def mPar (i j:Nat) (ma mb:ME):MS:=fun n ρ=>ma ρ fun x ρ1=>mb ρ1 fun y ρ2=>n.nx ((ρ2.set i (some x)).set j (some y))
theorem kI {i j:Nat} {x y:Str} {px py pt:Pos} {kt k2 pt2} (hc:X.calm=true) (hN:X.N.Nodup) (hi:X.N[i]? = some x) (hj:X.N[j]? = some y) (hij:i≠j)
 (hx:X.env.scope.names.lookup x=some .local) (hy:X.env.scope.names.lookup y=some .local) (ha:QE X M.ow a ma) (hb:QE X M.ow b mb)
 (hw:swappedStores [.Tuple [.Name x px,.Name y py] kt pt] (.Tuple [a,b] k2 pt2) X.env=pure (some [x,y]))
 (oi:M.ow[i]?≠some true:=by decide) (oj:M.ow[j]?≠some true:=by decide) (ui:M.mu[i]?≠some true:=by decide) (uj:M.mu[j]?≠some true:=by decide)
 (hs1:starEach [a,b] X.env=(false,eval a X.env) :: starEach [b] X.env:=by rfl) (hs2:starEach [b] X.env=[(false,eval b X.env)]:=by rfl)
 (hs:swapsWithSole [.Tuple [.Name x px,.Name y py] kt pt] (.Tuple [a,b] k2 pt2) pos.line X.env=pure false:=by rfl) :
 QS X M (.Assign [.Tuple [.Name x px,.Name y py] kt pt] (.Tuple [a,b] k2 pt2) pos) (mPar i j ma mb):=by
 obtain ⟨ta,pa,sa⟩:=ha; obtain ⟨tb,pb,sb⟩:=hb
 refine ⟨_,vt hc hN hi hj hij hx hy (a6 pa (a6 pb cq hs2) hs1) hw hs,fun C G ρ σ H n D hm hn r h k=>?_⟩
 refine ki (Q:=fun u w H2=>∃ v w',[u,w]=[v,w']∧D.nx ((σ.set i (some v)).set j (some w')) H2) sa sb r h fun dx dy ρ' u w G' H' hq z kp r' p1 p2=>⟨u,w,rfl,?_⟩
 obtain ⟨O,r'⟩:=r'
 exact k.nx _ _ G' H' hq z ⟨O,(r'.setS oi (hm.no ui) p1).setS oj (hm.no uj) p2⟩
abbrev MG:=D→DSt→(DSt→Prop)→Prop
abbrev MGs:=List D→DSt→(DSt→Prop)→Prop
def SG (M:Md) (g:TG) (m:MG):Prop:=∀ (C:Ctx) (G:Hp) (ρ:DSt) (σ:St) (H:Hp) (pd:List (D×V)) (d:D) (v:V) (k:DSt→Prop) (K:St→Hp→Prop),gr C M.mu→R C M.ow G ρ σ H pd→Rep G d v→m d ρ k →
 (∀ ρ' σ',k ρ'→R C M.ow G ρ' σ' H pd→K σ' H)→g v σ H K
def SGs (M:Md) (g:TGs) (m:MGs):Prop:=∀ (C:Ctx) (G:Hp) (ρ:DSt) (σ:St) (H:Hp) (pd:List (D×V)) (d:List D) (v:List V) (k:DSt→Prop) (K:St→Hp→Prop),gr C M.mu→R C M.ow G ρ σ H pd→Reps G d v→m d ρ k →
 (∀ ρ' σ',k ρ'→R C M.ow G ρ' σ' H pd→K σ' H)→g v σ H K
structure QG (X:Cx) (M:Md) (e:Expr) (m:MG):Prop where
 ex:∃ t,PG X e t∧SG M t m
structure QGs (X:Cx) (M:Md) (e:List Expr) (m:MGs):Prop where
 ex:∃ t,PGs X e t∧SGs M t m
def iC (i:Nat):MG:=fun d ρ k=>k (ρ.set i (some d))
theorem aO {i:Nat} {x:Str} (hN:X.N.Nodup) (hi:X.N[i]? = some x) (hx:Loc X.env.scope x) (ho:M.ow[i]?≠some true:=by decide) (hu:M.mu[i]?≠some true:=by decide) (hf:X.fn x=true∨X.env.scope.names.lookup x=some .local:=by first | exact .inl rfl | exact .inr rfl | assumption):QG X M (.Name x pos) (iC i) :=
 ⟨_,cB hN hi hx hf,fun C G ρ σ H pd d v k K hm r p h kk=>by obtain ⟨O,r⟩:=r; exact kk _ _ h ⟨O,r.setS ho (hm.no hu) p⟩⟩
def rW:MGs:=fun ds ρ k=>match ds with
 | []=>k ρ
 | _=>False
def kM (t:MG) (u:MGs):MGs:=fun ds ρ k=>match ds with
 | d :: ds=>t d ρ fun ρ1=>u ds ρ1 k
 | []=>False
def uU (t:MGs):MG:=fun d ρ k=>match d with
 | .tup ds=>t ds ρ k
 | _=>False
variable {mg:MG} {mgs:MGs} {es:List Expr}
theorem ce:QGs X M [] rW:=⟨_,nv,fun C G ρ σ H pd d v k K hm r p h kk=>by
 cases d with
 | nil=>rw [Reps] at p; exact ⟨p,kk _ _ h r⟩
 | cons _ _=>exact h.elim⟩
theorem aS (h1:QG X M e mg) (h2:QGs X M es mgs) (hs:(assignEach (e :: es) X.env).map (·.2)=assign e X.env :: (assignEach es X.env).map (·.2):=by rfl):QGs X M (e :: es) (kM mg mgs):=by
 obtain ⟨t,p,s⟩:=h1; obtain ⟨t2,p2,s2⟩:=h2
 refine ⟨_,iK p p2 hs,fun C G ρ σ H pd d v k K hm r p h kk=>?_⟩
 cases d with
 | nil=>exact h.elim
 | cons d ds =>
  rw [Reps] at p
  obtain ⟨v,vs,rfl,p1,p3⟩:=p
  exact ⟨v,vs,rfl,s C G ρ σ H pd d v _ _ hm r p1 h fun ρ' σ' h' r'=>s2 C G ρ' σ' H pd ds vs k K hm r' p3 h' kk⟩
def lg (n:Nat) (m:MGs):Prop:=∀ ds ρ k,m ds ρ k→ds.length=n
theorem bc:lg 0 rW:=fun ds ρ k h=>by cases ds with | nil=>rfl | cons _ _=>exact h.elim
theorem au {n:Nat} {i:Nat} (h:lg n mgs):lg (n + 1) (kM (iC i) mgs):=fun ds ρ k q=>by
 cases ds with
 | nil=>exact q.elim
 | cons d ds=>simp [h ds _ _ q]
theorem cX {kk:Nat} {n:Nat} (hc:X.calm=true) (h:QGs X M es mgs) (ht:lg n mgs)
 (hn:(assignEach es X.env).length=n:=by rfl) (hst:(assignEach es X.env).findIdx? (·.1)=none:=by rfl):QG X M (.Tuple es kk pos) (uU mgs):=by
 obtain ⟨t,p,s⟩:=h
 refine ⟨_,qD hc p hn hst,fun C G ρ σ H pd d v k K hm r p h kk=>?_⟩
 cases d with
 | tup ds =>
  obtain ⟨a,xs,rfl,h1,h2⟩:=fO p
  exact ⟨a,xs,rfl,SqT.of (r.gh _ _ h1),by rw [h2.length]; exact ht _ _ _ h,s C G ρ σ H pd ds xs k K hm r h2 h kk⟩
 | _=>exact h.elim
def mAsg (m:ME) (g:MG):MS:=fun n ρ=>m ρ fun d ρ1=>g d ρ1 n.nx
theorem i7 {tg:Expr} (he:QE X M.ow e ma) (hg:QG X M tg mg) (hs:swapsWithSole [tg] e pos.line X.env=pure false:=by rfl) (hw:swappedStores [tg] e X.env=pure none:=by rfl)
 (h1:(assignEach [tg] X.env).map (·.2)=[assign tg X.env]:=by rfl):QS X M (.Assign [tg] e pos) (mAsg ma mg):=by
 obtain ⟨t,p,s⟩:=he; obtain ⟨t2,p2,s2⟩:=hg
 refine ⟨_,jV p p2 hs hw h1,fun C G ρ σ H n D hm hn r h k=>s C G ρ σ H [] _ _ r h fun d ρ' v G' H' hq z kp r' p=>?_⟩
 exact s2 C G' ρ' σ H' [] d v _ _ hm r' p hq fun ρ2 σ2 h2 r2=>k.nx ρ2 σ2 G' H' h2 z r2
def qu (m:ME):MS:=fun n ρ=>m ρ fun _ ρ1=>n.nx ρ1
theorem ni (he:QE X M.ow e ma) (hs:swapsWith e none pos.line X.env=pure false:=by rfl):QS X M (.Expr e pos) (qu ma):=by
 obtain ⟨t,p,s⟩:=he
 exact ⟨_,dD p hs,fun C G ρ σ H n D hm hn r h k=>s C G ρ σ H [] _ _ r h fun d ρ' v G' H' hq z kp r' p=>k.nx ρ' σ G' H' hq z r'⟩
def nj (i:Nat) (m:ME):MS:=fun n ρ=>match ρ[i]? with
 | some (some (.lst _))=>m ρ fun d ρ1=>match ρ1[i]? with
  | some (some (.lst ds))=>ds.length<1000∧n.nx (ρ1.set i (some (.lst (ds++[d]))))
  | _=>False
 | _=>False
theorem dS {i:Nat} {x:Str} {apos cpos npos:Pos} (hN:X.N[i]? = some x) (he:QF X M.ow e ma) (ho:M.ow[i]? = some true:=by decide)
 (hv:Vis X.env.scope x:=by first | exact Or.inl rfl | exact Or.inr (Or.inl rfl) | exact Or.inr (Or.inr rfl)) (hd:(x == ("__debug__":Str))=false:=by decide) (hcd:(x == ("__classdict__":Str))=false:=by decide)
 (hbase:attributeBase (.Name x npos) "append" X.env (eval (.Name x npos) X.env)=eval (.Name x npos) X.env:=by rfl)
 (hfew:((backTo cpos (starEach [e] X.env)).all (fun x=>!x.1)&&(backToKw cpos (keywordEach [] X.env)).all (fun x=>x.1.isSome)
  && decide ([e].length + ([]:List Keyword).length + (if ([]:List Keyword).isEmpty then 0 else 1)<30))=true:=by rfl)
 (hline:(apos.endLine == cpos.line)=true:=by rfl) (hst:starEach [e] X.env=[(false,eval e X.env)]:=by rfl)
 (hs:swapsWith (.Call (.Attribute (.Name x npos) "append" apos) [e] [] cpos) none pos.line X.env=pure false:=by rfl) :
 QS X M (.Expr (.Call (.Attribute (.Name x npos) "append" apos) [e] [] cpos) pos) (nj i ma):=by
 obtain ⟨t,p,s⟩:=he
 refine ⟨_,dD (uS PySem.F.plainAttrs_list PySem.F.slot_list_append PySem.F.type_list_append oG (eO hN hv hd hcd) (a6 p cq hst) hbase hfew hline hst (by rfl)) hs,fun C G ρ σ H n D hm hn r h k=>?_⟩
 unfold nj at h
 split at h
 ·rename_i ds e1
  obtain ⟨O,ro⟩:=r
  obtain ⟨a,xs,h1,h2,_,_⟩:=ro.write e1 ho
  refine ⟨.ref a,h1,.inl ⟨rfl,xs,SqL.of h2⟩,?_⟩
  refine s C G ρ σ H [] _ _ ⟨O,ro⟩ h fun d ρ' v G' H' hq z kp r'=>?_
  split at hq
  ·rename_i ds' e2
   obtain ⟨O',r'⟩:=r'
   obtain ⟨O2,r2,s2,s3⟩:=r'.join i ds'.length (by rw [hn]; exact Nat.zero_le _)
   obtain ⟨a',xs',g1,g2,g3,g4⟩:=r2.write e2 ho
   rw [h1] at g1; cases g1
   have hl:=g3.length
   refine ⟨a,xs',v,rfl,rfl,g2,by rw [hl]; exact ff (Nat.le_of_lt hq.1),?_⟩
   exact k.nx _ _ G' _ hq.2 z ⟨O2,g4 _ _ (g3.snoc (by simpa using s2))⟩
  ·exact hq.elim
 ·exact h.elim
def mSetI (i:Nat) (mk m:ME):MS:=fun n ρ=>m ρ fun d ρ1=>match ρ1[i]? with
 | some (some (.lst _))=>mk ρ1 fun k ρ2=>match ρ2[i]? with
  | some (some (.lst ds))=>match k with
   | .int j=>match ixN ds.length j with
    | some p=>n.nx (ρ2.set i (some (.lst (ds.set p d))))
    | none=>False
   | _=>False
  | _=>False
 | _=>False
theorem kG {i:Nat} {x:Str} {npos spos:Pos} (hN:X.N[i]? = some x) (he:QF X M.ow e ma) (hk:QE X M.ow b mb) (ho:M.ow[i]? = some true:=by decide)
 (hv:Vis X.env.scope x:=by first | exact Or.inl rfl | exact Or.inr (Or.inl rfl) | exact Or.inr (Or.inr rfl)) (hd:(x == ("__debug__":Str))=false:=by decide) (hcd:(x == ("__classdict__":Str))=false:=by decide)
 (ha:∀ v,assign (.Subscript (.Name x npos) b spos) X.env v=(do
  let ov ← holding [v] (eval (.Name x npos) X.env)
  let iv ← holding [v,ov] (eval b X.env)
  standAt spos
  holding [v,ov,iv] (setItem ov iv v)
  release [v,ov,iv] []):=by intro _; rfl)
 (hs:swapsWithSole [.Subscript (.Name x npos) b spos] e pos.line X.env=pure false:=by rfl) (hw:swappedStores [.Subscript (.Name x npos) b spos] e X.env=pure none:=by rfl)
 (h1:(assignEach [.Subscript (.Name x npos) b spos] X.env).map (·.2)=[assign (.Subscript (.Name x npos) b spos) X.env]:=by rfl) :
 QS X M (.Assign [.Subscript (.Name x npos) b spos] e pos) (mSetI i mb ma):=by
 obtain ⟨t,p,s⟩:=he; obtain ⟨t2,p2,s2⟩:=hk
 refine ⟨_,jV p (rK (eO hN hv hd hcd) p2 lv ha) hs hw h1,fun C G ρ σ H n D hm hn r h k=>s C G ρ σ H [] _ _ r h fun d ρ' v G' H' hq z kp r'=>?_⟩
 split at hq
 ·rename_i ds0 e0
  obtain ⟨O0,ro⟩:=r'
  obtain ⟨a,xs,hu,_,_,_⟩:=ro.write e0 ho
  refine ⟨.ref a,hu,?_⟩
  refine s2 C G' ρ' σ H' _ _ _ ⟨O0,ro⟩ hq fun dk ρ2 jv G2 H2 hq2 z2 kp2 r2 pj=>?_
  split at hq2
  ·rename_i ds e2
   cases dk with
   | int j =>
    dsimp only at hq2
    split at hq2
    ·rename_i pl e3
     obtain ⟨O',r2⟩:=r2
     obtain ⟨O2,r3,w2,w3⟩:=r2.join i pl (by rw [hn]; exact Nat.zero_le _)
     obtain ⟨a',xs',g1,g2,g3,g4⟩:=r3.write e2 ho
     rw [hu] at g1; cases g1
     refine ⟨a,xs',j,pl,rfl,aG pj,g2,by rw [g3.length]; exact e3,?_⟩
     exact k.nx _ _ G2 _ hq2 (z.trans z2) ⟨O2,g4 _ _ (g3.set (by simpa using w2))⟩
    ·exact hq2.elim
   | _=>exact hq2.elim
  ·exact hq2.elim
 ·exact hq.elim
def w4 (mt:MT) (mb:MS):MS:=fun n ρ=>∃ W:Nat→DSt→Prop,(∃ k,W k ρ)∧∀ k ρ,W k ρ→mt ρ fun b ρ1 =>
 if b=true then mb { n with nx:=fun ρ'=>∃ k',k'<k∧W k' ρ',ct:=fun ρ'=>∃ k',k'<k∧W k' ρ',bk:=n.nx } ρ1 else n.nx ρ1
theorem gq {body:List Stmt} (hp:PassesOwn (model X.prog X.w) X.A X.env X.xe) (hc:QT X M.ow c mt) (hb:QSs X M body m):QS X M (.While c body [] pos) (w4 mt m):=by
 obtain ⟨t,p,s⟩:=hc; obtain ⟨t2,p2,s2⟩:=hb
 refine ⟨_,p9 hp p p2,fun C G ρ σ H n D hm hn r h k=>?_⟩
 obtain ⟨W,⟨k0,w0⟩,turn⟩:=h
 refine ⟨fun j σ' H'=>∃ G' ρ',aJ G G'∧R C M.ow G' ρ' σ' H' []∧W j ρ',⟨k0,G,ρ,aJ.refl _,r,w0⟩,?_⟩
 rintro j σ' H' ⟨G',ρ',z,r',w⟩
 refine s C G' ρ' σ' H' [] _ _ r' (turn j ρ' w) fun b ρ1 G1 H1 hq z1 kp r1=>?_
 cases b with
 | true =>
  rw [if_pos rfl] at hq ⊢
  refine ⟨fun σ2 H2=>∃ j',j'<j∧∃ G2 ρ2,aJ G G2∧R C M.ow G2 ρ2 σ2 H2 []∧W j' ρ2,fun σ2 H2 h=>h,?_⟩
  refine s2 C G1 ρ1 σ' H1 _ _ hm hn r1 hq ⟨?_,?_,?_,?_⟩
  ·rintro ρ2 σ2 G2 H2 ⟨j',hj,w'⟩ z2 r2; exact ⟨j',hj,G2,ρ2,z.trans (z1.trans z2),r2,w'⟩
  ·intro ρ2 σ2 G2 H2 h z2 r2; exact k.nx ρ2 σ2 G2 H2 h (z.trans (z1.trans z2)) r2
  ·rintro ρ2 σ2 G2 H2 ⟨j',hj,w'⟩ z2 r2; exact ⟨j',hj,G2,ρ2,z.trans (z1.trans z2),r2,w'⟩
  ·intro d ρ2 σ2 v G2 H2 h z2 r2; exact k.rt d ρ2 σ2 v G2 H2 h (z.trans (z1.trans z2)) r2
 | false=>rw [if_neg (by decide)] at hq ⊢; exact k.nx ρ1 σ' G1 H1 hq (z.trans z1) r1
def rB (J:It) (G:Hp) (ds:List D):Prop:=∀ (C:Ctx) (ow:List Bool) (G':Hp) (ρ:DSt) (σ:St) (H:Hp) (pd:List (D×V)) (i:Nat),aJ G G'→R C ow G' ρ σ H pd →
 (ds.length≤i→J.stop i H)∧∀ d,ds[i]? = some d→J.go i H∧∀ x H',J.yld i H x H'→∃ G2,aJ G' G2∧R C ow G2 ρ σ H' pd∧Rep G2 d x
def SI (ow:List Bool) (wi:TI) (mi:MA):Prop:=∀ (C:Ctx) (G:Hp) (ρ:DSt) (σ:St) (H:Hp) (pd:List (D×V)) (q:List D→DSt→Prop) (Q:It→Hp→Prop),R C ow G ρ σ H pd→mi ρ q →
 (∀ ds ρ' G' H' J,q ds ρ'→aJ G G'→Kp ow ρ ρ'→R C ow G' ρ' σ H' pd→rB J G' ds→Q J H')→wi σ H Q
structure QI (X:Cx) (ow:List Bool) (tg iter:Expr) (mi:MA):Prop where
 ex:∃ t,PI X tg iter t∧SI ow t mi
def forD (g:MG) (mb:MS) (n:EndsD) (ds:List D) (ρ:DSt):Prop:=∃ I:Nat→DSt→Prop,I 0 ρ ∧
 (∀ i d ρ,ds[i]? = some d→I i ρ→g d ρ fun ρ1=>mb { n with nx:=I (i + 1),ct:=I (i + 1),bk:=n.nx } ρ1)∧∀ ρ,I ds.length ρ→n.nx ρ
def mFor (mi:MA) (g:MG) (mb:MS):MS:=fun n ρ=>mi ρ fun ds ρ1=>forD g mb n ds ρ1
theorem cY {mi:MA} {tg iter:Expr} {body:List Stmt} (hp:PassesOwn (model X.prog X.w) X.A X.env X.xe) (hc:X.calm=true) (hi:QI X M.ow tg iter mi) (hg:QG X M tg mg) (hb:QSs X M body m)
 (hs:∀ x,foldedSetIterable iter X.env x=pure x:=by intro _; rfl):QS X M (.For tg iter body [] pos) (mFor mi mg m):=by
 obtain ⟨ti,pi,si⟩:=hi; obtain ⟨tg',pg,sg⟩:=hg; obtain ⟨tb,pb,sb⟩:=hb
 refine ⟨_,qX hp hc pi pg pb hs,fun C G ρ σ H n D hm hn r h k=>si C G ρ σ H [] _ _ r h fun ds ρ0 G0 H0 J hq z0 kp r0 jo=>?_⟩
 obtain ⟨I,i0,turn,fin⟩:=hq
 refine ⟨fun i j σ' H'=>j=ds.length - i∧i≤ds.length∧∃ G' ρ',aJ G0 G'∧R C M.ow G' ρ' σ' H' []∧I i ρ',⟨_,rfl,Nat.zero_le _,G0,ρ0,aJ.refl _,r0,i0⟩,?_⟩
 rintro i j σ' H' ⟨rfl,hi,G',ρ',z,r',w⟩
 obtain ⟨st,go⟩:=jo C M.ow G' ρ' σ' H' [] i z r'
 by_cases hlt:i<ds.length
 ·obtain ⟨g1,g2⟩:=go ds[i] (List.getElem?_eq_getElem hlt)
  refine .inr ⟨g1,fun σ2 H2=>∃ G2 ρ2,aJ G0 G2∧R C M.ow G2 ρ2 σ2 H2 []∧I (i + 1) ρ2,fun σ2 H2 h=>⟨ds.length - (i + 1),by omega,rfl,hlt,h⟩,fun x H1 hy=>?_⟩
  obtain ⟨G1,z1,r1,p1⟩:=g2 x H1 hy
  refine sg C G1 ρ' σ' H1 [] ds[i] x _ _ hm r1 p1 (turn i ds[i] ρ' (List.getElem?_eq_getElem hlt) w) fun ρ2 σ2 h2 r2=>?_
  refine sb C G1 ρ2 σ2 H1 _ _ hm hn r2 h2 ⟨?_,?_,?_,?_⟩
  ·intro ρ3 σ3 G3 H3 h3 z3 r3; exact ⟨G3,ρ3,z.trans (z1.trans z3),r3,h3⟩
  ·intro ρ3 σ3 G3 H3 h3 z3 r3; exact k.nx ρ3 σ3 G3 H3 h3 (z0.trans (z.trans (z1.trans z3))) r3
  ·intro ρ3 σ3 G3 H3 h3 z3 r3; exact ⟨G3,ρ3,z.trans (z1.trans z3),r3,h3⟩
  ·intro d ρ3 σ3 v G3 H3 h3 z3 r3; exact k.rt d ρ3 σ3 v G3 H3 h3 (z0.trans (z.trans (z1.trans z3))) r3
 ·have e:i=ds.length:=by omega
  subst e
  exact .inl ⟨st (Nat.le_refl _),k.nx ρ' σ' G' H' (fin ρ' w) (z0.trans z) r'⟩
end
section
variable {X:Cx} {ow:List Bool} {a b c e tg:Expr} {ma mb mc:ME} {pos:Pos} {mr:MA} {es:List Expr}
theorem vC {K:PySem.W.Frag} {G:Hp} {p:Addr} {xs:List V} {ds:List D} (h1:G p=some (.lst xs)) (h2:Reps G ds xs):rB (Itl K p) G ds:=fun C ow G' ρ σ H pd i z r=>by
 have hp:=r.gh _ _ (z _ _ h1)
 refine ⟨fun hl=>⟨xs,SqL.of hp,by rw [h2.length]; exact hl⟩,fun d e=>?_⟩
 obtain ⟨v,e1,e2⟩:=gm h2 e
 refine ⟨⟨xs,v,SqL.of hp,e1⟩,fun x H' hy=>?_⟩
 obtain ⟨rfl,hy⟩:=hy
 have:=hy xs (SqL.of hp)
 rw [e1] at this; cases this
 exact ⟨G',aJ.refl _,r,Rep.mono z _ _ e2⟩
def miLst (m:ME):MA:=fun ρ q=>m ρ fun d ρ'=>match d with
 | .lst ds=>q ds ρ'
 | _=>False
theorem bS (h:QE X ow e ma):QI X ow tg e (miLst ma):=by
 obtain ⟨t,p,s⟩:=h
 refine ⟨_,sR p,fun C G ρ σ H pd q Q r hm k=>s C G ρ σ H pd _ _ r hm fun d ρ' v G' H' hq z kp r' p=>?_⟩
 cases d with
 | lst ds=>obtain ⟨a,xs,rfl,h1,h2⟩:=bu p; exact ⟨a,rfl,⟨xs,SqL.of (r'.gh _ _ h1)⟩,k ds ρ' G' H' _ hq z kp r' (vC h1 h2)⟩
 | _=>exact hq.elim
def lU (lo:Int) (n:Nat):List D:=(List.range n).map fun (i:Nat)=>.int (lo + i)
theorem e8 {lo:Int} {n i:Nat} {d:D} (h:(lU lo n)[i]? = some d):i<n∧d = .int (lo + i):=by
 unfold lU at h
 rw [List.getElem?_map] at h
 by_cases c:i<n
 ·rw [List.getElem?_range c] at h; exact ⟨c,(Option.some.inj h).symm⟩
 ·rw [List.getElem?_eq_none (by simp; omega)] at h; cases h
theorem f6 (lo:Int) (n:Nat):(lU lo n).length=n:=by unfold lU; simp
theorem qI {G:Hp} {lo:Int} {n:Nat}:rB (Itr lo n) G (lU lo n):=fun C ow G' ρ σ H pd i z r=>by
 refine ⟨fun hl=>by rw [f6] at hl; exact hl,fun d e=>?_⟩
 obtain ⟨h1,rfl⟩:=e8 e
 refine ⟨h1,fun x H' hy=>?_⟩
 obtain ⟨rfl,rfl⟩:=hy
 exact ⟨G',aJ.refl _,r,bg _⟩
def miR1 (m:MA):MA:=fun ρ q=>m ρ fun ds ρ'=>match ds with
 | [.int j]=>(-(2 ^ 62)≤j∧j<2 ^ 62)∧q (lU 0 j.toNat) ρ'
 | _=>False
def miR2 (m:MA):MA:=fun ρ q=>m ρ fun ds ρ'=>match ds with
 | [.int i,.int j]=>(-(2 ^ 62)≤i∧i<2 ^ 62∧-(2 ^ 62)≤j∧j<2 ^ 62)∧q (lU i (j - i).toNat) ρ'
 | _=>False
theorem e6 {p:Pos} (hg:Gl X "range") (hm:X.mg "range" = none) (ha:QA X ow [a] mr) (hs:starEach [a] X.env=[(false,eval a X.env)]:=by rfl):QI X ow tg (.Call (.Name "range" p) [a] [] pos) (miR1 mr):=by
 obtain ⟨t,p,s⟩:=ha
 refine ⟨_,oC hg hm p hs,fun C G ρ σ H pd q Q r hm k=>s C G ρ σ H pd _ _ r hm fun ds ρ' vs G' H' hq z kp r' p hn=>?_⟩
 split at hq
 ·obtain ⟨v,rfl,p1⟩:=bz p
  rw [aG p1]
  exact ⟨_,rfl,hq.1.1,hq.1.2,k _ ρ' G' H' _ hq.2 z kp r' qI⟩
 ·exact hq.elim
theorem oq {p:Pos} (hg:Gl X "range") (hm:X.mg "range" = none) (ha:QA X ow [a,b] mr) (hs:starEach [a,b] X.env=[(false,eval a X.env),(false,eval b X.env)]:=by rfl) (hs2:starEach [b] X.env=[(false,eval b X.env)]:=by rfl):QI X ow tg (.Call (.Name "range" p) [a,b] [] pos) (miR2 mr):=by
 obtain ⟨t,p,s⟩:=ha
 refine ⟨_,nX hg hm p hs hs2,fun C G ρ σ H pd q Q r hm k=>s C G ρ σ H pd _ _ r hm fun ds ρ' vs G' H' hq z kp r' p hn=>?_⟩
 split at hq
 ·obtain ⟨v,u,rfl,p1,p2⟩:=eN p
  rw [aG p1,aG p2]
  exact ⟨_,_,rfl,hq.1,k _ ρ' G' H' _ hq.2 z kp r' qI⟩
 ·exact hq.elim
def eP (ds:List D):List D:=ds.mapIdx fun i d=>.tup [.int i,d]
theorem pW (ds:List D):(eP ds).length=ds.length:=by unfold eP; simp
theorem dG {ds:List D} {i:Nat} {d:D} (h:(eP ds)[i]? = some d):∃ d',ds[i]? = some d'∧d = .tup [.int i,d']:=by
 unfold eP at h
 rw [List.getElem?_mapIdx] at h
 cases e:ds[i]? with
 | none=>rw [e] at h; cases h
 | some d'=>rw [e] at h; exact ⟨d',rfl,(Option.some.inj h).symm⟩
theorem wY {G:Hp} {p:Addr} {xs:List V} {ds:List D} (h1:G p=some (.lst xs)) (h2:Reps G ds xs):rB (Ite p) G (eP ds):=fun C ow G' ρ σ H pd i z r=>by
 have hp:=r.gh _ _ (z _ _ h1)
 refine ⟨fun hl=>⟨xs,hp,by rw [h2.length]; rw [pW] at hl; exact hl⟩,fun d e=>?_⟩
 obtain ⟨d',e0,rfl⟩:=dG e
 obtain ⟨v,e1,e2⟩:=gm h2 e0
 refine ⟨⟨xs,v,hp,e1⟩,fun x H' hy=>?_⟩
 obtain ⟨a,x',ha,rfl,rfl,hy⟩:=hy
 have:=hy xs hp
 rw [e1] at this; cases this
 obtain ⟨O,r⟩:=r
 obtain ⟨r2,s2⟩:=r.new ha (.tup [.int i,v])
 exact ⟨_,s2,⟨O,r2⟩,kE av (bA (bg _) (bA (Rep.mono (z.trans s2) _ _ e2) bO))⟩
def miEnu (m:MA):MA:=fun ρ q=>m ρ fun ds ρ'=>match ds with
 | [.lst ds]=>q (eP ds) ρ'
 | _=>False
theorem et {k:Nat} {tpos p:Pos} (hg:Gl X "enumerate") (hm:X.mg "enumerate" = none) (ha:QA X ow [a] mr) (hs:starEach [a] X.env=[(false,eval a X.env)]:=by rfl):QI X ow (.Tuple es k tpos) (.Call (.Name "enumerate" p) [a] [] pos) (miEnu mr):=by
 obtain ⟨t,p,s⟩:=ha
 refine ⟨_,sZ hg hm p hs,fun C G ρ σ H pd q Q r hm k=>s C G ρ σ H pd _ _ r hm fun ds ρ' vs G' H' hq z kp r' p hn=>?_⟩
 split at hq
 ·obtain ⟨v,rfl,p1⟩:=bz p
  obtain ⟨a,xs,rfl,h1,h2⟩:=bu p1
  exact ⟨a,rfl,⟨xs,r'.gh _ _ h1⟩,k _ ρ' G' H' _ hq z kp r' (wY h1 h2)⟩
 ·exact hq.elim
def uA (i:Nat):ME:=fun ρ q=>match ρ[i]? with
 | some (some d)=>q d (ρ.set i none)
 | _=>False
end
inductive AK where
 | s | m (i:Nat) | t
def AK.isM:AK→Bool
 | .s=>false
 | _=>true
def gj (G:Hp) (σ:St):List AK→List D→List V→List (D×V)→Prop
 | [],[],[],[]=>True
 | .s :: ks,d :: ds,v :: vs,T=>Rep G d v∧gj G σ ks ds vs T
 | .m i :: ks,_ :: ds,v :: vs,T=>σ[i]? = some (some v)∧gj G σ ks ds vs T
 | .t :: ks,d :: ds,v :: vs,x :: T=>x=(d,v)∧gj G σ ks ds vs T
 | _,_,_,_=>False
def SAk (ow:List Bool) (ks:List AK) (t:TA) (m:MA):Prop:=∀ (C:Ctx) (G:Hp) (ρ:DSt) (σ:St) (H:Hp) (pd:List (D×V)) (q:List D→DSt→Prop) (Q:List V→Hp→Prop),R C ow G ρ σ H pd→m ρ q →
 (∀ ds ρ' vs T G' H',q ds ρ'→aJ G G'→Kp ow ρ ρ'→R C ow G' ρ' σ H' (T.reverse++pd)→gj G' σ ks ds vs T→Q vs H')→t σ H Q
structure QAk (X:Cx) (ow:List Bool) (ks:List AK) (es:List Expr) (m:MA):Prop where
 ex:∃ t,PA X es t∧SAk ow ks t m
section
variable {X:Cx} {ow:List Bool} {a b c e tg:Expr} {ma mb mc:ME} {pos:Pos} {mr:MA} {es:List Expr} {ks:List AK}
theorem ak:QAk X ow [] [] n4:=⟨_,cq,fun C G ρ σ H pd q Q r h k=>k [] ρ [] [] G H h (aJ.refl _) Kp.refl r trivial⟩
theorem ai (ha:QE X ow e ma) (hr:QAk X ow ks es mr) (hs:starEach (e :: es) X.env=(false,eval e X.env) :: starEach es X.env:=by rfl):QAk X ow (.s :: ks) (e :: es) (ge ma mr):=by
 obtain ⟨t,p,s⟩:=ha; obtain ⟨t2,p2,s2⟩:=hr
 refine ⟨_,a6 p p2 hs,fun C G ρ σ H pd q Q r hm k=>s C G ρ σ H pd _ _ r hm fun d ρ' v G' H' hq z kp r' p=>?_⟩
 exact s2 C G' ρ' σ H' pd _ _ r' hq fun ds ρ2 vs T G2 H2 hq2 z2 kp2 r2 p2=>k (d :: ds) ρ2 (v :: vs) T G2 H2 hq2 (z.trans z2) (kp.trans kp2) r2 ⟨Rep.mono z2 _ _ p,p2⟩
def o9 (i:Nat) (r:MA):MA:=fun ρ q=>match ρ[i]? with
 | some (some _)=>r ρ fun ds ρ2=>q (.non :: ds) ρ2
 | _=>False
theorem dn (i:Nat) {x:Str} (hr:QAk X ow ks es mr) (hN:X.N[i]? = some x:=by rfl) (hv:Vis X.env.scope x:=by first | exact Or.inl rfl | exact Or.inr (Or.inl rfl) | exact Or.inr (Or.inr rfl)) (hd:(x == ("__debug__":Str))=false:=by decide)
 (hcd:(x == ("__classdict__":Str))=false:=by decide) (hs:starEach (.Name x pos :: es) X.env=(false,eval (.Name x pos) X.env) :: starEach es X.env:=by rfl):QAk X ow (.m i :: ks) (.Name x pos :: es) (o9 i mr):=by
 obtain ⟨t2,p2,s2⟩:=hr
 refine ⟨_,a6 (eO hN hv hd hcd) p2 hs,fun C G ρ σ H pd q Q r hm k=>?_⟩
 unfold o9 at hm
 split at hm
 ·rename_i d e
  obtain ⟨O,ro⟩:=r
  obtain ⟨v,h1,_⟩:=ro.sl i d e
  exact ⟨v,h1,s2 C G ρ σ H pd _ _ ⟨O,ro⟩ hm fun ds ρ2 vs T G2 H2 hq2 z2 kp2 r2 p2=>k (.non :: ds) ρ2 (v :: vs) T G2 H2 hq2 z2 kp2 r2 ⟨h1,p2⟩⟩
 ·exact hm.elim
def dc:List AK→List D→DSt→Option (List D)
 | [],[],_=>some []
 | .s :: ks,d :: ds,ρ=>(dc ks ds ρ).map (d :: ·)
 | .t :: ks,d :: ds,ρ=>(dc ks ds ρ).map (d :: ·)
 | .m i :: ks,_ :: ds,ρ=>match ρ[i]? with
  | some (some d)=>(dc ks ds ρ).map (d :: ·)
  | _=>none
 | _,_,_=>none
def lbs:List AK→Nat→List (Option Nat)
 | [],_=>[]
 | .s :: ks,r=>none :: lbs ks r
 | .m i :: ks,r=>some (2 * i) :: lbs ks r
 | .t :: ks,r=>some (2 * r + 1) :: lbs ks (r + 1)
def ax:List AK→List Nat
 | []=>[]
 | .m i :: ks=>i :: ax ks
 | _ :: ks=>ax ks
def fnd (l:Nat):List (Option Nat)→Nat→Option Nat
 | [],_=>none
 | x :: xs,k=>if x=some l then some k else fnd l xs (k + 1)
theorem lZ {l:Nat}:∀ {xs:List (Option Nat)} {k j:Nat},fnd l xs k=some j→∃ i,j=k + i∧xs[i]? = some (some l)
 | [],_,_,h=>by cases h
 | x :: xs,k,j,h=>by
  unfold fnd at h
  split at h
  ·rename_i c; cases h; exact ⟨0,rfl,by simp [c]⟩
  ·obtain ⟨i,rfl,e⟩:=lZ h; exact ⟨i + 1,by omega,by simpa using e⟩
theorem iw {l:Nat}:∀ {xs:List (Option Nat)} {k:Nat},(∀ i:Nat,xs[i]?≠some (some l))→fnd l xs k=none
 | [],_,_=>rfl
 | x :: xs,k,h=>by
  unfold fnd
  rw [if_neg (fun c=>h 0 (by simp [c]))]
  exact iw fun i=>by simpa using h (i + 1)
theorem lV {l:Nat}:∀ {xs:List (Option Nat)} {k i:Nat},(∀ (i j:Nat) (l:Nat),xs[i]? = some (some l)→xs[j]? = some (some l)→i=j)→xs[i]? = some (some l)→fnd l xs k=some (k + i)
 | [],_,_,_,h=>by simp at h
 | x :: xs,k,i,u,h=>by
  unfold fnd
  by_cases c:x=some l
  ·rw [if_pos c]
   have:=u 0 i l (by simp [c]) h
   subst this; rfl
  ·rw [if_neg c]
   cases i with
   | zero=>simp at h; exact absurd h c
   | succ i =>
    have:=lV (k:=k + 1) (i:=i) (fun i j l a b=>by have:=u (i + 1) (j + 1) l (by simpa using a) (by simpa using b); omega) (by simpa using h)
    rw [this]; congr 1; omega
theorem cx:∀ {ks:List AK} {r:Nat} {i l:Nat},(lbs ks r)[i]? = some (some l)→(∃ j∈ax ks,l=2 * j)∨∃ j,r≤j∧l=2 * j + 1
 | [],_,_,_,h=>by simp [lbs] at h
 | .s :: ks,r,0,l,h=>by simp [lbs] at h
 | .s :: ks,r,i + 1,l,h=>by simp only [lbs,List.getElem?_cons_succ] at h; have:=cx (ks:=ks) h; simpa [ax] using this
 | .m j :: ks,r,0,l,h=>by simp [lbs] at h; exact .inl ⟨j,by simp [ax],h.symm⟩
 | .m j :: ks,r,i + 1,l,h=>by
  simp only [lbs,List.getElem?_cons_succ] at h
  rcases cx h with ⟨z,h1,h2⟩ | h
  ·exact .inl ⟨z,by simp [ax,h1],h2⟩
  ·exact .inr h
 | .t :: ks,r,0,l,h=>by simp [lbs] at h; exact .inr ⟨r,Nat.le_refl _,h.symm⟩
 | .t :: ks,r,i + 1,l,h=>by
  simp only [lbs,List.getElem?_cons_succ] at h
  rcases cx h with ⟨z,h1,h2⟩ | ⟨j,h1,h2⟩
  ·exact .inl ⟨z,by simpa [ax] using h1,h2⟩
  ·exact .inr ⟨j,by omega,h2⟩
theorem eQ:∀ {ks:List AK} {r:Nat},(ax ks).Nodup→∀ (i j l:Nat),(lbs ks r)[i]? = some (some l)→(lbs ks r)[j]? = some (some l)→i=j
 | [],_,_,i,j,l,h,_=>by simp [lbs] at h
 | .s :: ks,r,nd,0,j,l,h,_=>by simp [lbs] at h
 | .s :: ks,r,nd,i + 1,0,l,_,h=>by simp [lbs] at h
 | .s :: ks,r,nd,i + 1,j + 1,l,h,h2=>by simp only [lbs,List.getElem?_cons_succ] at h h2; rw [eQ (ks:=ks) (by simpa [ax] using nd) i j l h h2]
 | .m a :: ks,r,nd,0,0,l,_,_=>rfl
 | .m a :: ks,r,nd,0,j + 1,l,h,h2=>by
  simp only [lbs,List.getElem?_cons_succ] at h2; simp [lbs] at h
  simp only [ax,List.nodup_cons] at nd
  rcases cx h2 with ⟨z,h3,h4⟩ | ⟨z,h3,h4⟩
  ·exact absurd h3 (by rw [show z=a by omega]; exact nd.1)
  ·omega
 | .m a :: ks,r,nd,i + 1,0,l,h2,h=>by
  simp only [lbs,List.getElem?_cons_succ] at h2; simp [lbs] at h
  simp only [ax,List.nodup_cons] at nd
  rcases cx h2 with ⟨z,h3,h4⟩ | ⟨z,h3,h4⟩
  ·exact absurd h3 (by rw [show z=a by omega]; exact nd.1)
  ·omega
 | .m a :: ks,r,nd,i + 1,j + 1,l,h,h2=>by
  simp only [ax,List.nodup_cons] at nd
  simp only [lbs,List.getElem?_cons_succ] at h h2; rw [eQ (ks:=ks) nd.2 i j l h h2]
 | .t :: ks,r,nd,0,0,l,_,_=>rfl
 | .t :: ks,r,nd,0,j + 1,l,h,h2=>by
  simp only [lbs,List.getElem?_cons_succ] at h2; simp [lbs] at h
  rcases cx h2 with ⟨z,h3,h4⟩ | ⟨z,h3,h4⟩ <;> omega
 | .t :: ks,r,nd,i + 1,0,l,h2,h=>by
  simp only [lbs,List.getElem?_cons_succ] at h2; simp [lbs] at h
  rcases cx h2 with ⟨z,h3,h4⟩ | ⟨z,h3,h4⟩ <;> omega
 | .t :: ks,r,nd,i + 1,j + 1,l,h,h2=>by simp only [lbs,List.getElem?_cons_succ] at h h2; rw [eQ (ks:=ks) (by simpa [ax] using nd) i j l h h2]
end
theorem dY {G H:Hp} {O:Own}:∀ {T pd:List (D×V)},bN G H O (T++pd)→bN G H O pd
 | [],_,h=>h
 | _ :: T,_,h=>dY (T:=T) h.2
theorem h7 {G H:Hp} {O:Own}:∀ {T pd:List (D×V)} {j:Nat} {x:D×V},bN G H O (T.reverse++pd)→T[j]? = some x→Sep G H O (2 * (pd.length + j) + 1) x.1 [] x.2
 | [],_,_,_,_,e=>by simp at e
 | y :: T,pd,j,x,h,e=>by
  have h':bN G H O (T.reverse++(y :: pd)):=by simpa using h
  cases j with
  | zero=>simp at e; subst e; exact (dY h').1
  | succ j =>
   have:=h7 (j:=j) h' (by simpa using e)
   rw [show pd.length + (j + 1)=(y :: pd).length + j by simp; omega]
   exact this
theorem gt {G H:Hp} {O:Own} {σ:St} {ρ:DSt}:∀ {ks:List AK} {ds ds':List D} {vs:List V} {T:List (D×V)} {r:Nat},gj G σ ks ds vs T→dc ks ds ρ=some ds' →
 (∀ (j:Nat) x,T[j]? = some x→Sep G H O (2 * (r + j) + 1) x.1 [] x.2)→(∀ i∈ax ks,∀ d,ρ[i]? = some (some d)→∃ v,σ[i]? = some (some v)∧Sep G H O (2 * i) d [] v) →
 ds'.length=vs.length∧vs.length=ks.length∧∀ (k:Nat) d,ds'[k]? = some d→∃ v,vs[k]? = some v∧((∃ l,(lbs ks r)[k]? = some (some l)∧(ks.map AK.isM)[k]? = some true∧Sep G H O l d [] v)∨((ks.map AK.isM)[k]? = some false∧Rep G d v))
 | [],[],ds',[],[],r,_,hf,_,_=>by simp [dc] at hf; subst hf; exact ⟨rfl,rfl,fun k d e=>by simp at e⟩
 | .s :: ks,d :: ds,ds',v :: vs,T,r,h,hf,hT,hS=>by
  rw [dc] at hf
  cases e:dc ks ds ρ with
  | none=>rw [e] at hf; cases hf
  | some es =>
   rw [e] at hf; cases hf
   obtain ⟨l1,l2,ih⟩:=gt (ks:=ks) h.2 e hT (fun i hi=>hS i (by simpa [ax] using hi))
   refine ⟨by simp [l1],by simp [l2],fun k d' e'=>?_⟩
   cases k with
   | zero=>simp at e'; subst e'; exact ⟨v,rfl,.inr ⟨rfl,h.1⟩⟩
   | succ k=>obtain ⟨u,g1,g2⟩:=ih k d' (by simpa using e'); exact ⟨u,by simpa using g1,by simpa [lbs] using g2⟩
 | .m i :: ks,d :: ds,ds',v :: vs,T,r,h,hf,hT,hS=>by
  rw [dc] at hf
  cases e0 : ρ[i]? with
  | none=>rw [e0] at hf; cases hf
  | some o =>
   cases o with
   | none=>rw [e0] at hf; cases hf
   | some d0 =>
    rw [e0] at hf
    dsimp only at hf
    cases e:dc ks ds ρ with
    | none=>rw [e] at hf; cases hf
    | some es =>
     rw [e] at hf; cases hf
     obtain ⟨l1,l2,ih⟩:=gt (ks:=ks) h.2 e hT (fun i hi=>hS i (by simp [ax,hi]))
     refine ⟨by simp [l1],by simp [l2],fun k d' e'=>?_⟩
     cases k with
     | zero =>
      simp at e'; subst e'
      obtain ⟨u,g1,g2⟩:=hS i (by simp [ax]) d0 e0
      rw [h.1] at g1; cases g1
      exact ⟨v,rfl,.inl ⟨2 * i,by simp [lbs],rfl,g2⟩⟩
     | succ k=>obtain ⟨u,g1,g2⟩:=ih k d' (by simpa using e'); exact ⟨u,by simpa using g1,by simpa [lbs] using g2⟩
 | .t :: ks,d :: ds,ds',v :: vs,x :: T,r,h,hf,hT,hS=>by
  rw [dc] at hf
  cases e:dc ks ds ρ with
  | none=>rw [e] at hf; cases hf
  | some es =>
   rw [e] at hf; cases hf
   obtain ⟨l1,l2,ih⟩:=gt (ks:=ks) (r:=r + 1) h.2 e (fun j x e=>by rw [show r + 1 + j=r + (j + 1) by omega]; exact hT (j + 1) x (by simpa using e)) (fun i hi=>hS i (by simpa [ax] using hi))
   refine ⟨by simp [l1],by simp [l2],fun k d' e'=>?_⟩
   cases k with
   | zero =>
    simp at e'; subst e'
    have:=hT 0 x rfl
    rw [h.1] at this
    exact ⟨v,rfl,.inl ⟨2 * r + 1,by simp [lbs],rfl,this⟩⟩
   | succ k=>obtain ⟨u,g1,g2⟩:=ih k d' (by simpa using e'); exact ⟨u,by simpa using g1,by simpa [lbs] using g2⟩
 | [],_ :: _,_,_,_,_,h,_,_,_=>h.elim
 | [],[],_,_ :: _,_,_,h,_,_,_=>h.elim
 | [],[],_,[],_ :: _,_,h,_,_,_=>h.elim
 | .s :: _,[],_,_,_,_,h,_,_,_=>h.elim
 | .s :: _,_ :: _,_,[],_,_,h,_,_,_=>h.elim
 | .m _ :: _,[],_,_,_,_,h,_,_,_=>h.elim
 | .m _ :: _,_ :: _,_,[],_,_,h,_,_,_=>h.elim
 | .t :: _,[],_,_,_,_,h,_,_,_=>h.elim
 | .t :: _,_ :: _,_,[],_,_,h,_,_,_=>h.elim
 | .t :: _,_ :: _,_,_ :: _,[],_,h,_,_,_=>h.elim
theorem dU {G:Hp} {σ:St}:∀ {ks:List AK} {ds:List D} {vs:List V} {T:List (D×V)} {k i:Nat},gj G σ ks ds vs T→ks[k]? = some (.m i)→∃ v,vs[k]? = some v∧σ[i]? = some (some v)
 | [],_,_,_,k,i,_,e=>by simp at e
 | .s :: ks,d :: ds,v :: vs,T,0,i,h,e=>by simp at e
 | .s :: ks,d :: ds,v :: vs,T,k + 1,i,h,e=>by obtain ⟨u,g1,g2⟩:=dU (k:=k) h.2 (by simpa using e); exact ⟨u,by simpa using g1,g2⟩
 | .m j :: ks,d :: ds,v :: vs,T,0,i,h,e=>by simp at e; subst e; exact ⟨v,rfl,h.1⟩
 | .m j :: ks,d :: ds,v :: vs,T,k + 1,i,h,e=>by obtain ⟨u,g1,g2⟩:=dU (k:=k) h.2 (by simpa using e); exact ⟨u,by simpa using g1,g2⟩
 | .t :: ks,d :: ds,v :: vs,x :: T,0,i,h,e=>by simp at e
 | .t :: ks,d :: ds,v :: vs,x :: T,k + 1,i,h,e=>by obtain ⟨u,g1,g2⟩:=dU (k:=k) h.2 (by simpa using e); exact ⟨u,by simpa using g1,g2⟩
 | .s :: _,[],_,_,_,_,h,_=>h.elim
 | .s :: _,_ :: _,[],_,_,_,h,_=>h.elim
 | .m _ :: _,[],_,_,_,_,h,_=>h.elim
 | .m _ :: _,_ :: _,[],_,_,_,h,_=>h.elim
 | .t :: _,[],_,_,_,_,h,_=>h.elim
 | .t :: _,_ :: _,[],_,_,_,h,_=>h.elim
 | .t :: _,_ :: _,_ :: _,[],_,_,h,_=>h.elim
def cb:List AK→DSt→DSt→DSt
 | .m i :: ks,x :: ρ2,ρ=>cb ks ρ2 (ρ.set i x)
 | _ :: ks,_ :: ρ2,ρ=>cb ks ρ2 ρ
 | _,_,ρ=>ρ
def eJ:List AK→DSt→DSt→DSt
 | .s :: ks,os,ρ=>eJ ks os ρ
 | .m i :: ks,o :: os,ρ=>eJ ks os (ρ.set i o)
 | .t :: ks,_ :: os,ρ=>eJ ks os ρ
 | _,_,ρ=>ρ
theorem fZ:∀ {ks:List AK} {ρ2 ρ:DSt},ρ2.length=ks.length→eJ ks (mus (ks.map AK.isM) ρ2) ρ=cb ks ρ2 ρ
 | [],[],ρ,_=>rfl
 | .s :: ks,x :: ρ2,ρ,h=>by simp only [List.map,AK.isM,mus,eJ,cb]; exact fZ (by simpa using h)
 | .m i :: ks,x :: ρ2,ρ,h=>by simp only [List.map,AK.isM,mus,eJ,cb]; exact fZ (by simpa using h)
 | .t :: ks,x :: ρ2,ρ,h=>by simp only [List.map,AK.isM,mus,eJ,cb]; exact fZ (by simpa using h)
theorem e5:∀ {ks:List AK} {ρ2 ρ:DSt},(cb ks ρ2 ρ).length=ρ.length
 | [],_,_=>by simp [cb]
 | .s :: ks,[],_=>by simp [cb]
 | .m i :: ks,[],_=>by simp [cb]
 | .t :: ks,[],_=>by simp [cb]
 | .s :: ks,x :: ρ2,ρ=>by simp only [cb]; exact e5
 | .m i :: ks,x :: ρ2,ρ=>by simp only [cb]; rw [e5]; simp
 | .t :: ks,x :: ρ2,ρ=>by simp only [cb]; exact e5
theorem eZ:∀ {ks:List AK} {ρ2 ρ:DSt} {i:Nat},i ∉ ax ks→(cb ks ρ2 ρ)[i]? = ρ[i]?
 | [],_,_,_,_=>by simp [cb]
 | .s :: ks,[],_,_,_=>by simp [cb]
 | .m i :: ks,[],_,_,_=>by simp [cb]
 | .t :: ks,[],_,_,_=>by simp [cb]
 | .s :: ks,x :: ρ2,ρ,i,h=>by simp only [cb]; exact eZ (by simpa [ax] using h)
 | .t :: ks,x :: ρ2,ρ,i,h=>by simp only [cb]; exact eZ (by simpa [ax] using h)
 | .m j :: ks,x :: ρ2,ρ,i,h=>by
  simp only [cb]
  simp only [ax,List.mem_cons,not_or] at h
  rw [eZ h.2,List.getElem?_set_ne (Ne.symm h.1)]
theorem ez:∀ {ks:List AK} {ρ2 ρ:DSt} {i:Nat} {d:D},(cb ks ρ2 ρ)[i]? = some (some d)→ρ2.length=ks.length→(i ∉ ax ks∧ρ[i]? = some (some d))∨∃ k:Nat,ks[k]? = some (.m i)∧ρ2[k]? = some (some d)
 | [],[],ρ,i,d,h,_=>.inl ⟨by simp [ax],by simpa [cb] using h⟩
 | .s :: ks,x :: ρ2,ρ,i,d,h,hl=>by
  simp only [cb] at h
  rcases ez h (by simpa using hl) with ⟨h1,h2⟩ | ⟨k,h1,h2⟩
  ·exact .inl ⟨by simpa [ax] using h1,h2⟩
  ·exact .inr ⟨k + 1,by simpa using h1,by simpa using h2⟩
 | .t :: ks,x :: ρ2,ρ,i,d,h,hl=>by
  simp only [cb] at h
  rcases ez h (by simpa using hl) with ⟨h1,h2⟩ | ⟨k,h1,h2⟩
  ·exact .inl ⟨by simpa [ax] using h1,h2⟩
  ·exact .inr ⟨k + 1,by simpa using h1,by simpa using h2⟩
 | .m j :: ks,x :: ρ2,ρ,i,d,h,hl=>by
  simp only [cb] at h
  rcases ez h (by simpa using hl) with ⟨h1,h2⟩ | ⟨k,h1,h2⟩
  ·rcases i5 h2 with ⟨rfl,rfl⟩ | ⟨h3,h4⟩
   ·exact .inr ⟨0,rfl,rfl⟩
   ·exact .inl ⟨by simp [ax,h1,h3],h4⟩
  ·exact .inr ⟨k + 1,by simpa using h1,by simpa using h2⟩
theorem kT:∀ {ks:List AK} {r k i:Nat},ks[k]? = some (.m i)→(lbs ks r)[k]? = some (some (2 * i))
 | [],_,_,_,e=>by simp at e
 | .s :: ks,r,0,i,e=>by simp at e
 | .s :: ks,r,k + 1,i,e=>by simp only [lbs,List.getElem?_cons_succ]; exact kT (by simpa using e)
 | .m j :: ks,r,0,i,e=>by simp at e; subst e; simp [lbs]
 | .m j :: ks,r,k + 1,i,e=>by simp only [lbs,List.getElem?_cons_succ]; exact kT (by simpa using e)
 | .t :: ks,r,0,i,e=>by simp at e
 | .t :: ks,r,k + 1,i,e=>by simp only [lbs,List.getElem?_cons_succ]; exact kT (by simpa using e)
theorem eD:∀ {ks:List AK} {r k l:Nat},(lbs ks r)[k]? = some (some l)→(ks.map AK.isM)[k]? = some true
 | [],_,_,_,e=>by simp [lbs] at e
 | .s :: ks,r,0,i,e=>by simp [lbs] at e
 | .s :: ks,r,k + 1,i,e=>by simp only [lbs,List.getElem?_cons_succ] at e; simp only [List.map,List.getElem?_cons_succ]; exact eD e
 | .m j :: ks,r,0,i,e=>rfl
 | .m j :: ks,r,k + 1,i,e=>by simp only [lbs,List.getElem?_cons_succ] at e; simp only [List.map,List.getElem?_cons_succ]; exact eD e
 | .t :: ks,r,0,i,e=>rfl
 | .t :: ks,r,k + 1,i,e=>by simp only [lbs,List.getElem?_cons_succ] at e; simp only [List.map,List.getElem?_cons_succ]; exact eD e
theorem mT {ks:List AK} {k i:Nat} (h:ks[k]? = some (.m i)):i∈ax ks:=by
 induction ks generalizing k with
 | nil=>simp at h
 | cons x ks ih =>
  cases k with
  | zero=>simp at h; subst h; simp [ax]
  | succ k=>have:=ih (by simpa using h); cases x <;> simp [ax,this]
theorem kR {C:Ctx} {ow:List Bool} {G:Hp} {ρ:DSt} {σ:St} {H:Hp} {pd T:List (D×V)} {ks:List AK} {ds ds':List D} {vs:List V} {fr:Bool} {sd:SpD} {q:D→DSt→Prop} {Q:VK} {E:XK}
 (hn:C.np≤pd.length) (r:R C ow G ρ σ H (T.reverse++pd)) (ha:gj G σ ks ds vs T) (hf:dc ks ds ρ=some ds') (nd:(ax ks).Nodup) (hw:∀ i∈ax ks,ow[i]? = some true)
 (h:sd ds' fun d os=>q d (eJ ks os ρ))
 (k:∀ d ρ' v G' H',q d ρ'→aJ G G'→Kp ow ρ ρ'→(if fr=true then R C ow G' ρ' σ H' ((d,v) :: pd) else R C ow G' ρ' σ H' pd∧Rep G' d v)→Q v H'):bb (ks.map AK.isM) fr sd vs H Q E:=by
 obtain ⟨O,ro⟩:=r
 have pn:=ro.pn
 obtain ⟨l1,l2,hat⟩:=gt (O:=O) (H:=H) (r:=pd.length) ha hf (fun j x e=>h7 pn e) (fun i hi d e=>by
  obtain ⟨v,h1,h2⟩:=ro.sl i d e; rw [if_pos (hw i hi)] at h2; exact ⟨v,h1,h2⟩)
 let lb:=lbs ks pd.length
 let fin:Nat→Option Nat:=fun l=>(fnd l lb 0).map (2 * ·)
 let fbk:Nat→Option Nat:=fun l=>if l=1 then some (2 * pd.length + 1) else if l % 2=0 then (match lb[l / 2]? with | some o=>o | none=>none) else none
 have uq:=eQ (ks:=ks) (r:=pd.length) nd
 have fin_at:∀ (i l:Nat),lb[i]? = some (some l)→fin l=some (2 * i):=fun i l e=>by
  show (fnd l lb 0).map _=_
  rw [lV uq e]; simp
 have fin_of:∀ l l',fin l=some l'→∃ i,l'=2 * i∧lb[i]? = some (some l):=fun l l' e=>by
  change (fnd l lb 0).map _=_ at e
  cases z:fnd l lb 0 with
  | none=>rw [z] at e; cases e
  | some j=>rw [z] at e; cases e; obtain ⟨i,rfl,e2⟩:=lZ z; exact ⟨i,by show 2 * (0 + i)=2 * i; omega,e2⟩
 have fin_none:∀ l,(∀ i:Nat,lb[i]?≠some (some l))→fin l=none:=fun l e=>by
  show (fnd l lb 0).map _=_
  rw [iw e]; rfl
 have ri:=ro.into (mu:=ks.map AK.isM) (fin:=fin) (ds:=ds') (vs:=vs) l1 (fun j d e=>by
  obtain ⟨v,h1,h2⟩:=hat j d e
  refine ⟨v,h1,?_⟩
  rcases h2 with ⟨l,h2,h3,h4⟩ | ⟨h2,h3⟩
  ·rw [if_pos h3]; exact ⟨l,h4,fin_at j l h2⟩
  ·rw [if_neg (by rw [h2]; decide)]; exact h3) (fun l l' e=>by
  obtain ⟨i,rfl,e2⟩:=fin_of l l' e
  exact ⟨i,rfl,eD e2,by have:=(List.getElem?_eq_some_iff.mp (eD e2)).1; rw [List.length_map] at this; omega⟩)
 refine ⟨_,G,ds',fun d os=>q d (eJ ks os ρ),rfl,rfl,⟨_,ri⟩,h,by rw [List.length_map,l1,l2],?_⟩
 intro d ρ2 σ2 v G2 H2 hq z hl hr
 rw [List.length_map] at hl
 rw [fZ hl] at hq
 have out:∀ (pd2 pd3:List (D×V)) (O2:Own),RO ⟨G,H,c9 fin O,msV (ks.map AK.isM) vs,0⟩ (ks.map AK.isM) G2 ρ2 σ2 H2 pd2 O2→C.np≤pd3.length →
  (∀ (O3:Own),(∀ a l π,O a=some (l,π)→fin l=none→O3 a=some (l,π)∧H2 a=H a)→(∀ a l l' π,O2 a=some (l',π)→fbk l'=some l→O3 a=some (l,π))→bY G G2→bN G2 H2 O3 pd3) →
  RO C ow G2 (cb ks ρ2 ρ) σ H2 pd3 (nY fin fbk O O2):=fun pd2 pd3 O2 r2 hn3 hP=>by
  refine ro.out (vs:=vs) r2 ?_ (by rw [e5]; exact ro.len) hn3 ?_ ?_ hP
  ·intro l0 l' l e1 e2
   obtain ⟨i,rfl,e3⟩:=fin_of l0 l' e1
   change (if 2 * i=1 then _ else if 2 * i % 2=0 then _ else _)=_ at e2
   rw [if_neg (by omega),if_pos (by omega),show 2 * i / 2=i by omega,e3] at e2
   exact (Option.some.inj e2).symm
  ·intro i d c e
   rcases ez e hl with ⟨_,h2⟩ | ⟨k,h1,_⟩
   ·exact h2
   ·exact absurd (hw i (mT h1)) c
  ·intro i d c e
   rcases ez e hl with ⟨h1,h2⟩ | ⟨j,h1,h2⟩
   ·refine .inl ⟨fin_none _ fun j e=>?_,h2⟩
    rcases cx e with ⟨z,h3,h4⟩ | ⟨z,h3,h4⟩
    ·exact h1 (by rw [show i=z by omega]; exact h3)
    ·omega
   ·obtain ⟨u,g1,g2⟩:=dU ha h1
    have im:(ks.map AK.isM)[j]? = some true:=by rw [List.getElem?_map,h1]; rfl
    refine .inr ⟨j,u,?_,im,h2,g2,r2.mp j u (kC im g1)⟩
    show (if 2 * j=1 then _ else if 2 * j % 2=0 then _ else _)=_
    rw [if_neg (by omega),if_pos (by omega),show 2 * j / 2=j by omega,kT h1]
 have pdk:∀ (O3:Own),(∀ a l π,O a=some (l,π)→fin l=none→O3 a=some (l,π)∧H2 a=H a)→bY G G2→bN G2 H2 O3 pd:=fun O3 h1 ts =>
  bN.keep ts (fun a j π hj e=>h1 a _ _ e (fin_none _ fun i e=>by
   rcases cx e with ⟨z,h3,h4⟩ | ⟨z,h3,h4⟩ <;> omega)) (dY (T:=T.reverse) pn)
 have kp:Kp ow ρ (cb ks ρ2 ρ):=fun j hj=>eZ fun hs=>hj (hw j hs)
 refine k d (cb ks ρ2 ρ) v G2 H2 hq z kp ?_
 unfold Ret at hr
 split at hr
 ·rename_i c
  rw [if_pos c]
  obtain ⟨O2,r2⟩:=hr
  refine ⟨_,out _ ((d,v) :: pd) O2 r2 (Nat.le_succ_of_le hn) fun O3 h1 h2 ts=>⟨?_,pdk O3 h1 ts⟩⟩
  exact r2.pn.1.keep (fun _ _ z=>z) fun a τ e=>⟨h2 a _ _ _ e (by show (if 2 * 0 + 1=1 then _ else _)=_; rw [if_pos rfl]),rfl⟩
 ·rename_i c
  rw [if_neg c]
  obtain ⟨⟨O2,r2⟩,p⟩:=hr
  exact ⟨⟨_,out _ pd O2 r2 hn fun O3 h1 h2 ts=>pdk O3 h1 ts⟩,p⟩
section
variable {X:Cx} {ow:List Bool} {a b c e tg:Expr} {ma mb mc:ME} {pos p':Pos} {mr:MA} {es:List Expr} {ks:List AK} {x:Str}
def m_ (ks:List AK) (sd:SpD) (m:MA):ME:=fun ρ q=>m ρ fun ds ρ1=>match dc ks ds ρ1 with
 | some ds'=>sd ds' fun d os=>q d (eJ ks os ρ1)
 | none=>False
theorem ul {k:Nat} {f:Addr} {fd:FuncData} {ps:List Str} {mu:List Bool} {sd:SpD} (F:FnOk X.prog X.w X.K X.mg X.base CX0 k f fd ps (bb mu false sd)) (hr:Room k X.A) (hg:Gl X x) (hm:X.mg x=some (.ref f)) (hk:PySem.W.keepIn X.K (.ref f)=true) (hb:cw X.K fd ps [])
 (ha:QAk X ow ks (e :: es) mr) (hmu:mu=ks.map AK.isM:=by rfl) (nd:(ax ks).Nodup:=by decide) (hw:∀ i∈ax ks,ow[i]? = some true:=by decide) (hdb:(x == ("__debug__":Str))=false:=by decide)
 (he:starEach (e :: es) X.env=(false,eval e X.env) :: starEach es X.env:=by rfl) (hpl:(backTo pos (starEach es X.env)).any (·.1)=false:=by rfl):QE X ow (.Call (.Name x p') (e :: es) [] pos) (m_ ks sd mr):=by
 obtain ⟨t,p,s⟩:=ha
 subst hmu
 refine ⟨_,nJ F hr hg hm hk hb .nil uL p hdb he hpl,fun C G ρ σ H pd q Q r hm k=>s C G ρ σ H pd _ _ r hm fun ds ρ' vs T G' H' hq z kp r' p=>?_⟩
 rw [List.append_nil]
 split at hq
 ·rename_i ds' ef
  exact kR (fr:=false) r.np r' p ef nd hw hq fun d ρ2 v G2 H2 hq2 z2 kp2 h2=>by
   rw [if_neg (by decide)] at h2
   exact k d ρ2 v G2 H2 hq2 (z.trans z2) (kp.trans kp2) h2.1 h2.2
 ·exact hq.elim
theorem s_ {k:Nat} {f:Addr} {fd:FuncData} {ps:List Str} {mu:List Bool} {sd:SpD} (F:FnOk X.prog X.w X.K X.mg X.base CX0 k f fd ps (bb mu true sd)) (hr:Room k X.A) (hg:Gl X x) (hm:X.mg x=some (.ref f)) (hk:PySem.W.keepIn X.K (.ref f)=true) (hb:cw X.K fd ps [])
 (ha:QAk X ow ks (e :: es) mr) (hmu:mu=ks.map AK.isM:=by rfl) (nd:(ax ks).Nodup:=by decide) (hw:∀ i∈ax ks,ow[i]? = some true:=by decide) (hdb:(x == ("__debug__":Str))=false:=by decide)
 (he:starEach (e :: es) X.env=(false,eval e X.env) :: starEach es X.env:=by rfl) (hpl:(backTo pos (starEach es X.env)).any (·.1)=false:=by rfl):QF X ow (.Call (.Name x p') (e :: es) [] pos) (m_ ks sd mr):=by
 obtain ⟨t,p,s⟩:=ha
 subst hmu
 refine ⟨_,nJ F hr hg hm hk hb .nil uL p hdb he hpl,fun C G ρ σ H pd q Q r hm k=>s C G ρ σ H pd _ _ r hm fun ds ρ' vs T G' H' hq z kp r' p=>?_⟩
 rw [List.append_nil]
 split at hq
 ·rename_i ds' ef
  exact kR (fr:=true) r.np r' p ef nd hw hq fun d ρ2 v G2 H2 hq2 z2 kp2 h2=>by
   rw [if_pos rfl] at h2
   exact k d ρ2 v G2 H2 hq2 (z.trans z2) (kp.trans kp2) h2
 ·exact hq.elim
end
theorem RO.grow {C:Ctx} {mu ow:List Bool} {G:Hp} {ds:List D} {vs:List V} {H:Hp} {O:Own} (n:Nat) (h:RO C mu G (ds.map some) (vs.map some) H [] O) (ho:∀ i:Nat,i<ds.length→ow[i]? = mu[i]?) :
 RO C ow G (ds.map some++List.replicate n none) (vs.map some++List.replicate n none) H [] O:=by
 have hl:ds.length=vs.length:=by simpa using h.len
 have up:∀ {α:Type} {l:List α} {i:Nat} {d : α},(l.map some++List.replicate n none)[i]? = some (some d)→i<l.length∧(l.map some)[i]? = some (some d):=fun {α l i d} e=>by
  by_cases c:i<l.length
  ·rw [List.getElem?_append_left (by simpa using c)] at e; exact ⟨c,e⟩
  ·rw [List.getElem?_append_right (by simpa using c)] at e
   rw [List.getElem?_replicate] at e
   split at e <;> cases e
 refine ⟨by simp [hl],h.gh,h.g0,h.gn,h.og,h.cok,h.fr,h.ft,h.al,?_,?_,h.pn,h.np⟩
 ·intro i v e
  have:=h.mp i v e
  rw [List.getElem?_append_left (eH this)]; exact this
 ·intro i d e
  obtain ⟨c,e1⟩:=up e
  obtain ⟨v,h1,h2⟩:=h.sl i d e1
  exact ⟨v,by rw [List.getElem?_append_left (eH h1)]; exact h1,by rw [ho i c]; exact h2⟩
theorem RO.trim {C:Ctx} {mu ow:List Bool} {G:Hp} {ρ:DSt} {σ:St} {H:Hp} {pd:List (D×V)} {O:Own} (h:RO C ow G ρ σ H pd O) (hm:gr C mu) (ho:∀ i:Nat,i<mu.length→ow[i]? = mu[i]?) :
 RO C mu G (cj mu.length ρ) (cj mu.length σ) H pd O:=by
 refine ⟨by rw [cu,cu],h.gh,h.g0,h.gn,h.og,h.cok,h.fr,h.ft,h.al,?_,?_,h.pn,h.np⟩
 ·intro i v e
  exact j5 (lt_of_slot' (hm i v e)) (h.mp i v e)
 ·intro i d e
  obtain ⟨c,e1⟩:=kL e
  obtain ⟨v,h1,h2⟩:=h.sl i d e1
  exact ⟨v,j5 c h1,by rw [← ho i c]; exact h2⟩
where
 lt_of_slot' {l:List Bool} {i:Nat} {x:Bool} (h:l[i]? = some x):i<l.length:=(List.getElem?_eq_some_iff.mp h).1
def i_ (mu:List Bool) (q:D→DSt→Prop):EndsD:=⟨fun ρ=>q .non (mus mu ρ),fun d ρ=>q d (mus mu ρ),fun _=>False,fun _=>False⟩
theorem fnD {P:Program} {w:World} {K:PySem.W.Frag} {mg:Str→Option Value} {base:Heap} {x qual:Str} {st:Stmt} {f:Addr} {fd:FuncData} {N ps:List Str} {k:Nat} (F:Fun K x qual st f fd) (S:FnScope N ps (ah st)) (M:Md) (sd:SpD)
 (hl:∀ ds q,sd ds q→ds.length=ps.length) (ho:M.ow.take ps.length=M.mu) (hml:M.mu.length=ps.length)
 (hbody:∀ (cdv:Value) (A:Around) (outer:List Env) (s:Shared) (H:Hp) (E:XK),Room k (A.deeper (envOfC qual (ah st) s.heap.objs.size f cdv)) →
  ∃ m,QSs (ix CX0 P w K mg base N qual (ah st) f cdv A outer s H E).nox M (cf st) m∧∀ ds q,sd ds q→m (i_ M.mu q) (ds.map some++List.replicate (N.length - ps.length) none)) :
 FnOk P w K mg base CX0 (k + 1) f fd ps (bb M.mu M.fr sd):=by
 have hov:∀ i:Nat,i<M.mu.length→M.ow[i]? = M.mu[i]?:=fun i hi=>by rw [← ho,List.getElem?_take_of_lt (by omega)]
 have hlen:∀ vs H Q E,bb M.mu M.fr sd vs H Q E→vs.length=ps.length:=fun vs H Q E ⟨C,G,ds,q,_,_,⟨O,ro⟩,h1,_,_⟩=>by
  have:=ro.len; simp at this; rw [← this]; exact hl ds q h1
 refine F.ok S hlen fun cdv A outer s H vs Q E hr hsp=>?_
 obtain ⟨m,⟨t,p,ss⟩,hm⟩:=hbody cdv A outer s H E hr
 have hvl:=hlen vs H Q E hsp
 obtain ⟨C,G,ds,q,hnp,hmu,⟨O,ro⟩,hsd,hml2,kk⟩:=hsp
 refine ⟨t,p,?_⟩
 have hmo:gr C M.mu:=fun i v e=>by rw [hmu] at e; exact (km e).1
 have r0:R C M.ow G (ds.map some++List.replicate (N.length - ps.length) none) (d8 N vs) H []:=by
  unfold d8; rw [hvl]
  exact ⟨O,ro.grow _ fun i hi=>hov i (by omega)⟩
 refine ss C G _ _ H (i_ M.mu q) _ hmo hnp r0 (hm ds q hsd) ⟨?_,fun _ _ _ _ h=>h.elim,fun _ _ _ _ h=>h.elim,?_⟩
 ·intro ρ σ G' H' h z ⟨O',r'⟩
  refine kk .non (cj M.mu.length ρ) (cj M.mu.length σ) .non G' H' (by rw [cD]; exact h) z (cu _ _) (R.non ⟨O',r'.trim hmo hov⟩)
 ·intro d ρ σ v G' H' h z hr'
  refine kk d (cj M.mu.length ρ) (cj M.mu.length σ) v G' H' (by rw [cD]; exact h) z (cu _ _) ?_
  unfold Ret at hr' ⊢
  split at hr'
  ·rename_i c; rw [if_pos c]; obtain ⟨O',r'⟩:=hr'; exact ⟨O',r'.trim hmo hov⟩
  ·rename_i c; rw [if_neg c]; obtain ⟨⟨O',r'⟩,p⟩:=hr'; exact ⟨⟨O',r'.trim hmo hov⟩,p⟩
theorem Seps.mk {G H:Hp} {O:Own} {i:Nat}:∀ {T:List (D×V)} {k:Nat} {π:List Nat},(∀ (j:Nat) x,T[j]? = some x→Sep G H O i x.1 ((k + j) :: π) x.2)→Seps G H O i (T.map (·.1)) k π (T.map (·.2))
 | [],_,_,_=>by simp; rw [Seps]
 | x :: T,k,π,h=>by
  simp only [List.map]; rw [Seps]
  exact ⟨x.2,_,rfl,by simpa using h 0 x rfl,Seps.mk fun j y e=>by rw [show k + 1 + j=k + (j + 1) by omega]; exact h (j + 1) y (by simpa using e)⟩
section
variable {C:Ctx} {ow:List Bool} {G:Hp} {ρ:DSt} {σ:St} {H:Hp} {pd T:List (D×V)} {O:Own}
theorem RO.gather (h:RO C ow G ρ σ H (T.reverse++pd) O) (hn:C.np≤pd.length):∃ O',RO C ow G ρ σ H pd O'∧Seps G H O' (2 * pd.length + 1) (T.map (·.1)) 0 [] (T.map (·.2)):=by
 refine ⟨lab (fun l π=>if l % 2=1∧pd.length≤l / 2 then (2 * pd.length + 1,π++[l / 2 - pd.length]) else (l,π)) O,⟨h.len,h.gh,h.g0,h.gn,?_,h.cok,h.fr,h.ft,h.al,h.mp,?_,?_,hn⟩,?_⟩
 ·intro a m e
  obtain ⟨l,π,e1,rfl⟩:=gP e
  obtain ⟨q1,q2,q3⟩:=h.og a _ e1
  refine ⟨q1,q2,?_⟩
  split
  ·rename_i z
   rcases q3 with q3 | ⟨_,q3⟩
   ·exact .inl q3
   ·rcases h.cok _ _ _ q3 with ⟨k,_,q4,_⟩ | ⟨k,q4,q5⟩
    ·omega
    ·omega
  ·exact q3
 ·intro j e q
  obtain ⟨u,h1,h2⟩:=h.sl j e q
  refine ⟨u,h1,?_⟩
  split at h2
  ·rename_i c; rw [if_pos c]; exact h2.keep (fun _ _ z=>z) fun a τ q=>⟨by rw [bB q,if_neg (by omega)],rfl⟩
  ·rename_i c; rw [if_neg c]; exact h2
 ·exact bN.keep (fun _ _ z=>z) (fun a j π hj q=>⟨by rw [bB q,if_neg (by omega)],rfl⟩) (dY (T:=T.reverse) h.pn)
 ·refine Seps.mk fun j x e=>?_
  have:=h7 h.pn e
  refine Sep.map (f:=fun π=>π++[0 + j]) (fun _ _ z=>z) (fun _ _=>rfl) x.1 [] x.2 (fun a τ q=>⟨?_,rfl⟩) this
  rw [bB q,if_pos (by omega)]
  rw [show (2 * (pd.length + j) + 1) / 2 - pd.length=0 + j by omega]
theorem RO.newT (h:RO C ow G ρ σ H pd O) {p:Addr} (hp:H p=none) {ds:List D} {vs:List V} (hs:Seps G H O (2 * pd.length + 1) ds 0 [] vs):R C ow (upd G p (.tup vs)) ρ σ (upd H p (.tup vs)) ((.tup ds,.ref p) :: pd)∧aJ G (upd G p (.tup vs)):=by
 obtain ⟨r,z⟩:=h.new hp (.tup vs)
 refine ⟨⟨O,r.len,r.gh,r.g0,r.gn,r.og,r.cok,r.fr,r.ft,r.al,r.mp,r.sl,⟨?_,r.pn⟩,Nat.le_succ_of_le r.np⟩,z⟩
 rw [Sep]
 exact ⟨p,vs,rfl,av,hs.keep z.ts fun a τ _ q=>⟨q,aq (fun e=>by obtain ⟨_,⟨xs,w⟩,_⟩:=h.og a _ q; rw [e,hp] at w; cases w)⟩⟩
theorem RO.newS (h:RO C ow G ρ σ H pd O) {p:Addr} (hp:H p=none) {ds:List D} {vs:List V} (hs:Seps G H O (2 * pd.length + 1) ds 0 [] vs):R C ow G ρ σ (upd H p (.lst vs)) ((.lst ds,.ref p) :: pd):=by
 have gp:G p=none:=by
  cases e:G p with
  | none=>rfl
  | some z=>rw [h.gh _ _ e] at hp; cases hp
 have ne:∀ a l,O a=some l→a≠p:=fun a l e z=>by
  obtain ⟨_,⟨xs,q⟩,_⟩:=h.og a l e
  rw [z,hp] at q; cases q
 let O':Own:=fun a=>if a=p then some (2 * pd.length + 1,[]) else O a
 have old:∀ a l,O a=some l→O' a=some l:=fun a l e=>by
  show (if a=p then _ else _)=_
  rw [if_neg (ne a _ e),e]
 refine ⟨O',h.len,?_,h.g0,h.gn,?_,h.cok,?_,?_,?_,h.mp,?_,⟨?_,?_⟩,Nat.le_succ_of_le h.np⟩
 ·intro a u e
  rw [aq (fun z=>by rw [z,gp] at e; cases e)]
  exact h.gh _ _ e
 ·intro a l e
  by_cases z:a=p
  ·subst z; exact ⟨gp,⟨.inl vs,av⟩,.inl (h.al _ hp)⟩
  ·rw [aq z]
   change (if a=p then _ else _)=_ at e
   rw [if_neg z] at e
   exact h.og a _ e
 ·intro a u e n t
  rw [aq (aD (h.fr a u e n t) hp)]
  exact h.fr a u e n t
 ·intro a ps q e
  by_cases z:a=p
  ·subst z; rw [av] at e; cases e
  ·rw [aq z] at e; exact h.ft a ps q e
 ·intro a e
  by_cases z:a=p
  ·subst z; rw [av] at e; cases e
  ·rw [aq z] at e; exact h.al a e
 ·intro i d e
  obtain ⟨v,h1,h2⟩:=h.sl i d e
  refine ⟨v,h1,?_⟩
  split at h2
  ·rename_i c; rw [if_pos c]; exact h2.keep (fun _ _ z=>z) fun a τ q=>⟨old a _ q,aq (ne a _ q)⟩
  ·rename_i c; rw [if_neg c]; exact h2
 ·rw [Sep]
  exact ⟨p,vs,rfl,by show (if p=p then _ else _)=_; rw [if_pos rfl],av,hs.keep (fun _ _ z=>z) fun a τ _ q=>⟨old a _ q,aq (ne a _ q)⟩⟩
 ·exact bN.keep (fun _ _ z=>z) (fun a j π hj q=>⟨old a _ q,aq (ne a _ q)⟩) h.pn
end
def SFm (M:Md) (t:TE) (m:ME):Prop:=∀ (C:Ctx) (G:Hp) (ρ:DSt) (σ:St) (H:Hp) (pd:List (D×V)) (q:D→DSt→Prop) (Q:VK),gr C M.mu→R C M.ow G ρ σ H pd→m ρ q →
 (∀ d ρ' v G' H',q d ρ'→aJ G G'→R C M.ow G' ρ' σ H' ((d,v) :: pd)→Q v H')→t σ H Q
structure QM (X:Cx) (M:Md) (e:Expr) (m:ME):Prop where
 ex:∃ t,PE X e t∧SFm M t m
def SAm (M:Md) (n:Nat) (t:TA) (m:MA):Prop:=∀ (C:Ctx) (G:Hp) (ρ:DSt) (σ:St) (H:Hp) (pd:List (D×V)) (q:List D→DSt→Prop) (Q:List V→Hp→Prop),gr C M.mu→R C M.ow G ρ σ H pd→m ρ q →
 (∀ (T:List (D×V)) ρ' G' H',q (T.map (·.1)) ρ'→aJ G G'→R C M.ow G' ρ' σ H' (T.reverse++pd)→T.length=n→Q (T.map (·.2)) H')→t σ H Q
structure QMs (X:Cx) (M:Md) (es:List Expr) (m:MA):Prop where
 ex:∃ t,PA X es t∧SAm M es.length t m
section
variable {X:Cx} {M:Md} {a b c e:Expr} {ma mb mc:ME} {pos pos':Pos} {mr:MA} {es:List Expr}
theorem QF.qm (h:QF X M.ow e ma):QM X M e ma:=by
 obtain ⟨t,p,s⟩:=h
 exact ⟨_,p,fun C G ρ σ H pd q Q hm r h k=>s C G ρ σ H pd q Q r h fun d ρ' v G' H' hq z kp r'=>k d ρ' v G' H' hq z r'⟩
theorem fj (i:Nat) {x:Str} (ho:M.ow[i]? = some true:=by decide) (hu:M.mu[i]?≠some true:=by decide) (hN:X.N[i]? = some x:=by rfl) (hv:Vis X.env.scope x:=by first | exact Or.inl rfl | exact Or.inr (Or.inl rfl) | exact Or.inr (Or.inr rfl)) (hd:(x == ("__debug__":Str))=false:=by decide)
 (hcd:(x == ("__classdict__":Str))=false:=by decide):QM X M (.Name x pos) (uA i):=⟨_,eO hN hv hd hcd,fun C G ρ σ H pd q Q hm r h k=>by
 unfold uA at h
 split at h
 ·rename_i d e
  obtain ⟨O,ro⟩:=r
  obtain ⟨v,h1,h2⟩:=ro.move e ho (hm.no hu)
  exact ⟨v,h1,k d _ v G H h (aJ.refl _) h2⟩
 ·exact h.elim⟩
theorem ig:QMs X M [] n4:=⟨_,cq,fun C G ρ σ H pd q Q hm r h k=>k [] ρ G H h (aJ.refl _) r rfl⟩
theorem bG (ha:QM X M e ma) (hr:QMs X M es mr) (hs:starEach (e :: es) X.env=(false,eval e X.env) :: starEach es X.env:=by rfl):QMs X M (e :: es) (ge ma mr):=by
 obtain ⟨t,p,s⟩:=ha; obtain ⟨t2,p2,s2⟩:=hr
 refine ⟨_,a6 p p2 hs,fun C G ρ σ H pd q Q hm r h k=>s C G ρ σ H pd _ _ hm r h fun d ρ' v G' H' hq z r'=>?_⟩
 exact s2 C G' ρ' σ H' _ _ _ hm r' hq fun T ρ2 G2 H2 hq2 z2 r2 hn=>k ((d,v) :: T) ρ2 G2 H2 hq2 (z.trans z2) (by simpa using r2) (by simp [hn])
theorem jW {x1} (h:QMs X M es mr) (hl:es.length≤1000:=by decide):QM X M (.Tuple es x1 pos) (mTup mr):=by
 obtain ⟨t,p,s⟩:=h
 refine ⟨_,rb p,fun C G ρ σ H pd q Q hm r h k=>s C G ρ σ H pd _ _ hm r h fun T ρ' G' H' hq z r' hn=>⟨dz (by simp; omega),fun a ha=>?_⟩⟩
 obtain ⟨O,r'⟩:=r'
 obtain ⟨O2,r2,s2⟩:=r'.gather r.np
 obtain ⟨r3,z3⟩:=r2.newT ha s2
 exact k _ ρ' _ _ _ hq (z.trans z3) r3
theorem u7 (h:QMs X M es mr) (hl:es.length≤1000:=by decide):QM X M (.List es pos) (mLst mr):=by
 obtain ⟨t,p,s⟩:=h
 refine ⟨_,l4 p,fun C G ρ σ H pd q Q hm r h k=>s C G ρ σ H pd _ _ hm r h fun T ρ' G' H' hq z r' hn=>⟨dz (by simp; omega),fun a ha=>?_⟩⟩
 obtain ⟨O,r'⟩:=r'
 obtain ⟨O2,r2,s2⟩:=r'.gather r.np
 exact k _ ρ' _ _ _ hq z (r2.newS ha s2)
theorem bD (h:QM X M e ma) (hf:M.fr=true:=by rfl):QS X M (.Return (some e) pos) (mRet ma):=by
 obtain ⟨t,p,s⟩:=h
 refine ⟨_,rn p,fun C G ρ σ H n D hm hn r h k=>s C G ρ σ H [] _ _ hm r h fun d ρ' v G' H' hq z r'=>k.rt d ρ' σ v G' H' hq z (by unfold Ret; rw [if_pos hf]; exact r')⟩
theorem t9 {i:Nat} {x:Str} (hN:X.N.Nodup) (hi:X.N[i]? = some x) (hx:Loc X.env.scope x) (he:QM X M e ma) (ho:M.ow[i]? = some true:=by decide) (hu:M.mu[i]?≠some true:=by decide) (hs:swapsWith e (some (.Name x pos')) pos.line X.env=pure false:=by rfl) (hf:X.fn x=true∨X.env.scope.names.lookup x=some .local:=by first | exact .inl rfl | exact .inr rfl | assumption) :
 QS X M (.Assign [.Name x pos'] e pos) (mx i ma):=by
 obtain ⟨t,p,s⟩:=he
 refine ⟨_,gO hN hi hx p hs hf,fun C G ρ σ H n D hm hn r h k=>s C G ρ σ H [] _ _ hm r h fun d ρ' v G' H' hq z r'=>?_⟩
 obtain ⟨O,r'⟩:=r'
 exact k.nx _ _ G' H' hq z (r'.setO ho (hm.no hu) (by rw [hn]; exact Nat.zero_le _))
end
def lG (g:MG) (mt:MT) (me:ME) (ρ0:DSt) (ds:List D) (K:List D→Prop):Prop:=∃ I:Nat→List D→Prop,I 0 [] ∧
 (∀ i d es,ds[i]? = some d→I i es→g d ρ0 fun ρ2=>mt ρ2 fun b ρ3=>if b=true then me ρ3 fun x _=>I (i + 1) (es++[x]) else I (i + 1) es)∧∀ es,I ds.length es→K es
def kF (k:Nat) (js:List Nat) (ρ:DSt):DSt:=List.replicate k none++js.map fun j=>(ρ[j]?).getD none
def uE (mi:MA) (g:MG) (mt:MT) (me:ME) (k:Nat) (js:List Nat):ME:=fun ρ q=>mi ρ fun ds ρ1=>ds.length≤1000∧lG g mt me (kF k js ρ1) ds fun es=>imms es=true∧q (.lst es) ρ1
def lO (mi:MA) (g:MG) (mt:MT) (me:ME) (k:Nat) (js:List Nat):ME:=fun ρ q=>mi ρ fun ds ρ1=>ds.length≤1000∧lG g mt me (kF k js ρ1) ds fun es=>q (.lst es) ρ1
structure QIf (X:Cx) (ow:List Bool) (ifs:List Expr) (m:MT):Prop where
 ex:∃ t,PIf X ifs t∧STe ow t m
theorem fh {X:Cx} {ow:List Bool}:QIf X ow [] (mYes true):=⟨_,tO,qT true⟩
theorem nr {X:Cx} {ow:List Bool} {c:Expr} {mt:MT} (h:QT X ow c mt):QIf X ow [c] mt:=by obtain ⟨t,p,s⟩:=h; exact ⟨_,sV p,s⟩
section
variable {C:Ctx} {ow:List Bool} {G:Hp} {ρ:DSt} {σ:St} {H:Hp} {pd:List (D×V)} {O:Own}
theorem RO.inner (h:RO C ow G ρ σ H pd O) (own:List Str) (js:List Nat) (hj:∀ j∈js,ow[j]?≠some true) :
 RO ⟨G,H,c9 (fun _=>none) O,[],0⟩ [] G (kF own.length js ρ) (du own js σ) H [] (c9 (fun _=>none) O):=by
 have no:∀ a,c9 (fun _=>none) O a=none:=fun a=>by unfold c9; cases O a <;> rfl
 refine ⟨by simp [kF,du],h.gh,fun _ _ e=>e,fun _ _ e=>.inl e,fun a l e=>?_,fun a l π e=>?_,fun _ _ e _ _=>e,h.ft,fun _ e=>e,fun i v e=>by simp at e,?_,trivial,Nat.le_refl _⟩
 ·rw [no] at e; cases e
 ·exact absurd (e.symm.trans (no a)) (by simp)
 ·intro i d e
  unfold kF at e
  by_cases c:i<own.length
  ·rw [List.getElem?_append_left (by simpa using c),List.getElem?_replicate] at e
   split at e <;> cases e
  ·rw [List.getElem?_append_right (by simpa using c),List.getElem?_map] at e
   simp only [List.length_replicate] at e
   cases z:js[i - own.length]? with
   | none=>rw [z] at e; cases e
   | some j =>
    rw [z] at e
    have e':(ρ[j]?).getD none=some d:=Option.some.inj e
    have e2 : ρ[j]? = some (some d):=by
     cases w : ρ[j]? with
     | none=>rw [w] at e'; cases e'
     | some o=>rw [w] at e'; exact congrArg some e'
    obtain ⟨v,h1,h2⟩:=h.sl j d e2
    rw [if_neg (hj j (List.mem_of_getElem? z))] at h2
    refine ⟨v,?_,by simpa using h2⟩
    unfold du
    rw [List.getElem?_append_right (by simpa using c),List.getElem?_map]
    simp only [List.length_map]
    rw [z,show (some j).map _=some ((σ[j]?).getD none) from rfl,h1]; rfl
end
theorem RO.back {C:Ctx} {ow:List Bool} {G G':Hp} {ρ0 ρ2:DSt} {σ0 σ2:St} {H H':Hp} {pd:List (D×V)} {O O':Own} (h0:RO C ow G ρ0 σ0 H pd O) (hn:∀ i:Nat,ow[i]?≠some true) (h:RO C ow G' ρ2 σ2 H' pd O') (z:aJ G G'):RO C ow G' ρ0 σ0 H' pd O' :=
 ⟨h0.len,h.gh,h.g0,h.gn,h.og,h.cok,h.fr,h.ft,h.al,h0.mp,fun i d e=>by
  obtain ⟨v,h1,h2⟩:=h0.sl i d e
  rw [if_neg (hn i)] at h2
  exact ⟨v,h1,by rw [if_neg (hn i)]; exact h2.mono z⟩,h.pn,h.np⟩
theorem ja {ow:List Bool} {J:It} {g:TG} {mg:MG} {tt:TT} {mt:MT} {te:TE} {me:ME} {C:Ctx} {G:Hp} {ρ:DSt} {σ:St} {H:Hp} {pd:List (D×V)} {ds:List D} {own:List Str} {js:List Nat} {K:List D→Prop} {Z:List V→Hp→Prop}
 (r:R C ow G ρ σ H pd) (hj:∀ j∈js,ow[j]?≠some true) (jo:rB J G ds) (sg:SG ⟨[],[],false⟩ g mg) (st:STe [] tt mt) (se:SE [] te me) (hk:∀ x H k,g x (du own js σ) H k→g x (du own js σ) H fun σ2 H2=>kept (du own js σ) σ2∧k σ2 H2)
 (hl:ds.length≤1000) (h:lG mg mt me (kF own.length js ρ) ds K)
 (k:∀ es vs G' H',K es→aJ G G'→R C ow G' ρ σ H' pd→Reps G' es vs→vs.length≤1000→Z vs H'):qQ J g tt te (du own js σ) H Z:=by
 obtain ⟨O,ro⟩:=r
 have ri:=ro.inner own js hj
 obtain ⟨I,i0,turn,fin⟩:=h
 have nt:∀ i:Nat,([]:List Bool)[i]?≠some true:=fun i=>by simp
 let C1:Ctx:=⟨G,H,c9 (fun _=>none) O,[],0⟩
 have fnone:c9 (fun _=>none) O=fun _=>none:=by funext a; unfold c9; cases O a <;> rfl
 refine ⟨fun i m acc H'=>m=ds.length - i∧i≤ds.length∧acc.length≤i∧∃ G' es,aJ G G'∧R C1 [] G' (kF own.length js ρ) (du own js σ) H' []∧Reps G' es acc∧I i es,⟨_,rfl,Nat.zero_le _,Nat.le_refl _,G,[],aJ.refl _,⟨_,ri⟩,bO,i0⟩,?_⟩
 rintro i m acc H' ⟨rfl,hi,ha,G',es,z,r',pa,w⟩
 obtain ⟨sp,go⟩:=jo C1 [] G' _ _ H' [] i z r'
 by_cases hlt:i<ds.length
 ·obtain ⟨g1,g2⟩:=go ds[i] (List.getElem?_eq_getElem hlt)
  refine .inr ⟨g1,ff (by omega),fun acc' H2=>acc'.length≤i + 1∧∃ G2 es2,aJ G G2∧R C1 [] G2 (kF own.length js ρ) (du own js σ) H2 []∧Reps G2 es2 acc'∧I (i + 1) es2,fun acc' H2 h=>⟨ds.length - (i + 1),by omega,rfl,hlt,h.1,h.2⟩,fun x H1 hy=>hk _ _ _ ?_⟩
  obtain ⟨G1,z1,r1,p1⟩:=g2 x H1 hy
  refine sg C1 G1 _ _ H1 [] ds[i] x _ _ (fun i v e=>by simp [C1] at e) r1 p1 (turn i ds[i] es (List.getElem?_eq_getElem hlt) w) fun ρ2 σ2 h2 r2=>?_
  refine st C1 G1 ρ2 σ2 H1 [] _ _ r2 h2 fun b ρ3 G3 H3 h3 z3 kp3 r3=>?_
  have bk:∀ {G4:Hp} {ρ4:DSt} {H4:Hp},aJ G3 G4→R C1 [] G4 ρ4 σ2 H4 []→R C1 [] G4 (kF own.length js ρ) (du own js σ) H4 []:=fun z4 ⟨O4,r4⟩=>by
   obtain ⟨O1,r1'⟩:=r1
   exact ⟨_,r1'.back nt r4 (z3.trans z4)⟩
  cases b with
  | true =>
   rw [if_pos rfl] at h3 ⊢
   refine se C1 G3 ρ3 σ2 H3 [] _ _ r3 h3 fun d ρ4 v G4 H4 h4 z4 kp4 r4 p4=>?_
   exact ⟨by simp; omega,G4,es++[d],z.trans (z1.trans (z3.trans z4)),bk z4 r4,gk (Reps.mono (z1.trans (z3.trans z4)) _ _ pa) (bA p4 bO),h4⟩
  | false =>
   rw [if_neg (by decide)] at h3 ⊢
   exact ⟨by omega,G3,es,z.trans (z1.trans z3),bk (aJ.refl _) r3,Reps.mono (z1.trans z3) _ _ pa,h3⟩
 ·have e:i=ds.length:=by omega
  subst e
  refine .inl ⟨sp (Nat.le_refl _),dz (by omega),?_⟩
  obtain ⟨O2,r2⟩:=r'
  refine k es acc G' H' (fin es w) z ⟨nY (fun _=>none) (fun _=>none) O O2,?_⟩ pa (by omega)
  refine ro.out (vs:=[]) r2 (fun _ _ _ e=>by cases e) ro.len ro.np (fun i d _ e=>e) (fun i d _ e=>.inl ⟨rfl,e⟩) fun O3 h1 h2 ts=>?_
  exact bN.keep ts (fun a j π hj e=>h1 a _ _ e rfl) ro.pn
section
variable {X:Cx} {ow:List Bool} {elt tg iter:Expr} {ifs:List Expr} {pos:Pos} {mi:MA} {mg:MG} {mt:MT} {me:ME} {scope:Scope} {cl:List (Str×Addr)}
def KeepG (n:Nat) (g:TG):Prop:=∀ (σ0:St),(∀ i,i<n→σ0[i]? = some none)→∀ σ x H k,kept σ0 σ→g x σ H k→g x σ H fun σ2 H2=>kept σ0 σ2∧k σ2 H2
theorem iu:∀ {a b:St} {i:Nat} {v:V},kept a b→a[i]? = some none→kept a (b.set i (some v))
 | [],[],i,v,h,e=>by simp at e
 | none :: r,y :: r',0,v,h,e=>h
 | none :: r,y :: r',i + 1,v,h,e=>by simp only [List.set_cons_succ]; exact iu (a:=r) (b:=r') h (by simpa using e)
 | some w :: r,y :: r',0,v,h,e=>by simp at e
 | some w :: r,y :: r',i + 1,v,h,e=>by simp only [List.set_cons_succ]; exact ⟨h.1,iu (a:=r) (b:=r') h.2 (by simpa using e)⟩
 | [],_ :: _,_,_,h,_=>h.elim
 | none :: _,[],_,_,h,_=>h.elim
 | some _ :: _,[],_,_,h,_=>h.elim
theorem fb:∀ (a:St),kept a a
 | []=>trivial
 | none :: r=>fb r
 | some v :: r=>⟨rfl,fb r⟩
def MonG (g:TG):Prop:=∀ x σ H (k k':St→Hp→Prop),(∀ σ2 H2,k σ2 H2→k' σ2 H2)→g x σ H k→g x σ H k'
structure CG (n:Nat) (g:TG) (m:MG):Prop where
 sg:SG ⟨[],[],false⟩ g m
 kp:KeepG n g
 mn:MonG g
theorem dF {n:Nat} (i:Nat) (h:i<n:=by decide):CG n (iR i) (iC i) :=
 ⟨fun C G ρ σ H pd d v k K hm r p h kk=>by obtain ⟨O,r⟩:=r; exact kk _ _ h ⟨O,r.setS (by simp) (fun v e=>by have:=hm i v e; simp at this) p⟩,
  fun σ0 h0 σ x H k hk hg=>⟨iu hk (h0 i h),hg⟩,fun x σ H k k' hk h=>hk _ _ h⟩
def canE (ow:List Bool) (m:ME):TE:=fun σ H Q=>∃ (C:Ctx) (G:Hp) (ρ:DSt) (pd:List (D×V)) (q:D→DSt→Prop),R C ow G ρ σ H pd∧m ρ q∧∀ d ρ' v G' H',q d ρ'→aJ G G'→Kp ow ρ ρ'→R C ow G' ρ' σ H' pd→Rep G' d v→Q v H'
def canT (ow:List Bool) (m:MT):TT:=fun σ H Q=>∃ (C:Ctx) (G:Hp) (ρ:DSt) (pd:List (D×V)) (q:Bool→DSt→Prop),R C ow G ρ σ H pd∧m ρ q∧∀ d ρ' G' H',q d ρ'→aJ G G'→Kp ow ρ ρ'→R C ow G' ρ' σ H' pd→Q d H'
theorem pT {ow:List Bool} {m:ME}:SE ow (canE ow m) m:=fun C G ρ σ H pd q Q r h k=>⟨C,G,ρ,pd,q,r,h,k⟩
theorem qL {ow:List Bool} {m:MT}:STe ow (canT ow m) m:=fun C G ρ σ H pd q Q r h k=>⟨C,G,ρ,pd,q,r,h,k⟩
theorem QE.can {X:Cx} {ow:List Bool} {e:Expr} {m:ME} (h:QE X ow e m):PE X e (canE ow m):=by
 obtain ⟨t,p,s⟩:=h
 exact ⟨fun pins s' σ H Q I ⟨C,G,ρ,pd,q,r,h,k⟩=>p.go pins s' σ H Q I (s C G ρ σ H pd q Q r h k)⟩
theorem QIf.can {X:Cx} {ow:List Bool} {e:List Expr} {m:MT} (h:QIf X ow e m):PIf X e (canT ow m):=by
 obtain ⟨t,p,s⟩:=h
 exact ⟨fun pins s' σ H Q I ⟨C,G,ρ,pd,q,r,h,k⟩=>p.go pins s' σ H Q I (s C G ρ σ H pd q Q r h k)⟩
theorem jF {own:List Str} {js:List Nat} {σ:St}:∀ i,i<own.length→(du own js σ)[i]? = some none:=fun i h=>by
 unfold du
 rw [List.getElem?_append_left (by simpa using h),List.getElem?_map,List.getElem?_eq_getElem h]; rfl
theorem sJ {ow:List Bool} {wi:TI} {g:TG} {own:List Str} {js:List Nat} (si:SI ow wi mi) (cg:CG own.length g mg) (hj:∀ j∈js,ow[j]?≠some true):SF ow (nk wi g (canT [] mt) (canE [] me) own js) (uE mi mg mt me own.length js):=fun C G ρ σ H pd q Q r h k =>
 si C G ρ σ H pd _ _ r h fun ds ρ' G' H' J hq z kp r' jo=>by
  refine ja r' hj jo cg.sg qL pT (fun x H k hg=>cg.kp _ jF _ x H k (fb _) hg) hq.1 hq.2 fun es vs G2 H2 hK z2 r2 p2 hl p hp=>?_
  obtain ⟨O2,r2⟩:=r2
  exact k _ ρ' _ _ _ hK.2 (z.trans z2) kp (r2.newL hp hK.1 p2)
theorem nB {ow:List Bool} {wi:TI} {g:TG} {own:List Str} {js:List Nat} (si:SI ow wi mi) (cg:CG own.length g mg) (hj:∀ j∈js,ow[j]?≠some true):SE ow (nk wi g (canT [] mt) (canE [] me) own js) (lO mi mg mt me own.length js):=fun C G ρ σ H pd q Q r h k =>
 si C G ρ σ H pd _ _ r h fun ds ρ' G' H' J hq z kp r' jo=>by
  refine ja r' hj jo cg.sg qL pT (fun x H k hg=>cg.kp _ jF _ x H k (fb _) hg) hq.1 hq.2 fun es vs G2 H2 hK z2 r2 p2 hl p hp=>?_
  obtain ⟨O2,r2⟩:=r2
  obtain ⟨r3,z3⟩:=r2.new hp (.lst vs)
  exact k _ ρ' _ _ _ hK (z.trans (z2.trans z3)) kp ⟨O2,r3⟩ (e_ av (Reps.mono z3 _ _ p2))
structure CInn (X:Cx) (tg:Expr) (ifs:List Expr) (elt:Expr) (g:TG) (mt:MT) (me:ME):Prop where
 pg:PG X tg g
 qi:QIf X [] ifs mt
 qe:QE X [] elt me
theorem tX {g:TG} (own:List Str) (js:List Nat) (c:CompOk X scope cl own js) (hc:X.calm=true) (hi:QI X ow tg iter mi) (cg:CG own.length g mg)
 (inner:∀ (C:Addr) (s₀:Shared) (H₀:Hp) (ex:List Addr),CInn (bL X scope cl (dt X own js) C s₀ H₀ ex) tg ifs elt g mt me) (hj:∀ j∈js,ow[j]?≠some true:=by decide)
 (hs:∀ x,foldedSetIterable iter X.env x=pure x:=by intro _; rfl):QF X ow (.ListComp elt [⟨tg,iter,ifs,0⟩] scope pos) (uE mi mg mt me own.length js):=by
 obtain ⟨wi,pi,si⟩:=hi
 exact ⟨_,mS own js c hc pi (fun C s₀ H₀ ex=>⟨(inner C s₀ H₀ ex).pg,(inner C s₀ H₀ ex).qi.can,(inner C s₀ H₀ ex).qe.can⟩) hs,sJ si cg hj⟩
theorem h_ {g:TG} (own:List Str) (js:List Nat) (c:CompOk X scope cl own js) (hc:X.calm=true) (hi:QI X ow tg iter mi) (cg:CG own.length g mg)
 (inner:∀ (C:Addr) (s₀:Shared) (H₀:Hp) (ex:List Addr),CInn (bL X scope cl (dt X own js) C s₀ H₀ ex) tg ifs elt g mt me) (hj:∀ j∈js,ow[j]?≠some true:=by decide)
 (hs:∀ x,foldedSetIterable iter X.env x=pure x:=by intro _; rfl):QE X ow (.ListComp elt [⟨tg,iter,ifs,0⟩] scope pos) (lO mi mg mt me own.length js):=by
 obtain ⟨wi,pi,si⟩:=hi
 exact ⟨_,mS own js c hc pi (fun C s₀ H₀ ex=>⟨(inner C s₀ H₀ ex).pg,(inner C s₀ H₀ ex).qi.can,(inner C s₀ H₀ ex).qe.can⟩) hs,nB si cg hj⟩
theorem fH {M:Md} {g:TG} {i:Nat} {y:Str} {spos py:Pos} (own:List Str) (js:List Nat) (c:CompOk X scope cl own js) (hc:X.calm=true) (hN:X.N.Nodup) (hy:X.N[i]? = some y) (hx:Loc X.env.scope y) (hi:QI X M.ow tg iter mi) (cg:CG own.length g mg)
 (inner:∀ (C:Addr) (s₀:Shared) (H₀:Hp) (ex:List Addr),CInn (bL X scope cl (dt X own js) C s₀ H₀ ex) tg ifs elt g mt me) (hj:∀ j∈js,M.ow[j]?≠some true:=by decide) (ho:M.ow[i]?≠some true:=by decide) (hu:M.mu[i]?≠some true:=by decide)
 (hsw:swapsWith (.ListComp elt [⟨tg,iter,ifs,0⟩] scope pos) (some (.Name y py)) spos.line X.env=pure true:=by rfl)
 (hs:∀ x,foldedSetIterable iter X.env x=pure x:=by intro _; rfl) (hf:X.fn y=true∨X.env.scope.names.lookup y=some .local:=by first | exact .inl rfl | exact .inr rfl | assumption) :
 QS X M (.Assign [.Name y py] (.ListComp elt [⟨tg,iter,ifs,0⟩] scope pos) spos) (mx i (lO mi mg mt me own.length js)):=by
 obtain ⟨wi,pi,si⟩:=hi
 exact ⟨_,lP own js c hc hN hy hx pi (fun C s₀ H₀ ex=>⟨(inner C s₀ H₀ ex).pg,(inner C s₀ H₀ ex).qi.can,(inner C s₀ H₀ ex).qe.can⟩) hsw hs hf,sm (nB si cg hj) ho hu⟩
end
theorem ln {g:MG} {mt:MT} {me:ME} {ρ0:DSt} {ds:List D} {K:List D→Prop} (f:D→Option D)
 (step:∀ (d:D),d∈ds→∀ k:Option D→Prop,k (f d)→g d ρ0 fun ρ2=>mt ρ2 fun b ρ3=>if b=true then me ρ3 fun x _=>k (some x) else k none) (h:K (ds.filterMap f)):lG g mt me ρ0 ds K:=by
 refine ⟨fun i es=>es=(ds.take i).filterMap f,rfl,?_,fun es e=>by rw [e,List.take_length]; exact h⟩
 rintro i d es hd rfl
 have:=step d (List.mem_of_getElem? hd) (fun o=>match o with | some x=>(ds.take i).filterMap f++[x]=(ds.take (i + 1)).filterMap f | none=>(ds.take i).filterMap f=(ds.take (i + 1)).filterMap f) (by
  rw [List.take_add_one,hd]
  simp only [Option.toList,List.filterMap_append]
  cases e:f d with
  | none=>simp [e]
  | some x=>simp [e])
 exact this
theorem fw {g:MG} {me:ME} {ρ0:DSt} {ds:List D} {K:List D→Prop} (f:D→D)
 (step:∀ (d:D),d∈ds→∀ k:D→Prop,k (f d)→g d ρ0 fun ρ2=>me ρ2 fun x _=>k x) (h:K (ds.map f)):lG g (mYes true) me ρ0 ds K:=by
 refine ⟨fun i es=>es=(ds.take i).map f,rfl,?_,fun es e=>by rw [e,List.take_length]; exact h⟩
 rintro i d es hd rfl
 have:=step d (List.mem_of_getElem? hd) (fun x=>(ds.take i).map f++[x]=(ds.take (i + 1)).map f) (by
  rw [List.take_add_one,hd]; simp)
 exact this
def mR (x:Int):List Int→List Int
 | []=>[x]
 | y :: r=>if x≤y then x :: y :: r else y :: mR x r
def db:List Int→List Int
 | []=>[]
 | x :: r=>mR x (db r)
theorem gW (x:Int):∀ l:List Int,(mR x l).Perm (x :: l)
 | []=>List.Perm.refl _
 | y :: r=>by
  unfold mR
  split
  ·exact List.Perm.refl _
  ·exact ((gW x r).cons y).trans (List.Perm.swap x y r)
theorem cI:∀ l:List Int,(db l).Perm l
 | []=>List.Perm.refl _
 | x :: r=>(gW x (db r)).trans ((cI r).cons x)
theorem g7 (x:Int):∀ {l:List Int},l.Pairwise (·≤·)→(mR x l).Pairwise (·≤·)
 | [],_=>by simp [mR]
 | y :: r,h=>by
  unfold mR
  rw [List.pairwise_cons] at h
  split
  ·rename_i c
   refine List.pairwise_cons.mpr ⟨fun z hz=>?_,List.pairwise_cons.mpr h⟩
   rcases List.mem_cons.mp hz with rfl | hz
   ·exact c
   ·exact Int.le_trans c (h.1 z hz)
  ·rename_i c
   refine List.pairwise_cons.mpr ⟨fun z hz=>?_,g7 x h.2⟩
   rcases List.mem_cons.mp ((gW x r).mem_iff.mp hz) with rfl | hz
   ·omega
   ·exact h.1 z hz
theorem eF:∀ l:List Int,(db l).Pairwise (·≤·)
 | []=>List.Pairwise.nil
 | x :: r=>g7 x (eF r)
theorem iQ:∀ {a b:List Int},a.Perm b→a.Pairwise (·≤·)→b.Pairwise (·≤·)→a=b
 | [],b,p,_,_=>(List.Perm.nil_eq p)
 | x :: a,[],p,_,_=>by have:=p.length_eq; simp at this
 | x :: a,y :: b,p,ha,hb=>by
  have hx:x=y:=by
   rw [List.pairwise_cons] at ha hb
   have h1:x∈y :: b:=p.mem_iff.mp (.head _)
   have h2:y∈x :: a:=p.mem_iff.mpr (.head _)
   rcases List.mem_cons.mp h1 with rfl | h1
   ·rfl
   rcases List.mem_cons.mp h2 with h2 | h2
   ·exact h2.symm
   have:=ha.1 y h2
   have:=hb.1 x h1
   omega
  subst hx
  rw [iQ ((List.perm_cons x).mp p) (List.pairwise_cons.mp ha).2 (List.pairwise_cons.mp hb).2]
theorem lK {a b:List Int} (p:a.Perm b) (h:a.Pairwise (·≤·)):a=db b:=iQ (p.trans (cI b).symm) h (eF b)
theorem oO (l:List Int):(db l).length=l.length:=(cI l).length_eq
section
variable {X:Cx}
def sh (K:PySem.W.Frag):List V→Hp→VK→Prop:=fun xs H Q=>∃ (p:Addr) (ns:List Int),xs=[.ref p]∧SqL K H p (ns.map V.int)∧ns.length<64∧∀ l,H l=none→Q (.ref l) (upd H l (.lst ((db ns).map V.int)))
theorem gc:cF X (.builtin "sorted") (sh X.K):=by
 intro pins s σ H xs us Q I r h
 obtain ⟨p,ns,rfl,hS,h64,q⟩:=h
 obtain ⟨u,rfl,ru⟩:=f8 r
 cases ru
 obtain ⟨its,rv,pl,_⟩:=I.list hS
 have hI:IntsAre its ns:=iH rv
 have hlen:its.length=ns.length:=by have:=rv.length; simp at this; exact this.symm
 refine sorted_ints (l:=p) (vs:=its) (ns:=ns) (isList_of pl) hI (by omega) fun out ns' a1 a2 a3=>?_
 obtain ⟨e,he⟩:=sortedAll_at s.heap its out
 have hl:ns'=db ns:=lK a2 a3
 subst hl
 refine ⟨.ref (s.heap.objs.size + 1),_,I.laid (a:=s.heap.objs.size + 1) (o:=.lst ((db ns).map V.int)) (t':=s.toks) (fun _ _ q=>sortedAll_old q) (Nat.le_succ _) ?_,rfl,q _ (I.hok.fresh (Nat.le_succ _))⟩
 refine ⟨Nat.le_of_lt (ff (by rw [List.length_map,oO]; omega)),out.toList,e,gN a1,?_⟩
 simpa [seqObj] using he
where
 isList_of {h:Heap} {a:Addr} {its:List Value} (pl:PlainL h a its.toArray):h.IsList a its.toArray:=by
  first | exact pl.isList | exact pl.1 | exact pl
theorem mo {pins:List (Addr×Obj)} {σ:St} {H:Hp} {s:Shared} {p:Addr} {xs:List V} (I:Inv X pins σ H s) (h:SqL X.K H p xs):∃ its:List Value,aV xs its∧s.heap.IsList p its.toArray:=by
 obtain ⟨its,rv,⟨o,n,h1,h2,h3,h4⟩,_⟩:=I.list h
 exact ⟨its,rv,o,h1,h2,n,h4⟩
theorem oK (hc:X.calm=true):cF X (.builtin "sum") (fun xs H Q=>∃ (p:Addr) (ns:List Int),xs=[.ref p]∧SqL X.K H p (ns.map V.int)∧Q (.int ns.sum) H):=by
 intro pins s σ H xs us Q I r h
 obtain ⟨p,ns,rfl,hS,q⟩:=h
 obtain ⟨u,rfl,ru⟩:=f8 r
 cases ru
 obtain ⟨its,rv,hl⟩:=mo I hS
 have hI₂:IntsAre its ns:=iH rv
 obtain ⟨ys,hys⟩:=hI₂.allInts.items
 have hlY:s.heap.IsList p (intItems ys):=hys ▸ hl
 refine sum_intListG (I.ok.hd hc) hlY fun hp tk₁ tk₂ kept=>?_
 have eY:ns=ys.toList.map (·.1):=by
  rw [← nums_intItems,← hys]; exact Eq.symm (show numsOf its.toArray.toList=ns from hI₂.numsOf)
 have eS:preSum (numAt ys) ys.size=ns.sum:=by rw [preSum_eq,List.take_of_length_le (by simp),eY]
 rw [eS]
 exact ⟨.int ns.sum,H,I.kept kept,⟨tk₂,rfl⟩,q⟩
end
theorem d_ {G:Hp}:∀ {ns:List Int} {xs:List V},Reps G (ns.map D.int) xs→xs=ns.map V.int
 | [],xs,h=>by rw [List.map_nil,Reps] at h; subst h; rfl
 | n :: r,xs,h=>by rw [List.map_cons,Reps] at h; obtain ⟨v,vs,rfl,h1,h2⟩:=h; rw [aG h1,d_ h2]; rfl
def pU:List D→(List D→Prop)→Prop:=fun ds q=>match ds with
 | [.lst xs]=>∃ ns:List Int,xs=ns.map D.int∧ns.length<64∧q ((db ns).map D.int)
 | _=>False
theorem pB {K:PySem.W.Frag}:fM (sh K) pU:=fun G H xs ds q Q s p hf k=>by
 unfold pU at hf
 split at hf
 ·obtain ⟨v,rfl,p1⟩:=bz p
  obtain ⟨a,xs,rfl,h1,h2⟩:=bu p1
  obtain ⟨ns,rfl,hl,hq⟩:=hf
  rw [d_ h2] at h1
  exact ⟨a,ns,rfl,SqL.of (s _ _ h1),hl,fun l hl=>k _ _ l hq (jC _) hl⟩
 ·exact hf.elim
def fSum:List D→(D→Prop)→Prop:=fun ds q=>match ds with
 | [.lst xs]=>∃ ns:List Int,xs=ns.map D.int∧q (.int ns.sum)
 | _=>False
theorem dSum {K:PySem.W.Frag}:gf (fun xs H Q=>∃ (p:Addr) (ns:List Int),xs=[.ref p]∧SqL K H p (ns.map V.int)∧Q (.int ns.sum) H) fSum:=fun G H xs ds q Q s p hf k=>by
 unfold fSum at hf
 split at hf
 ·obtain ⟨v,rfl,p1⟩:=bz p
  obtain ⟨a,xs,rfl,h1,h2⟩:=bu p1
  obtain ⟨ns,rfl,hq⟩:=hf
  rw [d_ h2] at h1
  exact ⟨a,ns,rfl,SqL.of (s _ _ h1),k _ _ hq (bg _)⟩
 ·exact hf.elim
section
variable {C:Ctx} {ow:List Bool} {G:Hp} {ρ:DSt} {σ:St} {H:Hp} {pd:List (D×V)} {O:Own}
end
section
variable {ow:List Bool} {t:TE} {m:ME}
end
section
variable {X:Cx} {M:Md} {a b c e:Expr} {ma mb mc:ME} {pos pos':Pos} {mr:MA} {es:List Expr}
theorem d3 (ns:List Int):imms (ns.map D.int)=true:=by
 induction ns with
 | nil=>rfl
 | cons n r ih=>simp only [List.map,imms,imm,ih]; rfl
end
def mCut (m:MS):MS:=fun n ρ=>∃ I:DSt→Prop,m { n with nx:=I } ρ∧∀ ρ',I ρ'→n.nx ρ'
theorem bV {X:Cx} {M:Md} {st:Stmt} {m:MS} (h:QS X M st m):QS X M st (mCut m):=by
 obtain ⟨t,p,s⟩:=h
 refine ⟨_,p,fun C G ρ σ H n D hm hn r h k=>?_⟩
 obtain ⟨I,h1,h2⟩:=h
 exact s C G ρ σ H _ D hm hn r h1 ⟨fun ρ' σ' G' H' hi=>k.nx ρ' σ' G' H' (h2 ρ' hi),k.bk,k.ct,k.rt⟩
mutual
theorem Sep.strip {G H:Hp} {O O':Own} {i i':Nat} {sfx:List Nat} :
 ∀ (d:D) (π:List Nat) (v:V),(∀ a τ,O a=some (i,(τ++π)++sfx)→O' a=some (i',τ++π))→Sep G H O i d (π++sfx) v→Sep G H O' i' d π v
 | .non,_,_,_,h=>by rw [Sep] at *; exact h
 | .bl b,_,_,_,h=>by rw [Sep] at *; exact h
 | .int n,_,_,_,h=>by rw [Sep] at *; exact h
 | .str x,_,_,_,h=>by rw [Sep] at *; exact h
 | .tup ds,π,v,hO,h=>by
  rw [Sep] at *
  obtain ⟨a,xs,h1,h2,h3⟩:=h
  exact ⟨a,xs,h1,h2,Seps.strip ds 0 π xs (fun a τ=>hO a τ) h3⟩
 | .lst ds,π,v,hO,h=>by
  rw [Sep] at *
  obtain ⟨a,xs,h1,h2,h3,h4⟩:=h
  exact ⟨a,xs,h1,hO a [] h2,h3,Seps.strip ds 0 π xs (fun a τ=>hO a τ) h4⟩
 | .dic ks ds,π,v,hO,h=>by
  rw [Sep] at *
  obtain ⟨a,xs,h1,h2,h3,h5,h4⟩:=h
  exact ⟨a,xs,h1,hO a [] h2,h3,h5,Seps.strip ds 0 π xs (fun a τ=>hO a τ) h4⟩
 | .dct,_,_,_,h=>by rw [Sep] at h; exact h.elim
 | .scr _ _,_,_,_,h=>by rw [Sep] at h; exact h.elim
 | .ext _,_,_,_,h=>by rw [Sep] at h; exact h.elim
theorem Seps.strip {G H:Hp} {O O':Own} {i i':Nat} {sfx:List Nat} :
 ∀ (ds:List D) (k:Nat) (π:List Nat) (xs:List V),(∀ a τ,O a=some (i,(τ++π)++sfx)→O' a=some (i',τ++π))→Seps G H O i ds k (π++sfx) xs→Seps G H O' i' ds k π xs
 | [],_,_,_,_,h=>by rw [Seps] at *; exact h
 | d :: ds,k,π,xs,hO,h=>by
  rw [Seps] at *
  obtain ⟨v,vs,h1,h2,h3⟩:=h
  refine ⟨v,vs,h1,Sep.strip d (k :: π) v (fun a τ e=>?_) h2,Seps.strip ds (k + 1) π vs hO h3⟩
  have e' : τ++k :: π=(τ++[k])++π:=by simp
  rw [e'] at e ⊢
  exact hO a (τ++[k]) e
end
section
variable {C:Ctx} {ow:List Bool} {G:Hp} {ρ:DSt} {σ:St} {H:Hp} {pd:List (D×V)} {O:Own}
theorem RO.split {ds:List D} {v:V} (h:RO C ow G ρ σ H ((.tup ds,v) :: pd) O) (hn:C.np≤pd.length):∃ a xs,v = .ref a∧G a=some (.tup xs)∧xs.length=ds.length∧R C ow G ρ σ H (ds.zip xs++pd):=by
 obtain ⟨s,pn⟩:=h.pn
 rw [Sep] at s
 obtain ⟨a,xs,rfl,hG,hs⟩:=s
 have hl:=hs.length
 refine ⟨a,xs,rfl,hG,hl,lab (fun l π=>if l=2 * pd.length + 1 then (2 * (pd.length + (ds.length - 1 - π.getLastD 0)) + 1,π.dropLast) else (l,π)) O,h.len,h.gh,h.g0,h.gn,?_,h.cok,h.fr,h.ft,h.al,h.mp,?_,?_,by simp; omega⟩
 ·intro b m e
  obtain ⟨l,π,e1,rfl⟩:=gP e
  obtain ⟨q1,q2,q3⟩:=h.og b _ e1
  refine ⟨q1,q2,?_⟩
  split
  ·rename_i z
   rcases q3 with q3 | ⟨_,q3⟩
   ·exact .inl q3
   ·rcases h.cok _ _ _ q3 with ⟨k,_,q4,_⟩ | ⟨k,q4,q5⟩
    ·exact absurd (q4.symm.trans z) cn
    ·omega
  ·exact q3
 ·intro j e q
  obtain ⟨u,h1,h2⟩:=h.sl j e q
  refine ⟨u,h1,?_⟩
  split at h2
  ·rename_i c; rw [if_pos c]; exact h2.keep (fun _ _ z=>z) fun a τ q=>⟨by rw [bB q,if_neg cn],rfl⟩
  ·rename_i c; rw [if_neg c]; exact h2
 ·have old:∀ (O':Own),(∀ b j π,j<pd.length→O b=some (2 * j + 1,π)→O' b=some (2 * j + 1,π))→bN G H O' pd:=fun O' hO=>bN.keep (fun _ _ z=>z) (fun b j π hj q=>⟨hO b j π hj q,rfl⟩) pn
  have key:∀ (ds0:List D) (k:Nat) (xs0:List V) (O':Own),k + ds0.length=ds.length→Seps G H O (2 * pd.length + 1) ds0 k [] xs0 →
   (∀ b j π,j<pd.length→O b=some (2 * j + 1,π)→O' b=some (2 * j + 1,π))→(∀ b τ k',O b=some (2 * pd.length + 1,τ++[k'])→O' b=some (2 * (pd.length + (ds.length - 1 - k')) + 1,τ))→bN G H O' (ds0.zip xs0++pd):=by
   intro ds0
   induction ds0 with
   | nil=>intro k xs0 O' _ _ ho _; exact old O' ho
   | cons d0 r ih =>
    intro k xs0 O' hk hh ho hnw
    rw [Seps] at hh
    obtain ⟨w,ws,rfl,w1,w2⟩:=hh
    have hwl:=w2.length
    refine ⟨?_,ih (k + 1) ws O' (by simp at hk; omega) w2 ho hnw⟩
    have e:(List.zip r ws++pd).length=pd.length + (ds.length - 1 - k):=by simp at hk ⊢; omega
    show Sep G H O' (2 * (List.zip r ws++pd).length + 1) d0 [] w
    rw [e]
    exact Sep.strip (sfx:=[k]) d0 [] w (fun b τ q=>by simpa using hnw b τ k (by simpa using q)) w1
  refine key ds 0 xs _ (by omega) hs (fun b j π hj q=>by rw [bB q,if_neg (by omega)]) (fun b τ k' q=>?_)
  rw [bB q,if_pos rfl]
  simp
end
def SGF (M:Md) (g:TGs) (m:MGs):Prop:=∀ (C:Ctx) (G:Hp) (ρ:DSt) (σ:St) (H:Hp) (T pd:List (D×V)) (k:DSt→Prop) (K:St→Hp→Prop),gr C M.mu→C.np≤pd.length→R C M.ow G ρ σ H (T++pd)→m (T.map (·.1)) ρ k →
 (∀ ρ' σ' G',k ρ'→aJ G G'→R C M.ow G' ρ' σ' H pd→K σ' H)→g (T.map (·.2)) σ H K
structure QGF (X:Cx) (M:Md) (e:List Expr) (m:MGs):Prop where
 ex:∃ t,PGs X e t∧SGF M t m
section
variable {X:Cx} {M:Md} {a b c e:Expr} {ma mb mc:ME} {pos pos':Pos} {mr:MA} {es:List Expr} {mgs:MGs}
theorem kq:QGF X M [] rW:=⟨_,nv,fun C G ρ σ H T pd k K hm hn r h kk=>by
 cases T with
 | nil=>exact ⟨rfl,kk _ _ G h (aJ.refl _) r⟩
 | cons _ _=>exact h.elim⟩
theorem kN {i:Nat} {x:Str} (hN:X.N.Nodup) (hi:X.N[i]? = some x) (hx:Loc X.env.scope x) (h2:QGF X M es mgs) (ho:M.ow[i]? = some true:=by decide) (hu:M.mu[i]?≠some true:=by decide) (hf:X.fn x=true∨X.env.scope.names.lookup x=some .local:=by first | exact .inl rfl | exact .inr rfl | assumption)
 (hs:(assignEach (.Name x pos :: es) X.env).map (·.2)=assign (.Name x pos) X.env :: (assignEach es X.env).map (·.2):=by rfl):QGF X M (.Name x pos :: es) (kM (iC i) mgs):=by
 obtain ⟨t2,p2,s2⟩:=h2
 refine ⟨_,iK (cB hN hi hx hf) p2 hs,fun C G ρ σ H T pd k K hm hn r h kk=>?_⟩
 cases T with
 | nil=>exact h.elim
 | cons x T =>
  obtain ⟨O,r⟩:=r
  exact ⟨_,_,rfl,s2 C G _ _ H T pd k K hm hn (r.setO ho (hm.no hu) (by simp; omega)) h kk⟩
theorem iL {i:Nat} {x:Str} (hN:X.N.Nodup) (hi:X.N[i]? = some x) (hx:Loc X.env.scope x) (h2:QGF X M es mgs) (ho:M.ow[i]?≠some true:=by decide) (hu:M.mu[i]?≠some true:=by decide) (hf:X.fn x=true∨X.env.scope.names.lookup x=some .local:=by first | exact .inl rfl | exact .inr rfl | assumption)
 (hs:(assignEach (.Name x pos :: es) X.env).map (·.2)=assign (.Name x pos) X.env :: (assignEach es X.env).map (·.2):=by rfl):QGF X M (.Name x pos :: es) (kM (iC i) mgs):=by
 obtain ⟨t2,p2,s2⟩:=h2
 refine ⟨_,iK (cB hN hi hx hf) p2 hs,fun C G ρ σ H T pd k K hm hn r h kk=>?_⟩
 cases T with
 | nil=>exact h.elim
 | cons x T =>
  obtain ⟨O,r⟩:=r
  obtain ⟨G2,z2,⟨O2,r2⟩,p⟩:=r.share (by simp; omega)
  exact ⟨_,_,rfl,s2 C G2 _ _ H T pd k K hm hn ⟨O2,r2.setS ho (hm.no hu) p⟩ h fun ρ' σ' G' hk z r'=>kk ρ' σ' G' hk (z2.trans z) r'⟩
theorem kB {kk:Nat} {n:Nat} {tpos:Pos} (hc:X.calm=true) (he:QM X M e ma) (hg:QGF X M es mgs) (ht:lg n mgs)
 (hn:(assignEach es X.env).length=n:=by rfl) (hst:(assignEach es X.env).findIdx? (·.1)=none:=by rfl)
 (hs:swapsWithSole [.Tuple es kk tpos] e pos.line X.env=pure false:=by rfl) (hw:swappedStores [.Tuple es kk tpos] e X.env=pure none:=by rfl)
 (h1:(assignEach [.Tuple es kk tpos] X.env).map (·.2)=[assign (.Tuple es kk tpos) X.env]:=by rfl):QS X M (.Assign [.Tuple es kk tpos] e pos) (mAsg ma (uU mgs)):=by
 obtain ⟨t,p,s⟩:=he; obtain ⟨t2,p2,s2⟩:=hg
 refine ⟨_,jV p (qD hc p2 hn hst) hs hw h1,fun C G ρ σ H n D hm hn r h k=>s C G ρ σ H [] _ _ hm r h fun d ρ' v G' H' hq z r'=>?_⟩
 cases d with
 | tup ds =>
  obtain ⟨O,r'⟩:=r'
  obtain ⟨a,xs,rfl,h1,h2,r2⟩:=r'.split (by rw [hn]; exact Nat.zero_le _)
  have hl:=ht _ _ _ hq
  have e1:(ds.zip xs).map (·.1)=ds:=List.map_fst_zip (by omega)
  have e2:(ds.zip xs).map (·.2)=xs:=List.map_snd_zip (by omega)
  refine ⟨a,xs,rfl,SqT.of (r2.gh _ _ h1),by omega,?_⟩
  have:=s2 C G' ρ' σ H' (ds.zip xs) [] n.nx D.nx hm (by rw [hn]; exact Nat.zero_le _) r2 (by rw [e1]; exact hq) fun ρ3 σ3 G3 h3 z3 r3=>k.nx ρ3 σ3 G3 H' h3 (z.trans z3) r3
  rw [e2] at this
  exact this
 | _=>exact hq.elim
end
section
variable {X:Cx} {M:Md} {a b c e:Expr} {ma mb mc:ME} {pos pos':Pos}
end
section
variable {X:Cx} {ow:List Bool} {elt tg iter:Expr} {ifs:List Expr} {pos:Pos} {mi:MA} {mg:MG} {mt:MT} {me:ME} {scope:Scope} {cl:List (Str×Addr)}
end
section
variable {X:Cx} {M:Md} {a b c e:Expr} {ma mb mc:ME} {pos pos' p1 p2 p3:Pos} {te:TE} {j1:Nat} {ow:List Bool}
end
def isW:D→Bool
 | .int _=>true
 | _=>false
def btw (lo hi:Int):D→Bool
 | .int i=>decide (lo≤i)&&decide (i≤hi)
 | _=>false
def gz:D→Bool
 | .tup [.lst ps,.lst rs]=>decide (ps.length=rs.length)&&(decide (1≤ps.length)&&decide (ps.length≤23))
 | _=>false
structure Tree (ps rs:List Int):Prop where
 len:ps.length=rs.length
 lo : 1≤ps.length
 hi:ps.length≤23
 par:∀ (i:Nat) (x:Int),ps[i]? = some x→0≤x∧x≤i
 room:∀ (i:Nat) (x:Int),rs[i]? = some x→1≤x∧x≤1000000
def sN:SpD:=fun ds q=>∃ d,ds=[d]∧d.isS=false∧q (.bl (isW d)) []
def oV:SpD:=fun ds q=>∃ d lo hi,ds=[d,.int lo,.int hi]∧d.isS=false∧q (.bl (btw lo hi d)) []
def wj:SpD:=fun ds q=>∃ ps rs,ds=[aw ps rs]∧Tree ps rs∧q .non []
def nI (ns:List Int) (k:Int):Int:=ns.getD k.toNat 0
def nP (K:PySem.W.Frag) (φ:Addr→Prop) (ns:List Int):Prop:=∀ a H,φ a→SqL K H a (ns.map V.int)
def vo (K:PySem.W.Frag):SpD:=fun ds q=>∃ φ ns k,ds=[.scr φ ns,.int k]∧nP K φ ns∧0≤k∧q (.int (nI ns k)) []
def wP (K:PySem.W.Frag):SpD:=fun ds q=>∃ φ ns k,ds=[.scr φ ns,.int k]∧nP K φ ns∧0≤k∧k≤1000∧∀ c m,0≤c→q (aF [c,m]) []
def vw:SpD:=fun ds q=>∃ c m many,ds=[aF [c,m],.int many]∧0≤c∧0<many∧Sm many∧∀ r c' m',0≤r→r<many→0≤c'→q (.int r) [some (aF [c',m'])]
def q9 (K:PySem.W.Frag):SpD:=fun ds q=>∃ φ ns,ds=[.scr φ ns]∧nP K φ ns∧ns.length≤63∧q (.bl true) []
theorem cW {ns:List Int} {k:Int} (h0 : 0≤k) (h1:k<ns.length):atI (ns.map D.int) k=some (.int (ns.getD k.toNat 0)):=by
 have ek:k=((k.toNat:Nat):Int):=by omega
 have hl:k.toNat<ns.length:=by omega
 have:atI (ns.map D.int) ((k.toNat:Nat):Int)=some (.int (ns.getD k.toNat 0)):=kK (by rw [List.getElem?_map,List.getD_eq_getElem?_getD,List.getElem?_eq_getElem hl]; rfl)
 rw [← ek] at this
 exact this
theorem uV {ns:List Int} {k:Int} (h0 : 0≤k) (h1:k<ns.length):atI ns k=some (ns.getD k.toNat 0):=by
 have ek:k=((k.toNat:Nat):Int):=by omega
 have hl:k.toNat<ns.length:=by omega
 have:atI ns ((k.toNat:Nat):Int)=some (ns.getD k.toNat 0):=kK (by rw [List.getD_eq_getElem?_getD,List.getElem?_eq_getElem hl]; rfl)
 rw [← ek] at this
 exact this
theorem be {ds:List D} {k:Int} {d:D} {q:D→Prop} (h:atI ds k=some d) (hq:q d):atD ds k q:=by unfold atD; rw [h]; exact hq
theorem gD {ns:List Int} {i:Nat} {d:D} (h:(ns.map D.int)[i]? = some d):∃ z,ns[i]? = some z∧d = .int z:=by
 rw [List.getElem?_map] at h
 cases e:ns[i]? with
 | none=>rw [e] at h; cases h
 | some z=>rw [e] at h; exact ⟨z,rfl,(Option.some.inj h).symm⟩
theorem jO {ps rs:List Int} (hT:Tree ps rs):gz (aw ps rs)=true:=by
 show (decide ((ps.map D.int).length=(rs.map D.int).length)&&(decide (1≤(ps.map D.int).length)&&decide ((ps.map D.int).length≤23)))=true
 rw [List.length_map,List.length_map,decide_eq_true hT.len,decide_eq_true hT.lo,decide_eq_true hT.hi]; rfl
theorem dC {lo hi z:Int} (h1:lo≤z) (h2:z≤hi):btw lo hi (.int z)=true:=by show (decide (lo≤z)&&decide (z≤hi))=true; rw [decide_eq_true h1,decide_eq_true h2]; rfl
abbrev dr (ps:List Int) (k:Int):Int:=ps.getD (k - 1).toNat 0
theorem Tree.up {ps rs:List Int} (hT:Tree ps rs) {k:Int} (h0 : 0<k) (h1:k≤ps.length) : 0≤dr ps k∧dr ps k<k:=by
 have hl:(k - 1).toNat<ps.length:=by omega
 have e:ps[(k - 1).toNat]? = some (dr ps k):=by unfold dr; rw [List.getD_eq_getElem?_getD,List.getElem?_eq_getElem hl]; rfl
 have:=hT.par _ _ e
 omega
inductive Up (ps:List Int):Int→List Int→Prop
 | zero:Up ps 0 [0]
 | step {k:Int} {u:List Int} (h : 0<k):Up ps (dr ps k) u→Up ps k (k :: u)
theorem Up.det {ps:List Int} {k:Int} {u:List Int} (h:Up ps k u):∀ {v:List Int},Up ps k v→u=v:=by
 induction h with
 | zero=>intro v h; cases h with | zero=>rfl | step h0 _=>omega
 | step h0 _ ih=>intro v h; cases h with | zero=>omega | step _ h=>rw [ih h]
theorem Up.le {ps rs:List Int} (hT:Tree ps rs) {k:Int} {u:List Int} (h:Up ps k u):k≤ps.length→∀ x∈u,0≤x∧x≤k:=by
 induction h with
 | zero=>intro _ x hx; simp at hx; omega
 | step h0 _ ih =>
  intro h1 x hx
  have hp:=hT.up h0 h1
  rcases List.mem_cons.mp hx with rfl | hx
  ·omega
  ·have:=ih (by omega) x hx; omega
theorem Up.dec {ps rs:List Int} (hT:Tree ps rs) {k:Int} {u:List Int} (h:Up ps k u):k≤ps.length→u.Pairwise (· > ·):=by
 induction h with
 | zero=>intro _; simp
 | step h0 hu ih =>
  intro h1
  have hp:=hT.up h0 h1
  refine List.pairwise_cons.mpr ⟨fun x hx=>?_,ih (by omega)⟩
  have:=hu.le hT (by omega) x hx
  omega
theorem Up.len {ps rs:List Int} (hT:Tree ps rs) {k:Int} {u:List Int} (h:Up ps k u):k≤ps.length→(u.length:Int)≤k + 1:=by
 induction h with
 | zero=>intro _; simp
 | step h0 hu ih=>intro h1; have hp:=hT.up h0 h1; have:=ih (by omega); simp; omega
theorem Up.head {ps:List Int} {k:Int} {u:List Int} (h:Up ps k u):k∈u:=by cases h <;> simp
inductive Climb (ps:List Int):Int→Int→List Int→Int→Prop
 | same (a:Int):Climb ps a a [] a
 | left {a b:Int} {w:List Int} {m:Int} (h:b<a):Climb ps b (dr ps a) w m→Climb ps a b (a :: w) m
 | right {a b:Int} {w:List Int} {m:Int} (h:a<b):Climb ps a (dr ps b) w m→Climb ps a b (b :: w) m
theorem Climb.meet {ps rs:List Int} (hT:Tree ps rs) {a b m:Int} {w:List Int} (h:Climb ps a b w m) : 0≤a→0≤b→a≤ps.length→b≤ps.length→∀ {ua ub:List Int},Up ps a ua→Up ps b ub→m∈ua∧m∈ub∧∀ x∈ua,x∈ub→x≤m:=by
 induction h with
 | same a=>intro a0 _ a1 _ ua ub ha hb; have:=ha.det hb; subst this; exact ⟨ha.head,ha.head,fun x hx _=>(ha.le hT a1 x hx).2⟩
 | left hlt hc ih =>
  intro a0 b0 a1 b1 ua ub ha hb
  cases ha with
  | zero=>omega
  | step h0 hu =>
   have hp:=hT.up h0 a1
   obtain ⟨m1,m2,m3⟩:=ih b0 hp.1 b1 (by omega) hb hu
   refine ⟨List.mem_cons_of_mem _ m2,m1,fun x hx hxb=>?_⟩
   rcases List.mem_cons.mp hx with rfl | hx
   ·have:=(hb.le hT b1 _ hxb).2; omega
   ·exact m3 x hxb hx
 | right hlt hc ih =>
  intro a0 b0 a1 b1 ua ub ha hb
  cases hb with
  | zero=>omega
  | step h0 hu =>
   have hp:=hT.up h0 b1
   obtain ⟨m1,m2,m3⟩:=ih a0 hp.1 a1 (by omega) ha hu
   refine ⟨m1,List.mem_cons_of_mem _ m2,fun x hx hxb=>?_⟩
   rcases List.mem_cons.mp hxb with rfl | hxb
   ·have:=(ha.le hT a1 _ hx).2; omega
   ·exact m3 x hx hxb
theorem Climb.low {ps rs:List Int} (hT:Tree ps rs) {a b m:Int} {w:List Int} (h:Climb ps a b w m) : 0≤a→0≤b→a≤ps.length→b≤ps.length→0≤m∧m≤a∧m≤b:=by
 induction h with
 | same a=>intro a0 _ _ _; omega
 | left hlt hc ih=>intro a0 b0 a1 b1; have hp:=hT.up (show 0<_ by omega) a1; have:=ih b0 hp.1 b1 (by omega); omega
 | right hlt hc ih=>intro a0 b0 a1 b1; have hp:=hT.up (show 0<_ by omega) b1; have:=ih a0 hp.1 a1 (by omega); omega
theorem Climb.perm {ps rs:List Int} (hT:Tree ps rs) {a b m:Int} {w:List Int} (h:Climb ps a b w m) : 0≤a→0≤b→a≤ps.length→b≤ps.length→∀ {ua ub um:List Int},Up ps a ua→Up ps b ub→Up ps m um→w.Perm ((ua++ub).filter fun x=>!um.contains x):=by
 induction h with
 | same a =>
  intro a0 _ a1 _ ua ub um ha hb hm
  have:=ha.det hb; subst this
  have:=ha.det hm; subst this
  have:(ua++ua).filter (fun x=>!ua.contains x)=[]:=by
   rw [List.filter_eq_nil_iff]; intro x hx; simp at hx; simp [hx]
  rw [this]
 | @left a b w m hlt hc ih =>
  intro a0 b0 a1 b1 ua ub um ha hb hm
  cases ha with
  | zero=>omega
  | step h0 hu =>
   have hp:=hT.up h0 a1
   have hl:=hc.low hT b0 hp.1 b1 (by omega)
   have ih':=ih b0 hp.1 b1 (by omega) hb hu hm
   have hn : ¬ um.contains a=true:=fun z=>by
    have:=(hm.le hT (by omega) _ (List.contains_iff_mem.mp z)).2
    omega
   rw [List.cons_append,List.filter_cons_of_pos (by simpa using hn)]
   refine List.Perm.cons _ (ih'.trans ?_)
   exact List.Perm.filter _ List.perm_append_comm
 | @right a b w m hlt hc ih =>
  intro a0 b0 a1 b1 ua ub um ha hb hm
  cases hb with
  | zero=>omega
  | step h0 hu =>
   have hp:=hT.up h0 b1
   have hl:=hc.low hT a0 hp.1 a1 (by omega)
   have ih':=ih a0 hp.1 a1 (by omega) ha hu hm
   have hn : ¬ um.contains b=true:=fun z=>by
    have:=(hm.le hT (by omega) _ (List.contains_iff_mem.mp z)).2
    omega
   refine (List.Perm.cons _ ih').trans ?_
   refine List.Perm.trans ?_ (List.Perm.filter _ (List.perm_middle (l₁:=_)).symm)
   rw [List.filter_cons_of_pos (by simpa using hn)]
theorem Climb.mem {ps rs:List Int} (hT:Tree ps rs) {a b m:Int} {w:List Int} (h:Climb ps a b w m) : 0≤a→0≤b→a≤ps.length→b≤ps.length→∀ x∈w,0<x∧x≤ps.length:=by
 induction h with
 | same a=>intro _ _ _ _ x hx; cases hx
 | left hlt hc ih =>
  intro a0 b0 a1 b1 x hx
  have hp:=hT.up (show 0<_ by omega) a1
  rcases List.mem_cons.mp hx with rfl | hx
  ·omega
  ·exact ih b0 hp.1 b1 (by omega) x hx
 | right hlt hc ih =>
  intro a0 b0 a1 b1 x hx
  have hp:=hT.up (show 0<_ by omega) b1
  rcases List.mem_cons.mp hx with rfl | hx
  ·omega
  ·exact ih a0 hp.1 a1 (by omega) x hx
theorem Climb.len {ps rs:List Int} (hT:Tree ps rs) {a b m:Int} {w:List Int} (h:Climb ps a b w m) : 0≤a→0≤b→a≤ps.length→b≤ps.length→(w.length:Int)≤a + b:=by
 induction h with
 | same a=>intro _ _ _ _; simp; omega
 | left hlt hc ih=>intro a0 b0 a1 b1; have hp:=hT.up (show 0<_ by omega) a1; have:=ih b0 hp.1 b1 (by omega); simp; omega
 | right hlt hc ih=>intro a0 b0 a1 b1; have hp:=hT.up (show 0<_ by omega) b1; have:=ih a0 hp.1 a1 (by omega); simp; omega
theorem Climb.det {ps:List Int} {a b m:Int} {w:List Int} (h:Climb ps a b w m):∀ {m':Int} {w':List Int},Climb ps a b w' m'→w=w'∧m=m':=by
 induction h with
 | same a=>intro m' w' h; cases h with | same=>exact ⟨rfl,rfl⟩ | left h _=>omega | right h _=>omega
 | left hlt hc ih=>intro m' w' h; cases h with | same=>omega | left _ h=>have:=ih h; exact ⟨by rw [this.1],this.2⟩ | right h _=>omega
 | right hlt hc ih=>intro m' w' h; cases h with | same=>omega | right _ h=>have:=ih h; exact ⟨by rw [this.1],this.2⟩ | left h _=>omega
theorem Climb.all' {ps rs:List Int} (hT:Tree ps rs):∀ (n:Nat) (a b:Int),(a + b).toNat=n→0≤a→0≤b→a≤ps.length→b≤ps.length→∃ w m,Climb ps a b w m
 | n,a,b,hn,a0,b0,a1,b1=>by
  by_cases h1:b<a
  ·have hp:=hT.up (show 0<a by omega) a1
   obtain ⟨w,m,h⟩:=Climb.all' hT (b + dr ps a).toNat b (dr ps a) rfl b0 hp.1 b1 (by omega)
   exact ⟨_,_,.left h1 h⟩
  ·by_cases h2:a<b
   ·have hp:=hT.up (show 0<b by omega) b1
    obtain ⟨w,m,h⟩:=Climb.all' hT (a + dr ps b).toNat a (dr ps b) rfl a0 hp.1 a1 (by omega)
    exact ⟨_,_,.right h2 h⟩
   ·have:a=b:=by omega
    subst this
    exact ⟨_,_,.same a⟩
termination_by n=>n
decreasing_by all_goals omega
theorem Climb.all {ps rs:List Int} (hT:Tree ps rs) {a b:Int} (a0 : 0≤a) (b0 : 0≤b) (a1:a≤ps.length) (b1:b≤ps.length):∃ w m,Climb ps a b w m:=Climb.all' hT _ a b rfl a0 b0 a1 b1
theorem oF {l:List Int} {p:Int→Bool} {m:Int} (hd:l.Pairwise (· > ·)) (hm:m∈l) (hp:p m=true) (hx:∀ x∈l,p x=true→x≤m):∃ r,l.filter p=m :: r:=by
 induction l with
 | nil=>cases hm
 | cons y l ih =>
  rw [List.pairwise_cons] at hd
  rcases List.mem_cons.mp hm with rfl | hm
  ·exact ⟨_,List.filter_cons_of_pos hp⟩
  ·have hy : ¬ p y=true:=fun z=>by
    have:=hx y (.head _) z
    have:=hd.1 m hm
    omega
   rw [List.filter_cons_of_neg hy]
   exact ih hd.2 hm fun x h=>hx x (List.mem_cons_of_mem _ h)
structure Ends2 (ps:List Int) (a b:Int):Prop where
 a0 : 0≤a
 a1:a≤ps.length
 b0 : 0≤b
 b1:b≤ps.length
 ne:a≠b
def sH:SpD:=fun ds q=>∃ ps rs d,ds=[aw ps rs,d]∧d.isS=false∧q (.bl (btw 0 ps.length d)) []
def mQ:SpD:=fun ds q=>∃ ps rs a b,ds=[aw ps rs,.int a,.int b]∧Tree ps rs∧Ends2 ps a b∧q .non []
def ug:SpD:=fun ds q=>∃ ps rs a b,ds=[aw ps rs,.int a,.int b]∧Tree ps rs∧0≤a∧a≤ps.length∧0≤b∧b≤ps.length∧∀ w m,Climb ps a b w m→q (.tup [aF (db w),.int m]) []
def sdWay:SpD:=fun ds q=>∃ ps rs a b,ds=[aw ps rs,.int a,.int b]∧Tree ps rs∧Ends2 ps a b∧∀ w m,Climb ps a b w m→q (aF (db w)) []
def tL:SpD:=fun ds q=>∃ ps rs a b,ds=[aw ps rs,.int a,.int b]∧Tree ps rs∧0≤a∧a≤ps.length∧0≤b∧b≤ps.length∧∀ w m,Climb ps a b w m→q (.int m) []
def w5:SpD:=fun ds q=>∃ ps rs a b,ds=[aw ps rs,.int a,.int b]∧Tree ps rs∧0≤a∧a≤ps.length∧0≤b∧b≤ps.length∧∀ w m,Climb ps a b w m→q (aF (db w)) []
def sdUp:SpD:=fun ds q=>∃ ps rs k,ds=[aw ps rs,.int k]∧Tree ps rs∧0≤k∧k≤ps.length∧∀ u,Up ps k u→q (aF u) []
theorem jA (ps:List Int) (y:Int):D.lst (ps.map D.int++[D.int y])=aF (ps++[y]):=by unfold aF; rw [List.map_append]; rfl
theorem aB (ps:List Int):(ps.map D.int).length=ps.length:=List.length_map _
theorem qV {ns:List Int} {k:Nat} (h:k<ns.length):ns.getD k 0∈ns:=by rw [List.getD_eq_getElem?_getD,List.getElem?_eq_getElem h]; exact List.getElem_mem h
theorem sU {P:Nat→Int→Prop} {ps:List Int} {y:Int} (h:∀ (j:Nat) (x:Int),ps[j]? = some x→P j x) (hy:P ps.length y):∀ (j:Nat) (x:Int),(ps++[y])[j]? = some x→P j x:=by
 intro j x hj
 by_cases hjl:j<ps.length
 ·rw [List.getElem?_append_left hjl] at hj; exact h j x hj
 ·rw [List.getElem?_append_right (by omega)] at hj
  cases e:j - ps.length with
  | zero => rw [e] at hj; have:y = x:=by simpa using hj
            subst this; rw [show j=ps.length by omega]; exact hy
  | succ q=>rw [e] at hj; simp at hj
def filD (p:Int→Bool):D→Option D
 | .int x=>if p x=true then some (.int x) else none
 | _=>none
theorem gT {p:Int→Bool}:∀ (ns:List Int),(ns.map D.int).filterMap (filD p)=(ns.filter p).map D.int
 | []=>rfl
 | n :: r=>by
  have ih:=gT (p:=p) r
  have e0:filD p (.int n)=if p n=true then some (.int n) else none:=rfl
  cases e:p n with
  | true=>rw [e,if_pos rfl] at e0; rw [List.map_cons,List.filterMap_cons,e0,List.filter_cons_of_pos e,List.map_cons,← ih]
  | false=>rw [e,if_neg (by decide)] at e0; rw [List.map_cons,List.filterMap_cons,e0,List.filter_cons_of_neg (by rw [e]; decide),← ih]
theorem jr (ns:List Int):(ns.map D.int).all d7=true:=by
 induction ns with
 | nil=>rfl
 | cons n r ih=>rw [List.map_cons,List.all_cons,ih]; rfl
theorem kZ (x:Int) (ns:List Int):inD (.int x) (ns.map D.int)=ns.contains x:=by
 unfold inD
 induction ns with
 | nil=>rfl
 | cons n r ih =>
  rw [List.map_cons,List.any_cons,ih,List.contains_cons]
  show ((n == x)||_)=_
  rw [Bool.beq_comm]
theorem fT {ns:List Int} {d:D} (h:d∈ns.map D.int):∃ x∈ns,d = .int x:=by
 obtain ⟨x,h1,h2⟩:=List.mem_map.mp h
 exact ⟨x,h1,h2.symm⟩
theorem lf (ns:List Int):okD (aF ns)=true:=kY ns
theorem eqDi (ns ms:List Int):eqD (aF ns) (aF ms)=decide (ns=ms):=qa ns ms
theorem pQ {n:Nat} (h : 1≤n):ixN n ((n:Int) - 1)=some (n - 1):=by
 unfold ixN
 rw [if_pos (by omega),if_pos (by omega)]
 congr 1; omega
theorem atI0 {α:Type} (x : α) (r:List α):atI (x :: r) 0=some x:=kK (j:=0) rfl
def lay:Nat→D→Bool
 | _,.int _=>true
 | _,.bl _=>true
 | _,.non=>true
 | n + 1,.tup ds=>ds.all (lay n)
 | n + 1,.lst ds=>ds.all (lay n)
 | _,_=>false
theorem kz {n:Nat} (ih:∀ d,lay n d=true→(toP d).canLay0=true∧(toP d).depth≤n + 1):∀ ds:List D,ds.all (lay n)=true→PyData.canLayAll0 (toPs ds)=true∧PyData.depthAll (toPs ds)≤n + 1
 | [],_=>by rw [toPs]; simp [PyData.canLayAll0,PyData.depthAll]
 | d :: ds,h=>by
  rw [List.all_cons,Bool.and_eq_true] at h
  have h1:=ih d h.1
  have h2:=kz ih ds h.2
  rw [toPs]
  simp only [PyData.canLayAll0,PyData.depthAll,h1.1,h2.1,Bool.and_self,true_and]
  omega
theorem mL:∀ (n:Nat) (d:D),lay n d=true→(toP d).canLay0=true∧(toP d).depth≤n + 1
 | n,.int _,_=>by rw [toP]; simp [PyData.canLay0,PyData.depth]
 | n,.bl _,_=>by rw [toP]; simp [PyData.canLay0,PyData.depth]
 | n,.non,_=>by rw [toP]; simp [PyData.canLay0,PyData.depth]
 | n + 1,.tup ds,h=>by
  have:=kz (mL n) ds (by simpa [lay] using h)
  rw [toP]; simp only [PyData.canLay0,PyData.depth,this.1,true_and]; omega
 | n + 1,.lst ds,h=>by
  have:=kz (mL n) ds (by simpa [lay] using h)
  rw [toP]; simp only [PyData.canLay0,PyData.depth,this.1,true_and]; omega
 | 0,.tup _,h=>by simp [lay] at h
 | 0,.lst _,h=>by simp [lay] at h
 | n,.str _,h=>by cases n <;> simp [lay] at h
 | n,.dct,h=>by cases n <;> simp [lay] at h
 | n,.dic _ _,h=>by cases n <;> simp [lay] at h
 | n,.scr _ _,h=>by cases n <;> simp [lay] at h
 | n,.ext _,h=>by cases n <;> simp [lay] at h
theorem kg {n:Nat} {d:D} (h:lay n d=true) (hn:n≤60):okD d=true:=by
 have:=mL n d h
 unfold okD SeqAt.shaped
 rw [this.1,Bool.true_and]
 exact decide_eq_true (by omega)
theorem j6 {n:Nat} (ih:∀ d,lay n d=true→PyData.eqv (toP d) (toP d)=true):∀ ds:List D,ds.all (lay n)=true→PyData.eqvAll (toPs ds) (toPs ds)=true
 | [],_=>by rw [toPs]; simp [PyData.eqvAll]
 | d :: ds,h=>by
  rw [List.all_cons,Bool.and_eq_true] at h
  rw [toPs,PyData.eqvAll,ih d h.1,j6 ih ds h.2]; rfl
theorem f_:∀ (n:Nat) (d:D),lay n d=true→eqD d d=true
 | n,.int _,_=>by unfold eqD; rw [toP,PyData.eqv]; simp
 | n,.bl _,_=>by unfold eqD; rw [toP,PyData.eqv]; simp
 | n,.non,_=>by unfold eqD; rw [toP,PyData.eqv]
 | n + 1,.tup ds,h=>by unfold eqD; rw [toP,PyData.eqv]; exact j6 (f_ n) ds (by simpa [lay] using h)
 | n + 1,.lst ds,h=>by unfold eqD; rw [toP,PyData.eqv]; exact j6 (f_ n) ds (by simpa [lay] using h)
 | 0,.tup _,h=>by simp [lay] at h
 | 0,.lst _,h=>by simp [lay] at h
 | n,.str _,h=>by cases n <;> simp [lay] at h
 | n,.dct,h=>by cases n <;> simp [lay] at h
 | n,.dic _ _,h=>by cases n <;> simp [lay] at h
 | n,.scr _ _,h=>by cases n <;> simp [lay] at h
 | n,.ext _,h=>by cases n <;> simp [lay] at h
theorem jq (n:Nat) (ns:List Int):(ns.map D.int).all (lay n)=true:=by
 rw [List.all_eq_true]; intro d hd; obtain ⟨x,_,rfl⟩:=fT hd; cases n <;> rfl
theorem jI (n:Nat) (ns:List Int):lay (n + 1) (aF ns)=true:=by unfold aF; rw [lay]; exact jq n ns
theorem oS (n:Nat) (ns ms:List Int):lay (n + 2) (aw ns ms)=true:=by unfold aw; rw [lay,List.all_cons,List.all_cons,jI,jI]; rfl
structure Ask where
 one:Int
 other:Int
 size:Int
 worth:Int
def bv (a:Ask):D:=.tup [.int a.one,.int a.other,.int a.size,.int a.worth]
def aM (as:List Ask):D:=.lst (as.map bv)
structure AskOk (ps:List Int) (a:Ask):Prop where
 ends:Ends2 ps a.one a.other
 s0 : 1≤a.size
 s1:a.size≤1000000
 w0 : 1≤a.worth
 w1:a.worth≤1000000000000
structure AsksOk (ps:List Int) (as:List Ask):Prop where
 len:as.length≤30
 ok:∀ a∈as,AskOk ps a
theorem jL (as:List Ask):imms (as.map bv)=true:=by
 induction as with
 | nil=>rfl
 | cons a r ih=>rw [List.map_cons,imms,ih]; rfl
theorem oM (n:Nat) (as:List Ask):lay (n + 2) (aM as)=true:=by
 unfold aM; rw [lay,List.all_eq_true]; intro d hd
 obtain ⟨a,_,rfl⟩:=List.mem_map.mp hd
 rw [bv,lay]
 exact jq n [a.one,a.other,a.size,a.worth]
theorem jZ {as:List Ask} {i:Nat} {d:D} (h:(as.map bv)[i]? = some d):∃ a,as[i]? = some a∧d=bv a:=by
 rw [List.getElem?_map] at h
 cases e:as[i]? with
 | none=>rw [e] at h; cases h
 | some z=>rw [e] at h; exact ⟨z,rfl,(Option.some.inj h).symm⟩
def kU:Ask:=⟨0,0,0,0⟩
theorem qN {as:List Ask} {k:Nat} (h:k<as.length):as.getD k kU∈as:=by rw [List.getD_eq_getElem?_getD,List.getElem?_eq_getElem h]; exact List.getElem_mem h
theorem dW (as:List Ask):(as.map bv).length=as.length:=List.length_map _
theorem oH (as:List Ask) (a:Ask):D.lst (as.map bv++[bv a])=aM (as++[a]):=by unfold aM; rw [List.map_append]; rfl
def iY (ps:List Int):Nat→Int→Int→List Int
 | 0,_,_=>[]
 | f + 1,a,b=>if b<a then a :: iY ps f b (dr ps a) else if a<b then b :: iY ps f a (dr ps b) else []
def iW (ps:List Int):Nat→Int→Int→Int
 | 0,a,_=>a
 | f + 1,a,b=>if b<a then iW ps f b (dr ps a) else if a<b then iW ps f a (dr ps b) else a
theorem fX {ps rs:List Int} (hT:Tree ps rs):∀ (f:Nat) (a b:Int),(a + b).toNat≤f→0≤a→0≤b→a≤ps.length→b≤ps.length→Climb ps a b (iY ps f a b) (iW ps f a b)
 | 0,a,b,hf,a0,b0,_,_=>by
  have:a=b:=by omega
  subst this
  exact .same a
 | f + 1,a,b,hf,a0,b0,a1,b1=>by
  unfold iY iW
  by_cases h1:b<a
  ·rw [if_pos h1,if_pos h1]
   have hp:=hT.up (show 0<a by omega) a1
   exact .left h1 (fX hT f b _ (by omega) b0 hp.1 b1 (by omega))
  ·rw [if_neg h1,if_neg h1]
   by_cases h2:a<b
   ·rw [if_pos h2,if_pos h2]
    have hp:=hT.up (show 0<b by omega) b1
    exact .right h2 (fX hT f a _ (by omega) a0 hp.1 a1 (by omega))
   ·rw [if_neg h2,if_neg h2]
    have:a=b:=by omega
    subst this
    exact .same a
def nS (ps:List Int) (a b:Int):List Int:=db (iY ps 100 a b)
def uJ (ps:List Int) (a b:Int):Int:=iW ps 100 a b
theorem Climb.way {ps rs:List Int} (hT:Tree ps rs) {a b m:Int} {w:List Int} (h:Climb ps a b w m) (a0 : 0≤a) (b0 : 0≤b) (a1:a≤ps.length) (b1:b≤ps.length):db w=nS ps a b∧m=uJ ps a b:=by
 have hi:=hT.hi
 have:=h.det (fX hT 100 a b (by omega) a0 b0 a1 b1)
 exact ⟨by rw [this.1]; rfl,this.2⟩
theorem ng {ps rs:List Int} (hT:Tree ps rs) {a b:Int} (a0 : 0≤a) (b0 : 0≤b) (a1:a≤ps.length) (b1:b≤ps.length):∃ w,Climb ps a b w (uJ ps a b)∧nS ps a b=db w:=by
 have hi:=hT.hi
 exact ⟨_,fX hT 100 a b (by omega) a0 b0 a1 b1,rfl⟩
theorem ic {ps rs:List Int} (hT:Tree ps rs) {a b:Int} (he:Ends2 ps a b) {x:Int} (hx:x∈nS ps a b) : 0<x∧x≤ps.length:=by
 obtain ⟨w,hw,e⟩:=ng hT he.a0 he.b0 he.a1 he.b1
 rw [e] at hx
 exact hw.mem hT he.a0 he.b0 he.a1 he.b1 x ((cI w).mem_iff.mp hx)
def bn (ps:List Int) (a:Ask):List Int:=nS ps a.one a.other
def tG:SpD:=fun ds q=>∃ ps rs a,ds=[aw ps rs,bv a]∧Tree ps rs∧Ends2 ps a.one a.other∧q (aF (bn ps a)) []
theorem i3 (n:Nat) (d:D):(List.replicate n [d]).flatten=List.replicate n d:=by
 induction n with
 | zero=>rfl
 | succ n ih=>rw [List.replicate_succ,List.flatten_cons,ih,List.replicate_succ]; rfl
theorem oX (n:Nat) (x:Int):List.replicate n (D.int x)=(List.replicate n x).map D.int:=by rw [List.map_replicate]
theorem s9 {n:Nat} {k:Int} (h0 : 0≤k) (h1:k<n):ixN n k=some k.toNat:=by unfold ixN; rw [if_pos h0,if_pos h1]
def tI:SpD:=fun ds q=>∃ c m ps rs least most sizes,ds=[aF [c,m],aw ps rs,.int least,.int most,aF sizes]∧0≤c∧Tree ps rs∧0≤least∧least≤most∧most≤30∧1≤sizes.length∧sizes.length≤100∧(∀ s∈sizes,1≤s∧s≤1000000) ∧
 ∀ as c' m',AsksOk ps as→least≤as.length→(as.length:Int)≤most→(∀ a∈as,∃ s∈sizes,a.size≤s)→0≤c'→q (aM as) [some (aF [c',m'])]
theorem mF {ps:List Int} {a r:Int} (a0 : 0≤a) (a1:a<1 + (ps.length:Int)) (r0 : 0≤r) (r1:r<ps.length):Ends2 ps a ((a + 1 + r) % (1 + (ps.length:Int))):=by
 refine ⟨a0,by omega,Int.emod_nonneg _ (by omega),?_,?_⟩
 ·have:=Int.emod_lt_of_pos (a + 1 + r) (show 0<1 + (ps.length:Int) by omega); omega
 ·intro he
  by_cases hlt:a + 1 + r<1 + (ps.length:Int)
  ·rw [Int.emod_eq_of_lt (by omega) hlt] at he; omega
  ·have e:(a + 1 + r) % (1 + (ps.length:Int))=a + 1 + r - (1 + (ps.length:Int)):=by
    rw [← Int.sub_emod_right,Int.emod_eq_of_lt (by omega) (by omega)]
   omega
section
variable {X:Cx}
end
section
variable {X:Cx} {M:Md} {e:Expr} {ma:ME} {pos:Pos}
end
def eqB:Value→Bool
 | .bool a=>a == true
 | _=>false
def wx:V→List V→Hp→VK→Prop:=fun x vs H Q=>∃ (l:Addr) (bs:List Bool),x = .ref l∧vs=[.bl true]∧H l=some (.lst (bs.map V.bl))∧Q (.int (bs.countP id:Nat)) H
theorem jQ:∀ {bs:List Bool} {us:List Value},aV (bs.map V.bl) us→us=bs.map Value.bool
 | [],_,.nil=>rfl
 | b :: bs,_,.cons r t=>by rw [jQ (bs:=bs) t]; cases r; rfl
theorem iV:∀ bs:List Bool,(bs.map Value.bool).countP eqB=bs.countP id
 | []=>rfl
 | b :: bs=>by rw [List.map_cons,List.countP_cons,List.countP_cons,iV bs]; cases b <;> rfl
section
variable {X:Cx}
theorem sk:MtM X "list.count" wx:=by
 (try refine ⟨?_⟩); intro pins s σ H x vs v us Q I rx rv h
 obtain ⟨l,bs,rfl,rfl,hH,q⟩:=h
 cases rx
 obtain ⟨u,rfl,ru⟩:=rv.one
 cases ru
 obtain ⟨z,its,n,r,hl,e⟩:=I.lstM hH
 have ei:=jQ r
 subst ei
 refine call_meets F.slot_list_count ⟨_,e,rfl⟩ F.entry_list_count (F.args_list_count_2 _ _)
  (SeqAt.list_countAt l (bs.map Value.bool).toArray n none #[] (.bool true) eqB) ⟨e,fun y hy=>?_,?_⟩
 ·obtain ⟨b,hb,rfl⟩:=List.mem_map.mp (List.mem_toArray.mp hy)
  exact SeqAt.EqAt.bool_bool b true
 ·refine ⟨.int (bs.countP id:Nat),H,I.tok _,⟨s.toks,?_⟩,q⟩
  show Value.int (((bs.map Value.bool).toArray.toList.countP eqB:Nat):Int) s.toks=_
  rw [← iV]
variable {ow:List Bool} {e:Expr} {ma:ME}
theorem jH {G:Hp}:∀ {bs:List Bool} {xs:List V},Reps G (bs.map D.bl) xs→xs=bs.map V.bl
 | [],xs,h=>by rw [List.map_nil,Reps] at h; subst h; rfl
 | n :: r,xs,h=>by rw [List.map_cons,Reps] at h; obtain ⟨v,vs,rfl,h1,h2⟩:=h; rw [cH h1,jH h2]; rfl
def xb (m:ME):ME:=fun ρ q=>m ρ fun d ρ1=>match d with
 | .lst ds=>∃ bs:List Bool,ds=bs.map D.bl∧q (.int (bs.countP id:Nat)) ρ1
 | _=>False
theorem pe {j1:Nat} {p1 apos cpos:Pos} (h:QE X ow e ma)
 (hbase:attributeBase e "count" X.env (eval e X.env)=eval e X.env:=by rfl)
 (hfew:((backTo cpos (starEach [.Constant (.bool true) j1 p1] X.env)).all (fun x=>!x.1)&&(backToKw cpos (keywordEach [] X.env)).all (fun x=>x.1.isSome)
  && decide (([.Constant (.bool true) j1 p1]:List Expr).length + ([]:List Keyword).length + (if ([]:List Keyword).isEmpty then 0 else 1)<30))=true:=by rfl)
 (hline:(apos.endLine == cpos.line)=true:=by rfl) (hst:starEach [.Constant (.bool true) j1 p1] X.env=[(false,eval (.Constant (.bool true) j1 p1) X.env)]:=by rfl) :
 QE X ow (.Call (.Attribute e "count" apos) [.Constant (.bool true) j1 p1] [] cpos) (xb ma):=by
 obtain ⟨t,p,s⟩:=h
 refine ⟨_,uS PySem.F.plainAttrs_list PySem.F.slot_list_count PySem.F.type_list_count sk p (a6 uu cq hst) hbase hfew hline hst (by rfl),fun C G ρ σ H pd q Q r hm k=>s C G ρ σ H pd _ _ r hm fun d ρ' v G' H' hq z kp r' pp=>?_⟩
 cases d with
 | lst ds =>
  obtain ⟨bs,rfl,hq⟩:=hq
  obtain ⟨l,xs,rfl,h1,h2⟩:=bu pp
  have ex:=jH h2
  subst ex
  refine ⟨.inl ⟨rfl,_,SqL.of (r'.gh _ _ h1)⟩,?_⟩
  refine ⟨l,bs,rfl,rfl,r'.gh _ _ h1,?_⟩
  exact k _ ρ' _ _ _ hq z kp r' (bg _)
 | _=>exact hq.elim
end
section
variable {X:Cx}
variable {ow:List Bool} {e:Expr} {ma:ME} {pos p1 p2 p3:Pos}
end
end L2
namespace L2
open PySem
end L2
namespace L2
open PySem PySem.Spec PyProof.Rows
section
variable {prog:Program} {w:World} {A:Around} {E:Value→Shared→Prop} {s:Shared}
end
section
variable {X:Cx} {M:Md} {e:Expr} {es:List Expr} {mgs:MGs} {pos:Pos}
end
section
variable {X:Cx} {M:Md} {pos:Pos}
end
section
variable {X:Cx} {es:List Expr} {k:Nat} {tpos:Pos}
variable {ow:List Bool} {a b:Expr} {mr:MA} {pos:Pos}
end
end L2
namespace L2
open PySem
def dQ (r:Rat):D:=.tup [.int r.num,.int r.den]
def dQs (rs:List Rat):D:=.lst (rs.map dQ)
theorem kl {t b:Int} (hb : 0<b):bF t b=(b.gcd t:Int):=by
 unfold bF; rw [if_neg (by omega),Int.gcd_comm]
theorem kA {t b:Int} (hb : 0<b):t / bF t b=(Rat.divInt t b).num:=by
 rw [Rat.num_divInt,Int.sign_eq_one_of_pos hb,Int.one_mul,kl hb]
theorem ku {t b:Int} (hb : 0<b):b / bF t b=((Rat.divInt t b).den:Int):=by
 rw [Rat.den_divInt,if_neg (by omega),kl hb]
 have:(b.natAbs:Int)=b:=by omega
 rw [Int.natCast_ediv,this]
theorem a8 (r:Rat):(0:Int)<r.den:=by have:=r.den_pos; omega
theorem cr (r:Rat):Rat.divInt r.num r.den=r:=Rat.num_divInt_den r
structure Bt (r:Rat) (n:Nat):Prop where
 num:r.num.natAbs<2 ^ n
 den:r.den<2 ^ n
theorem cC {m n:Nat} (h:m≤n):(2:Nat) ^ m≤2 ^ n:=Nat.pow_le_pow_right (by decide) h
theorem Bt.mono {r:Rat} {m n:Nat} (h:Bt r m) (hm:m≤n):Bt r n:=⟨Nat.lt_of_lt_of_le h.num (cC hm),Nat.lt_of_lt_of_le h.den (cC hm)⟩
theorem Bt.smN {r:Rat} {m:Nat} (h:Bt r m) (hm:m≤8000):Sm r.num:=Nat.lt_of_lt_of_le h.num (cC hm)
theorem Bt.smD {r:Rat} {m:Nat} (h:Bt r m) (hm:m≤8000):Sm (r.den:Int):=by
 show ((r.den:Int)).natAbs<_
 rw [Int.natAbs_natCast]; exact Nat.lt_of_lt_of_le h.den (cC hm)
theorem gw {a b:Int} (hb : 0<b):(a / b).natAbs≤a.natAbs:=by
 have h1:=Int.ediv_mul_le a (show b≠0 by omega)
 have h2:=Int.lt_ediv_add_one_mul_self a hb
 rcases Int.lt_or_le a 0 with h | h
 ·have h3:a≤a / b:=by
   rcases Int.lt_or_le (a / b) a with z | z
   ·exfalso
    have:(a / b + 1) * b≤(a / b + 1) * 1:=Int.mul_le_mul_of_nonpos_left (by omega) (by omega)
    omega
   ·exact z
  have h4:a / b<0:=Int.ediv_neg_of_neg_of_pos h hb
  omega
 ·have:=Int.ediv_nonneg h (show 0≤b by omega)
  have:=Int.ediv_le_self b h
  omega
theorem jt {t b:Int} (hb : 0<b):(Rat.divInt t b).num.natAbs≤t.natAbs∧(Rat.divInt t b).den≤b.natAbs:=by
 have g:=d9 (n:=t) hb
 constructor
 ·rw [← kA hb]; exact gw g
 ·have e:=ku (t:=t) hb
  have:=gw (a:=b) g
  omega
theorem Bt.divInt {t b:Int} {n:Nat} (hb : 0<b) (h1:t.natAbs<2 ^ n) (h2:b.natAbs<2 ^ n):Bt (Rat.divInt t b) n:=by
 have:=jt (t:=t) hb
 exact ⟨by omega,by omega⟩
theorem w9 (r s:Rat):r + s=Rat.divInt (r.num * s.den + s.num * r.den) (r.den * s.den):=by
 have h:=Rat.divInt_add_divInt r.num s.num (d₁:=r.den) (d₂:=s.den) (by have:=a8 r; omega) (by have:=a8 s; omega)
 rw [cr,cr] at h; exact h
theorem so (r s:Rat):r - s=Rat.divInt (r.num * s.den - s.num * r.den) (r.den * s.den):=by
 have h:=Rat.divInt_sub_divInt r.num s.num (d₁:=r.den) (d₂:=s.den) (by have:=a8 r; omega) (by have:=a8 s; omega)
 rw [cr,cr] at h; exact h
theorem o8 (r s:Rat):r * s=Rat.divInt (r.num * s.num) (r.den * s.den):=by
 have h:=Rat.divInt_mul_divInt r.num s.num (d₁:=r.den) (d₂:=s.den)
 rw [cr,cr] at h; exact h
theorem b9 (a b:Int):(a * b).natAbs=a.natAbs * b.natAbs:=Int.natAbs_mul a b
theorem a7 {a b m n:Nat} (h1:a<2 ^ m) (h2:b<2 ^ n):a * b<2 ^ (m + n):=by
 rw [Nat.pow_add]
 exact Nat.mul_lt_mul_of_lt_of_le h1 (Nat.le_of_lt h2) (Nat.pow_pos (by decide))
theorem cV (r s:Rat):(0:Int)<r.den * s.den:=Int.mul_pos (a8 r) (a8 s)
theorem Bt.add {r s:Rat} {m n:Nat} (h1:Bt r m) (h2:Bt s n):Bt (r + s) (m + n + 1):=by
 rw [w9]
 have e1:(r.num * s.den).natAbs<2 ^ (m + n):=by rw [b9,Int.natAbs_natCast]; exact a7 h1.num h2.den
 have e2:(s.num * r.den).natAbs<2 ^ (m + n):=by rw [b9,Int.natAbs_natCast,Nat.mul_comm]; exact a7 h1.den h2.num
 have e3:((r.den:Int) * s.den).natAbs<2 ^ (m + n):=by rw [b9,Int.natAbs_natCast,Int.natAbs_natCast]; exact a7 h1.den h2.den
 have e4:(2:Nat) ^ (m + n + 1)=2 ^ (m + n) + 2 ^ (m + n):=by rw [Nat.pow_succ]; omega
 exact Bt.divInt (cV r s) (Nat.lt_of_le_of_lt (Int.natAbs_add_le _ _) (by rw [e4]; exact Nat.add_lt_add e1 e2)) (Nat.lt_of_lt_of_le e3 (by rw [e4]; exact Nat.le_add_left _ _))
theorem Bt.sub {r s:Rat} {m n:Nat} (h1:Bt r m) (h2:Bt s n):Bt (r - s) (m + n + 1):=by
 rw [so]
 have e1:(r.num * s.den).natAbs<2 ^ (m + n):=by rw [b9,Int.natAbs_natCast]; exact a7 h1.num h2.den
 have e2:(s.num * r.den).natAbs<2 ^ (m + n):=by rw [b9,Int.natAbs_natCast,Nat.mul_comm]; exact a7 h1.den h2.num
 have e3:((r.den:Int) * s.den).natAbs<2 ^ (m + n):=by rw [b9,Int.natAbs_natCast,Int.natAbs_natCast]; exact a7 h1.den h2.den
 have e4:(2:Nat) ^ (m + n + 1)=2 ^ (m + n) + 2 ^ (m + n):=by rw [Nat.pow_succ]; omega
 exact Bt.divInt (cV r s) (Nat.lt_of_le_of_lt (Int.natAbs_sub_le _ _) (by rw [e4]; exact Nat.add_lt_add e1 e2)) (Nat.lt_of_lt_of_le e3 (by rw [e4]; exact Nat.le_add_left _ _))
theorem Bt.mul {r s:Rat} {m n:Nat} (h1:Bt r m) (h2:Bt s n):Bt (r * s) (m + n):=by
 rw [o8]
 exact Bt.divInt (cV r s) (by rw [b9]; exact a7 h1.num h2.num) (by rw [b9,Int.natAbs_natCast,Int.natAbs_natCast]; exact a7 h1.den h2.den)
theorem bt0 {n:Nat} (h : 0<n):Bt 0 n:=⟨by show 0<2 ^ n; exact Nat.pow_pos (by decide),by show 1<2 ^ n; exact Nat.one_lt_two_pow (by omega)⟩
theorem btI {i:Int} {n:Nat} (h:i.natAbs<2 ^ n) (hn : 0<n):Bt (i:Rat) n:=⟨by rw [Rat.num_intCast]; exact h,by rw [Rat.den_intCast]; exact Nat.one_lt_two_pow (by omega)⟩
theorem j9 (i:Int):D.tup [.int i,.int 1]=dQ (i:Rat):=by unfold dQ; rw [Rat.num_intCast,Rat.den_intCast]; rfl
theorem Sm.of {i:Int} {n:Nat} (h:i.natAbs<2 ^ n) (hn:n≤8000):Sm i:=Nat.lt_of_lt_of_le h (cC hn)
def sdGcd:SpD:=fun ds q=>∃ n b,ds=[.int n,.int b]∧0≤b∧q (.int (bF n b)) []
def wa:SpD:=fun ds q=>∃ t b,ds=[.int t,.int b]∧b≠0∧Sm b∧q (dQ (Rat.divInt t b)) []
def uc:SpD:=fun ds q=>∃ r s,ds=[dQ r,dQ s]∧Bt r 3950∧Bt s 3950∧q (dQ (r - s)) []
def tz:SpD:=fun ds q=>∃ r s,ds=[dQ r,dQ s]∧Bt r 3950∧Bt s 3950∧q (dQ (r * s)) []
def sC:SpD:=fun ds q=>∃ r s,ds=[dQ r,dQ s]∧Bt r 3950∧Bt s 3950∧q (.bl (decide (r<s))) []
def iU (rs:List Rat):Nat:=(rs.map (·.den)).foldr (· * ·) 1
def we:SpD:=fun ds q=>∃ (rs:List Rat) (M:Nat),ds=[dQs rs]∧rs.length≤200∧(∀ r∈rs,r.num.natAbs<2 ^ 3900∧r.den∣M)∧0<M∧M<2 ^ 3900∧q (dQ rs.sum) []
theorem oE:iU []=1:=rfl
theorem fP (r:Rat) (rs:List Rat):iU (r :: rs)=r.den * iU rs:=rfl
theorem oY (rs:List Rat) : 0<iU rs:=by
 induction rs with
 | nil=>decide
 | cons r rs ih=>rw [fP]; exact Nat.mul_pos r.den_pos ih
theorem o5 {rs:List Rat} {r:Rat} (h:r∈rs):r.den∣iU rs:=by
 induction rs with
 | nil=>cases h
 | cons x rs ih =>
  rw [fP]
  rcases List.mem_cons.mp h with rfl | h
  ·exact Nat.dvd_mul_right _ _
  ·exact Nat.dvd_trans (ih h) (Nat.dvd_mul_left _ _)
structure Com (rs:List Rat) (M:Nat) (B:Int):Prop where
 pos : 0<B
 dv:∀ r∈rs,(r.den:Int)∣B
 dm:B∣(M:Int)
theorem Com.le {rs:List Rat} {M:Nat} {B:Int} (h:Com rs M B) (hM : 0<M):B≤M:=Int.le_of_dvd (by omega) h.dm
theorem ue (M:Nat):Com [] M 1:=⟨by decide,(fun r h=>by cases h),⟨M,by simp⟩⟩
theorem pL {rs:List Rat} {M:Nat} {B:Int} {r:Rat} (h:Com rs M B) (hr:r.den∣M):Com (rs++[r]) M (B / bF B r.den * r.den):=by
 have hd:=a8 r
 have g:=d9 (n:=B) hd
 have g1:=ut (n:=B) hd
 have g2:=tZ (n:=B) hd
 obtain ⟨n,rfl⟩:∃ n:Nat,B=n:=⟨B.toNat,by have:=h.pos; omega⟩
 have eg:bF (n:Int) r.den=(Nat.gcd n r.den:Int):=by
  unfold bF; rw [if_neg (by omega)]
  show ((Int.gcd (n:Int) r.den:Nat):Int)=_
  unfold Int.gcd; rw [Int.natAbs_natCast,Int.natAbs_natCast]
 have el:(n:Int) / bF n r.den * r.den=((Nat.lcm n r.den:Nat):Int):=by
  rw [eg,← Int.natCast_ediv,← Int.natCast_mul]
  congr 1
  unfold Nat.lcm
  exact Nat.div_mul_right_comm (Nat.gcd_dvd_left n r.den) r.den
 rw [el]
 have hn : 0<n:=by have:=h.pos; omega
 refine ⟨by have:=Nat.lcm_pos hn r.den_pos; omega,fun x hx=>?_,?_⟩
 ·rcases List.mem_append.mp hx with hx | hx
  ·exact Int.dvd_trans (h.dv x hx) (Int.natCast_dvd_natCast.mpr (Nat.dvd_lcm_left n r.den))
  ·have:x=r:=by simpa using hx
   subst this; exact Int.natCast_dvd_natCast.mpr (Nat.dvd_lcm_right n x.den)
 ·exact Int.natCast_dvd_natCast.mpr (Nat.lcm_dvd (Int.natCast_dvd_natCast.mp h.dm) hr)
def sumF (B:Int):D→D
 | .tup [.int n,.int d]=>.int (n * (B / d))
 | d=>d
theorem sf (B:Int) (rs:List Rat):(rs.map dQ).map (sumF B)=(rs.map fun r=>r.num * (B / r.den)).map D.int:=by
 rw [List.map_map,List.map_map]; rfl
theorem kW {B:Int} (hB : 0<B):∀ {rs:List Rat},(∀ r∈rs,(r.den:Int)∣B)→Rat.divInt (rs.map fun r=>r.num * (B / r.den)).sum B=rs.sum
 | [],_=>by rw [List.map_nil,List.sum_nil,List.sum_nil,Rat.zero_divInt]
 | r :: rs,h=>by
  have ih:=kW hB (rs:=rs) fun x hx=>h x (.tail _ hx)
  rw [List.map_cons,List.sum_cons,List.sum_cons,← ih]
  obtain ⟨c,hc⟩:=h r (.head _)
  have hd:=a8 r
  have e1:B / r.den=c:=by rw [hc]; exact Int.mul_ediv_cancel_left c (by omega)
  have cp:c≠0:=fun z=>by rw [z,Int.mul_zero] at hc; omega
  have e2:r=Rat.divInt (r.num * c) B:=by rw [hc,Rat.divInt_mul_right cp,cr]
  rw [e1]
  conv=>rhs; rw [e2]
  rw [Rat.divInt_add_divInt _ _ (by omega) (by omega)]
  have e3:r.num * c * B + (rs.map fun r=>r.num * (B / r.den)).sum * B=(r.num * c + (rs.map fun r=>r.num * (B / r.den)).sum) * B:=by rw [Int.add_mul]
  rw [e3,Rat.divInt_mul_right (by omega)]
theorem lX (r:Rat):lay 1 (dQ r)=true:=rfl
theorem kh (r:Rat):okD (dQ r)=true:=kg (lX r) (by decide)
theorem nN (rs:List Rat):lay 2 (dQs rs)=true:=by
 show (rs.map dQ).all (lay 1)=true
 rw [List.all_map]; exact List.all_eq_true.mpr fun r _=>lX r
theorem jn (r:Rat):eqD (dQ r) (dQ r)=true:=f_ 1 _ (lX r)
theorem kX {n:Nat}:∀ {rs:List Rat},(∀ r∈rs,r.den≤n)→iU rs≤n ^ rs.length
 | [],_=>by rw [oE]; exact Nat.le_refl _
 | r :: rs,h=>by
  rw [fP,List.length_cons,Nat.pow_succ,Nat.mul_comm]
  exact Nat.mul_le_mul (kX fun x hx=>h x (.tail _ hx)) (h r (.head _))
theorem jc {rs:List Rat} {i:Int} (h0 : 0≤i) (h1:i<rs.length):atI (rs.map dQ) i=some (dQ (rs.getD i.toNat 0)):=by
 refine nq ?_
 unfold atI ixN
 rw [if_pos h0,if_pos h1]
 show rs[i.toNat]? = _
 rw [List.getD_eq_getElem?_getD,List.getElem?_eq_getElem (by omega)]; rfl
def dA (ps:List Int) (a:Ask) (prs:List Rat):Rat:=((bn ps a).map fun t=>prs.getD (t - 1).toNat 0).sum
def iA (r:Rat):Rat:=if 0<r then r else 0
def eh (ps:List Int) (a:Ask) (w:Int) (prs:List Rat):Rat:=iA ((a.worth:Rat) - (w:Rat) * dA ps a prs)
theorem ur (r:Rat):bF r.num r.den=1:=by
 rw [kl (a8 r)]
 have:=r.reduced
 unfold Nat.Coprime at this
 rw [Int.gcd_comm]
 have e:Int.gcd r.num r.den=Nat.gcd r.num.natAbs r.den:=by unfold Int.gcd; rw [Int.natAbs_natCast]
 rw [e,this]; rfl
theorem rE {r:Rat} (h : 0≤r) : 0≤r.num:=Rat.num_nonneg.mpr h
def p_ (prs:List Rat):D→D
 | .int t=>dQ (prs.getD (t - 1).toNat 0)
 | d=>d
theorem l7 (prs:List Rat) (w:List Int):(w.map D.int).map (p_ prs)=(w.map fun t=>prs.getD (t - 1).toNat 0).map dQ:=by
 rw [List.map_map,List.map_map]; rfl
theorem dR {rs:List Rat} {k:Nat} (h:k<rs.length):rs.getD k 0∈rs:=by
 rw [List.getD_eq_getElem?_getD,List.getElem?_eq_getElem h]; exact List.getElem_mem h
theorem gB {ps rs:List Int} (hT:Tree ps rs) {a b:Int} (he:Ends2 ps a b):(nS ps a b).length≤46:=by
 obtain ⟨w,hw,e⟩:=ng hT he.a0 he.b0 he.a1 he.b1
 have h1:=hw.len hT he.a0 he.b0 he.a1 he.b1
 have h2:=hT.hi
 have h3:=he.a1; have h4:=he.b1
 rw [e]
 have:=(cI w).length_eq
 omega
theorem jB {i:Int} {n:Nat} (m:Nat) (h:i.natAbs≤m) (hm:m<2 ^ n) (hn : 0<n):Bt (i:Rat) n:=btI (by omega) hn
theorem iG:∀ rs:List Rat,imms (rs.map dQ)=true
 | []=>rfl
 | r :: rs=>by rw [List.map_cons,imms,iG rs]; rfl
def pP:SpD:=fun ds q=>∃ t b,ds=[.int t,.int b]∧0<b∧Sm b∧q (dQ (Rat.divInt t b)) []
theorem oR {t b:Int} (ht : 0≤t) (hb : 0<b) : 0≤Rat.divInt t b:=(Rat.divInt_nonneg_iff_of_pos_right hb).mpr ht
theorem mO {t b:Int} (hb : 0<b) : 0<Rat.divInt t b↔0<t:=by
 have h1:=Rat.divInt_nonneg_iff_of_pos_right (a:=t) hb
 have h2:Rat.divInt t b=0↔t=0:=by
  constructor
  ·intro h
   have:=(Rat.divInt_eq_divInt_iff (n₁:=t) (n₂:=0) (d₁:=b) (d₂:=b) (by omega) (by omega)).mp (by rw [h,Rat.zero_divInt])
   rw [Int.zero_mul] at this
   rcases Int.mul_eq_zero.mp this with z | z
   ·exact z
   ·omega
  ·intro h; rw [h,Rat.zero_divInt]
 constructor
 ·intro h
  have a1 : 0≤t:=h1.mp (by grind)
  have a2:t≠0:=fun z=>by rw [h2.mpr z] at h; grind
  omega
 ·intro h
  have a1:=h1.mpr (by omega)
  have a2:Rat.divInt t b≠0:=fun z=>by have:=h2.mp z; omega
  grind
theorem ud (l:List Rat) (i:Nat) (x:Rat):D.lst ((l.map dQ).set i (dQ x))=dQs (l.set i x):=by unfold dQs; rw [List.map_set]
theorem tS {l:List Rat} {i:Nat} {x:Rat} {P:Rat→Prop} (h:∀ r∈l,P r) (hx:P x):∀ r∈l.set i x,P r:=fun r hr=>by
 rcases List.mem_or_eq_of_mem_set hr with z | z
 ·exact h r z
 ·exact z ▸ hx
theorem ij (x t B:Int):Rat.divInt (x * t) B=(x:Rat) * Rat.divInt t B:=by
 rw [Rat.divInt_eq_div,Rat.divInt_eq_div,Rat.intCast_mul]
 grind
end L2
namespace L2
open PySem PySem.Spec PyProof.Rows
def lJ (h:Heap) (e:Addr) (cls:Value) (dx:Option Addr) (tb:Value):Prop :=
 ∃ (vs:Array Value) (sl:Array (Option Value)),h.get? e=some { cls:=cls,dict:=dx,data:=.fields vs,slots:=sl }∧vs[1]? = some tb
def sj (h:Heap) (t:Addr) (v:Value):Prop:=∃ o ts,h.get? t=some o∧o.data = .fields ts∧ts[3]? = some v
def tbV:Option Addr→Value
 | none=>.none
 | some t=>.ref t
structure FlyO (h:Heap) (e:Addr) (cls:Value) (dx:Option Addr) (T:Option Addr):Prop where
 ex:lJ h e cls dx (tbV T)
 tb:∀ t,T=some t→t≠e∧sj h t .none
theorem lJ.notFrame {h base:Heap} {l:List Env} {e:Addr} {cls:Value} {dx:Option Addr} {tb:Value} (x:lJ h e cls dx tb) (hl:h.FunFrames base l):e ∉ frs l:=fun hm=>by
 obtain ⟨vs,sl,he,_⟩:=x
 obtain ⟨_,o,ho,hnf⟩:=hl.mem hm
 rw [he] at ho; cases ho; exact hnf vs rfl
theorem sj.notFrame {h base:Heap} {l:List Env} {t:Addr} {v:Value} (x:sj h t v) (hl:h.FunFrames base l):t ∉ frs l:=fun hm=>by
 obtain ⟨o',ts,he,hd,_⟩:=x
 obtain ⟨_,o,ho,hnf⟩:=hl.mem hm
 rw [he] at ho; cases ho; exact hnf ts hd
section
variable {M:Model} {A:Around} {E:Value→Shared→Prop} {s:Shared}
def h8 (l:List Env) (e:Addr) (T:Option Addr) (h h':Heap):Prop:=∀ b o,b≠e→T≠some b→h.get? b=some o→(b ∉ frs l→h'.get? b=some o)∧∃ sl,h'.get? b=some { o with slots:=sl }
theorem jD {base:Heap} {env:Env} {outer:List Env} {L e:Addr} {cls:Value} {dx:Option Addr} {tb head:Value} {hadNext:Bool} {Q:Unit→Shared→Prop}
 (hfr:A.frames=some (env :: outer)) (hl:s.heap.FunFrames base (env :: outer)) (hf:env.frame=some L) (F:lJ s.heap e cls dx tb)
 (h:∀ h',s.heap.objs.size≤h'.objs.size→∀ t',s.heap.objs.size≤t'→FlyO h' e cls dx (some t')→h8 (env :: outer) e none s.heap h'→Q () { s with heap:=h' }) :
 wpAny M A (do let a ← frameOf env; let pl ← entryPlaceOf L hadNext; let b ← EntryCells.newEntry head a .none (rawInt L) .none pl; setField (.ref e) 1 b) (fun _ s'=>wpAny M A (setFlight (.ref e) none) Q E s') E s:=by
 have hene:=F.notFrame hl
 obtain ⟨vs,sl,he,h1⟩:=F
 have hsz : 1<vs.size:=(Array.getElem?_eq_some_iff.mp h1).1
 refine wpAny_bind (wpAny_frameOf_fun hfr hl hf fun g1 hs1=>?_)
 refine wpAny_bind (wpAny_entryPlaceOf fun pl hpl=>?_)
 unfold EntryCells.newEntry newFields
 refine wpAny_bind (wpAny_newObj_type ?_ (hpl.sizeOk5 _ _ _ _ _))
 have he1:g1.get? e=some { cls:=cls,dict:=dx,data:=.fields vs,slots:=sl }:=(hs1.2.1 e hene).trans he
 generalize hO:({ cls:=.type "traceback",dict:=none,data:=.fields ([head,.ref L,.none,rawInt L,.none]++(if pl.isEmpty then List.replicate 6 Value.none else pl)).toArray }:Obj)=O
 have hOd:∃ ts:Array Value,O.data = .fields ts∧3<ts.size:=by
  rw [← hO]; exact ⟨_,rfl,by simp only [List.size_toArray,List.length_append,List.length_cons,List.length_nil]; omega⟩
 have hOf:O.isFreed=false:=by rw [← hO]; rfl
 obtain ⟨ts,hts,h3⟩:=hOd
 have he2:=Heap.get?_push_of_some (h:=g1) O he1
 refine wpAny_setField he2 rfl hsz ?_
 have hTe:g1.objs.size≠e:=Nat.ne_of_gt (Heap.lt_size he1)
 have he3:=Heap.get?_update_self (Obj.mapFields (·.setIfInBounds 1 (Value.ref g1.objs.size))) he2 (Obj.isFreed_of_fields (Obj.data_mapFields rfl _))
 have hT3:((g1.push O).update e (Obj.mapFields (·.setIfInBounds 1 (Value.ref g1.objs.size)))).get? g1.objs.size=some O:=(Heap.get?_update_other _ _ (Ne.symm hTe)).trans (Heap.get?_push_size g1 hOf)
 unfold setFlight
 refine wpAny_bind (wpAny_field he3 (Obj.data_mapFields rfl _) (x:=.ref g1.objs.size) (by simp [hsz]) ?_)
 rw [if_pos (show (Value.ref g1.objs.size != Value.none)=true from by simp)]
 refine wpAny_setField hT3 hts h3 ?_
 have hsz1:g1.objs.size=s.heap.objs.size:=hs1.1
 refine h _ ?_ g1.objs.size (Nat.le_of_eq hsz1.symm) ⟨⟨_,sl,?_,by show (vs.setIfInBounds 1 (Value.ref g1.objs.size))[1]? = _; simp [hsz]; rfl⟩,fun t ht=>?_⟩ fun b o hbe _ hb=>?_
 ·rw [Heap.size_after_update,Heap.size_after_update,Heap.size_push]; exact Nat.le_succ_of_le (Nat.le_of_eq hsz1.symm)
 ·rw [Heap.get?_update_other _ _ hTe]; exact he3
 ·cases ht
  refine ⟨hTe,_,_,Heap.get?_update_self _ hT3 (Obj.isFreed_of_fields (Obj.data_mapFields hts _)),Obj.data_mapFields hts _,?_⟩
  show (ts.setIfInBounds 3 ((none:Option Addr).elim Value.none fun f=>rawInt f))[3]? = _
  simp [h3]
 ·have keep:∀ o',g1.get? b=some o'→(((g1.push O).update e (Obj.mapFields (·.setIfInBounds 1 (Value.ref g1.objs.size)))).update g1.objs.size (Obj.mapFields (·.setIfInBounds 3 ((none:Option Addr).elim Value.none fun f=>rawInt f)))).get? b=some o':=fun o' ho'=>by
   have hbT:g1.objs.size≠b:=Nat.ne_of_gt (Heap.lt_size ho')
   rw [Heap.get?_update_other _ _ hbT,Heap.get?_update_other _ _ (Ne.symm hbe)]
   exact Heap.get?_push_of_some _ ho'
  obtain ⟨sl',hb'⟩:=hs1.2.2 b o hb
  exact ⟨fun hn=>keep o ((hs1.2.1 b hn).trans hb),sl',keep _ hb'⟩
theorem lC {base:Heap} {env:Env} {outer:List Env} {L e:Addr} {cls:Value} {dx:Option Addr} {T:Option Addr} {Q:Unit→Shared→Prop}
 (hfr:A.frames=some (env :: outer)) (hl:s.heap.FunFrames base (env :: outer)) (hf:env.frame=some L) (F:FlyO s.heap e cls dx T)
 (h:∀ h',s.heap.objs.size≤h'.objs.size→∀ t',s.heap.objs.size≤t'→FlyO h' e cls dx (some t')→h8 (env :: outer) e T s.heap h'→(∀ t,T=some t→∃ o,h'.get? t=some o)→Q () { s with heap:=h' }) :
 wpAny M A (noteFrame (.ref e) env) (fun _ s'=>wpAny M A (setFlight (.ref e) none) Q E s') E s:=by
 obtain ⟨X,tb⟩:=F
 obtain ⟨vs,sl,he,h1⟩:=id X
 unfold noteFrame
 simp only [hf]
 refine wpAny_bind (wpAny_field he rfl h1 ?_)
 cases T with
 | none =>
  rw [if_neg (by decide)]
  exact jD hfr hl hf X fun h' hs t' ht' fl kb=>h h' hs t' ht' fl kb fun t z=>by cases z
 | some T =>
  obtain ⟨hTe,oT,ts,hT,hdT,h3⟩:=tb T rfl
  show wpAny M A (if (Value.ref T != Value.none)=true then _ else _) _ _ _
  rw [if_pos (show (Value.ref T != Value.none)=true from by simp)]
  refine wpAny_bind (wpAny_field hT hdT h3 ?_)
  rw [if_neg (show ¬ ((Value.none == rawInt L)=true) from by simp [rawInt])]
  refine wpAny_bind (wpAny_setField hT hdT (Array.getElem?_eq_some_iff.mp h3).1 ?_)
  have other:∀ b,b≠T→(s.heap.update T (Obj.mapFields (·.setIfInBounds 3 Value.none))).get? b=s.heap.get? b:=fun b hb=>Heap.get?_update_other _ _ (Ne.symm hb)
  have hTn:=sj.notFrame ⟨oT,ts,hT,hdT,h3⟩ hl
  have hl2:(s.heap.update T (Obj.mapFields (·.setIfInBounds 3 Value.none))).FunFrames base (env :: outer):=hl.of_keeps fun b o hb hnf=>⟨o,(other b fun q=>by subst q; rw [hT] at hb; cases hb; exact hnf ts hdT).trans hb,rfl⟩
  have hT2:=Heap.get?_update_self (Obj.mapFields (·.setIfInBounds 3 Value.none)) hT (Obj.isFreed_of_fields (Obj.data_mapFields hdT _))
  refine jD (s:={ s with heap:=s.heap.update T (Obj.mapFields (·.setIfInBounds 3 Value.none)) }) hfr hl2 hf ⟨vs,sl,(other e (Ne.symm hTe)).trans he,h1⟩ fun h' hs t' ht' fl kb=>?_
  have hs':s.heap.objs.size≤h'.objs.size:=by rw [Heap.size_after_update] at hs; exact hs
  have ht2:s.heap.objs.size≤t':=by rw [Heap.size_after_update] at ht'; exact ht'
  refine h h' hs' t' ht2 fl (fun b o hbe hbT hb=>kb b o hbe (by simp) ((other b fun q=>hbT (by rw [q])).trans hb)) fun t z=>?_
  cases z
  obtain ⟨_,sl2,q⟩:=kb T _ hTe (by simp) hT2
  exact ⟨_,q⟩
theorem oJ {base:Heap} {env:Env} {outer:List Env} {L e:Addr} {cls:Value} {dx:Option Addr} {T:Option Addr} {Q:Unit→Shared→Prop}
 (hfr:A.frames=some (env :: outer)) (hl:s.heap.FunFrames base (env :: outer)) (hf:env.frame=some L) (F:FlyO s.heap e cls dx T)
 (h:∀ h',s.heap.objs.size≤h'.objs.size→∀ t',s.heap.objs.size≤t'→FlyO h' e cls dx (some t')→h8 (env :: outer) e T s.heap h'→(∀ t,T=some t→∃ o,h'.get? t=some o)→Q () { s with heap:=h' }):wpAny M A (leaving env (.ref e)) Q E s:=by
 unfold leaving
 exact wpAny_bind (lC hfr hl hf F h)
end
abbrev XS:=St→XK
structure Out (X:Cx) (pins:List (Addr×Obj)) (H:Hp) (a:Addr):Prop where
 new:X.s₀.heap.get? a=none
 unt:H a=none
 pin:∀ p∈X.pn++pins,p.1≠a
structure Fly (X:Cx) (pins:List (Addr×Obj)) (H:Hp) (s:Shared) (e:Addr) (cls:Value) (dx:Option Addr):Prop where
 go:∃ T,FlyO s.heap e cls dx T∧Out X pins H e∧∀ t,T=some t→Out X pins H t
structure Acc (X:Cx) (xk:XS):Prop where
 go:∀ (pins:List (Addr×Obj)) (σ:St) (H:Hp) (s:Shared) (e:Addr) (cls:Value) (dx:Option Addr),Inv X pins σ H s→Fly X pins H s e cls dx→xk σ cls dx H→X.xe (.ref e) s
def CX1 (P:Program) (w:World):CXT:=fun outer H s E e s'=>∃ ea H' cls dx T,e = .ref ea∧s'.os=s.os∧AllBare s'.gens∧Un (frs outer) [] H H' s.heap s'.heap∧HOk P w H' s'.heap∧FlyO s'.heap ea cls dx T ∧
 (s.heap.get? ea=none∧H' ea=none)∧(∀ t,T=some t→s.heap.get? t=none∧H' t=none)∧E cls dx H'
section
variable {X:Cx} {pins:List (Addr×Obj)} {σ:St} {H H':Hp} {s s':Shared} {e:Addr} {cls:Value} {dx:Option Addr} {T:Option Addr}
theorem a5.here {P:Program} {w:World} {H:Hp} {h:Heap} {a:Addr} {o:HO} (x:a5 P w H h a o):∃ u,h.get? a=some u:=by
 cases o with
 | lst xs=>obtain ⟨_,_,_,_,e⟩:=x; exact ⟨_,e⟩
 | tup xs=>obtain ⟨_,_,_,_,e,_⟩:=x; exact ⟨_,e⟩
 | dK kvs=>obtain ⟨_,_,_,_,o,_,_,e,_⟩:=x; exact ⟨_,e⟩
 | dT kvs=>obtain ⟨_,_,_,_,o,_,_,e,_⟩:=x; exact ⟨_,e⟩
 | set S n=>obtain ⟨o,_,_,_,e,_⟩:=x; exact ⟨_,e⟩
 | ins C dx fs=>obtain ⟨_,_,_,e,_⟩:=x; exact ⟨_,e⟩
 | own y=>exact x
 | xd fs=>obtain ⟨_,⟨_,_,_,e,_⟩,_⟩:=x; exact ⟨_,e⟩
 | rng lo hi=>obtain ⟨_,_,_,e⟩:=x; exact ⟨_,e⟩
 | frz ob u=>obtain ⟨e,_⟩:=x; exact ⟨_,e⟩
 | tbl ps q=>obtain ⟨e,_⟩:=x; exact ⟨_,e⟩
 | met f y=>exact ⟨_,(show h.get? a=some _ from x)⟩
 | ext φ=>obtain ⟨_,e,_⟩:=x; exact e
theorem HOk.no {P:Program} {w:World} {H:Hp} {h:Heap} {a:Addr} (x:HOk P w H h) (e:h.get? a=none):H a=none:=by
 cases q:H a with
 | none=>rfl
 | some o=>obtain ⟨u,z⟩:=(x a o q).here; rw [e] at z; cases z
theorem Inv.pinNo (I:Inv X pins σ H s) {a:Addr} (h:s.heap.get? a=none):∀ p∈X.pn++pins,p.1≠a:=fun p hp z=>by
 have:=(I.pin p hp).1
 rw [z,h] at this; cases this
theorem Inv.old (I:Inv X pins σ H s) (hex:X.ex=[]) {a:Addr} (h:s.heap.get? a=none):X.s₀.heap.get? a=none:=by
 cases q:X.s₀.heap.get? a with
 | none=>rfl
 | some o=>obtain ⟨u,z⟩:=I.base.there a o q (by rw [hex]; simp); rw [h] at z; cases z
theorem Inv.callN {h':Heap} {g':Array GenState} {t':Nat} {d':Drawn} {ch:List Addr} (I:Inv X pins σ H s) (u:Un (frs X.stack) ch H H' s.heap h') (hok:HOk X.prog X.w H' h') (hg:AllBare g')
 (hch:∀ b∈ch,X.s₀.heap.get? b=none∧b≠X.env.locals∧(∀ x c,X.env.cells.lookup x=some c→c≠b)∧(∀ p∈X.pn++pins,p.1≠b)∧b ∉ X.fs) :
 Inv X pins σ H' { s with heap:=h',gens:=g',drawn:=d',toks:=t' }:=by
 have nin:∀ b o,X.s₀.heap.get? b=some o→b ∉ ch:=fun b o q hb=>by rw [(hch b hb).1] at q; cases q
 have sp:∀ {b:Addr},b∈ch++X.ex→b∈ch∨b∈X.ex:=fun z=>List.mem_append.mp z
 have ok1:Cx.Ok { X with ex:=ch++X.ex }:={ I.ok with
  exf:=fun b hb=>(sp hb).elim (fun z=>⟨(hch b z).2.1,(hch b z).2.2.1⟩) (I.ok.exf b)
  noex:=fun b o q hb=>(sp hb).elim (nin b o (I.ok.bs b o q).1) (I.ok.noex b o q)
  exfs:=fun b hb=>(sp hb).elim (fun z=>(hch b z).2.2.2.2) (I.ok.exfs b) }
 have I1:Inv { X with ex:=ch++X.ex } pins σ H s:=⟨ok1,I.os,I.bare,I.base.mono (fun _ z=>z) (fun _ z=>List.mem_append_right _ z),I.loc,I.cell,I.free,I.freeC,I.pin,I.hok,I.len⟩
 have J:=I1.call (g':=g') (t':=t') (d':=d') u hok hg fun b hb=>⟨.inl (List.mem_append_left _ hb),(hch b hb).2.1,(hch b hb).2.2.1,(hch b hb).2.2.2.1⟩
 have nn:∀ b o,X.s₀.heap.get? b=some o→b ∉ X.ex→b ∉ ch++X.ex:=fun b o q hx hb=>(sp hb).elim (nin b o q) hx
 exact ⟨I.ok,J.os,J.bare,⟨fun b o q n hb hx=>J.base.keep b o q n hb (nn b o q hx),fun b o q n hb hx=>J.base.slot b o q n hb (nn b o q hx),fun b o q n hx=>J.base.free b o q n (nn b o q hx),fun b o q hx=>J.base.there b o q (nn b o q hx),
  J.base.tups,J.base.frzs,J.base.tbls⟩,J.loc,J.cell,J.free,J.freeC,J.pin,J.hok,J.len⟩
theorem Inv.fieldsNot (I:Inv X pins σ H s) {a:Addr} {o:Obj} {vs:Array Value} (h:s.heap.get? a=some o) (hd:o.data = .fields vs):a≠X.env.locals∧∀ x c,X.env.cells.lookup x=some c→c≠a:=by
 constructor
 ·intro z
  obtain ⟨m,⟨o',es,ep,ho,r⟩,_⟩:=I.loc
  rw [z] at h; rw [h] at ho; cases ho
  obtain ⟨r1,r2,_⟩:=r
  rw [hd] at r1; cases r1
 ·intro x c hc z
  obtain ⟨v,q⟩:=I.cell x c hc
  subst z
  obtain ⟨o',ho,hd'⟩:=q
  rw [h] at ho; cases ho
  rw [hd] at hd'; cases hd'
theorem Inv.noted {h':Heap} {t':Addr} (I:Inv X pins σ H s) (hst:X.stack=X.env :: X.outer) (fl:FlyO s.heap e cls dx T) (oe:Out X pins H e) (ot:∀ t,T=some t→Out X pins H t) (hs:s.heap.objs.size≤h'.objs.size)
 (ht:s.heap.objs.size≤t') (fl':FlyO h' e cls dx (some t')) (kb:h8 (X.env :: X.outer) e T s.heap h') (there:∀ t,T=some t→∃ o,h'.get? t=some o) :
 Inv X pins σ H { s with heap:=h' }∧Fly X pins H { s with heap:=h' } e cls dx:=by
 have hst':X.env :: X.outer=X.stack:=hst.symm
 rw [hst'] at kb
 have hch:∀ b∈e :: T.toList,X.s₀.heap.get? b=none∧b≠X.env.locals∧(∀ x c,X.env.cells.lookup x=some c→c≠b)∧(∀ p∈X.pn++pins,p.1≠b)∧b ∉ X.fs:=fun b hb=>by
  have out:∀ z,z∈X.fs→z∈frs (X.env :: X.outer):=fun z hz=>by unfold frs; rw [List.filterMap_cons]; split; exact hz; exact List.mem_cons_of_mem _ hz
  have stk:s.heap.FunFrames X.base (X.env :: X.outer):=by rw [hst']; exact I.stack
  rcases List.mem_cons.mp hb with rfl | hb
  ·obtain ⟨vs,sl,q,_⟩:=fl.ex
   exact ⟨oe.new,(I.fieldsNot q rfl).1,(I.fieldsNot q rfl).2,oe.pin,fun z=>fl.ex.notFrame stk (out _ z)⟩
  ·have:T=some b:=by cases T with | none=>cases hb | some t=>simp at hb; rw [hb]
   obtain ⟨_,o,ts,q,hd,h3⟩:=fl.tb b this
   exact ⟨(ot b this).new,(I.fieldsNot q hd).1,(I.fieldsNot q hd).2,(ot b this).pin,fun z=>sj.notFrame ⟨o,ts,q,hd,h3⟩ stk (out _ z)⟩
 have nb:∀ b,b ∉ e :: T.toList→b≠e∧T≠some b:=fun b hb=>⟨fun z=>hb (by simp [z]),fun z=>hb (by simp [z])⟩
 have un:Un (frs X.stack) (e :: T.toList) H H s.heap h':={
  keep:=fun b o q _ hn hx=>((kb b o (nb b hx).1 (nb b hx).2 q).1 hn)
  slot:=fun b o q _ _ hx=>(kb b o (nb b hx).1 (nb b hx).2 q).2
  free:=fun _ _ _ n _=>n
  there:=fun b o q hx=>let ⟨sl,z⟩:=(kb b o (nb b hx).1 (nb b hx).2 q).2; ⟨_,z⟩
  tups:=fun _ _ z=>z
  frzs:=fun _ _ _ z=>z
  tbls:=fun b ps _ z=>⟨#[],by rw [z]; simp⟩ }
 have hok:HOk X.prog X.w H h':=fun a o q=>(I.hok a o q).stay (fun c v hc z=>by
  have hH:∃ u,H c=some u:=by rcases hc with hc | hc; exact ⟨_,hc ▸ q⟩; exact ⟨_,hc⟩
  obtain ⟨u,hu⟩:=hH
  have c1:c≠e:=fun y=>by rw [y,oe.unt] at hu; cases hu
  have c2:T≠some c:=fun y=>by rw [(ot c y).unt] at hu; cases hu
  exact (kb c v c1 c2 z).1 fun y=>by rw [I.stkFree c y] at hu; cases hu) (fun _ z=>z) (fun _ _ z=>z) fun _ _ _ z=>z
 refine ⟨I.callN (h':=h') (g':=s.gens) (d':=s.drawn) (t':=s.toks) un hok I.bare hch,⟨some t',fl',oe,fun t z=>?_⟩⟩
 cases z
 exact ⟨Heap.get?_none_of_le (Nat.le_trans I.sz ht),I.hok.fresh ht,I.pinNo (Heap.get?_none_of_le ht)⟩
end
theorem vT {P:Program} {w:World} {K:PySem.W.Frag} {mg:Str→Option Value} {base:Heap} {N:List Str} {qual:Str} {scope:Scope} {f:Addr} {cd:Value} {A:Around} {outer:List Env} {s:Shared} {H:Hp} {E:XK} :
 Acc (ix (CX1 P w) P w K mg base N qual scope f cd A outer s H E) (fun _=>E):=by
 refine ⟨fun pins σ H' s' e cls dx I fl h=>?_⟩
 obtain ⟨T,flo,oe,ot⟩:=fl.go
 show wpAny _ _ (leaving _ (.ref e)) _ _ s'
 refine oJ (base:=base) (outer:=outer) (L:=s.heap.objs.size) (T:=T) I.ok.frames I.stack rfl flo fun h' hs t' ht fl' kb there=>?_
 obtain ⟨I2,fl2⟩:=I.noted rfl flo oe ot hs ht fl' kb there
 refine ⟨e,H',cls,dx,some t',rfl,I.os,I.bare,?_,I2.hok,fl',⟨oe.new,oe.unt⟩,fun t z=>?_,h⟩
 ·exact I2.base
 ·cases z; exact ⟨Heap.get?_none_of_le (Nat.le_trans I.sz ht),I.hok.fresh ht⟩
section
variable {X:Cx} {x:Str} {p pos:Pos} {e:Expr} {es:List Expr} {t:TA} {k:Nat} {f:Addr} {fd:FuncData} {ps:List Str} {sp:Sp} {xk:XS}
theorem Inv.raised {pins:List (Addr×Obj)} {σ:St} {H:Hp} {s s':Shared} {ev:Value} (hex:X.ex=[]) (I:Inv X pins σ H s) (ac:Acc X xk) (h:CX1 X.prog X.w X.stack H s (xk σ) ev s'):X.xe ev s':=by
 obtain ⟨ea,H',cls,dx,T,rfl,os,bare,un,hok,fl,oe,ot,q⟩:=h
 have I2:=I.call' os un hok bare (ch:=[]) fun b z=>absurd z (by simp)
 exact ac.go pins σ H' s' ea cls dx I2 ⟨T,fl,⟨I.old hex oe.1,oe.2,I.pinNo oe.1⟩,fun t z=>⟨I.old hex (ot t z).1,(ot t z).2,I.pinNo (ot t z).1⟩⟩ q
theorem uo {pins:List (Addr×Obj)} {σ:St} {H:Hp} {s:Shared} {Q:VK} {us:List Value} {vs:List V} (F:FnOk X.prog X.w X.K X.mg X.base (CX1 X.prog X.w) k f fd ps sp) (hr:Room k X.A) (hb:cw X.K fd ps [])
 (hex:X.ex=[]) (ac:Acc X xk) (I:Inv X pins σ H s) (r:aV vs us) (h:sp vs H Q (xk σ)):wpAny (model X.prog X.w) X.A (call (.ref f) us) (EP X pins σ Q) X.xe s:=by
 have hl:us.length=ps.length:=by rw [← F.len _ _ _ _ h]; exact r.length.symm
 have hb':=hb s us I.kIn (by simpa using hl)
 rw [List.append_nil] at hb'
 refine wpAny_call (codeAny_mono (F.run X.A X.stack s H ⟨us,[]⟩ us vs Q (xk σ) hr I.env0 hb' r h) fun r s' hq=>?_)
 cases r with
 | error e=>exact I.raised hex ac hq
 | ok fl =>
  cases fl with
  | ret u=>exact I.after hq
  | next=>exact False.elim hq
  | brk=>exact False.elim hq
  | cont=>exact False.elim hq
def my (xk:XS) (sp:Sp) (t:TA):TE:=fun σ H Q=>t σ H fun vs H1=>sp vs H1 Q (xk σ)
theorem ly (hex:X.ex=[]) (ac:Acc X xk) (F:FnOk X.prog X.w X.K X.mg X.base (CX1 X.prog X.w) k f fd ps sp) (hr:Room k X.A) (hg:Gl X x) (hm:X.mg x=some (.ref f)) (hk:PySem.W.keepIn X.K (.ref f)=true) (hb:cw X.K fd ps [])
 (ha:PA X (e :: es) t) (hdb:(x == ("__debug__":Str))=false:=by decide) (he:starEach (e :: es) X.env=(false,eval e X.env) :: starEach es X.env:=by rfl) (hpl:(backTo pos (starEach es X.env)).any (·.1)=false:=by rfl) :
 PE X (.Call (.Name x p) (e :: es) [] pos) (my xk sp t):=by
 (try refine ⟨?_⟩); intro pins s σ H Q I h
 refine wpAny_Call_Name_kw (fg I hg hm ?_ hdb)
 refine PySem.W.callWith_K (h₀:=X.base) I.ok.mod.kin hk (thn (ha pos pins s σ H _ I h) fun us s1 ⟨vs,H1,I1,r,q⟩=>⟨I1.kIn,?_⟩) he hpl
 exact uo F hr hb hex ac I1 r q
end
abbrev bmV:List Value:=[.type "ValueError",.type "Exception",.type "BaseException",.type "object"]
def bX (K:PySem.W.Frag) (C:Addr) (bm:List Value) (ini:Option Value):Bool:=match K.lookup C with
 | some ⟨.type "type",_,.cls cd,sl⟩=>(match cd.mro,sl.toList with
  | .ref C' :: bm',[_,_,_,_,some (.builtin n),_]=>C' == C&&n == "ValueError.__new__" && !cd.hasDel&&bm' == bm&&PySem.W.tailIn K bmV bm&&PySem.W.nsOkIn K cd.ns&&PySem.W.nsIn K cd.ns "__init__" == some ini
  | _,_=>false)
 | _=>false
def lD (h:Heap) (C:Addr) (bm:List Value) (ini:Option Value):Prop:=∃ N nm q bs hdct sn sub ab col dd k0 k1 k2 k3 k5 mN,h.get? C=some (excClassObj nm q C N bs bm hdct sn sub ab col dd k0 k1 k2 k3 k5 "ValueError.__new__")∧h.Ns N mN∧mN "__init__" = ini∧OwnTail h bmV bm
theorem gG {K:PySem.W.Frag} {h:Heap} {N:Addr} {mg:Str→Option Value} {n:Str} {v:Value} (X:K.In h) (G:h.Ns N mg) (e:PySem.W.nsIn K N n=some (some v)):mg n=some v:=by
 obtain ⟨o,es,ep,ho,hd,_,hf⟩:=G
 unfold PySem.W.nsIn at e
 split at e
 ·rename_i c d es' n' sl q
  have:=X _ _ q
  rw [ho] at this
  cases this
  cases hd
  split at e
  ·rename_i w he
   cases e
   rw [← hf]
   unfold nsFind findBy
   rw [← Array.find?_toList,he]
   rfl
  ·split at e <;> cases e
 ·cases e
theorem dE {K:PySem.W.Frag} {h:Heap} {C:Addr} {bm:List Value} {ini:Option Value} (X:K.In h) (q:bX K C bm ini=true):lD h C bm ini:=by
 unfold bX at q
 split at q
 ·rename_i dd cd sl ho
  split at q
  ·rename_i C' bm' k0 k1 k2 k3 n k5 hm hs
   simp only [Bool.and_eq_true,beq_iff_eq,Bool.not_eq_true'] at q
   obtain ⟨⟨⟨⟨⟨⟨rfl,rfl⟩,hdel⟩,rfl⟩,ht⟩,hok⟩,hni⟩:=q
   obtain ⟨nm,bs,mro,ns,qn,hd,sn,sub,ab,col,del⟩:=cd
   dsimp only at hm hdel hok hni
   subst hm hdel
   have hsl:sl = #[k0,k1,k2,k3,some (.builtin "ValueError.__new__"),k5]:=by
    obtain ⟨l⟩:=sl
    simp only at hs
    rw [hs]
   subst hsl
   refine ⟨ns,nm,qn,bs,hd,sn,sub,ab,col,dd,k0,k1,k2,k3,k5,_,X _ _ ho,.of_isNs (PySem.W.isNs_of_in X hok),?_,PySem.W.tail_of_in X ht⟩
   cases ini with
   | none=>exact PySem.W.nsMap_none_of_in X hok hni
   | some v=>exact gG X (.of_isNs (PySem.W.isNs_of_in X hok)) hni
  ·cases q
 ·cases q
theorem gM {h:Heap} {bm:List Value} (T:OwnTail h bmV bm):bm.contains (.type "BaseException")=true:=T.hasType (by decide)
section
variable {X:Cx} {pins:List (Addr×Obj)} {σ:St} {H:Hp} {s:Shared} {xk:XS}
variable {x:Str} {C:Addr} {bm:List Value} {e:Expr} {args:List Expr} {np cpos pos:Pos} {t:TA}
end
def gQ (e:Addr) (cls:Value) (dx:Option Addr):Heap→Prop:=fun h=>∃ vs sl,h.get? e=some { cls:=cls,dict:=dx,data:=.fields vs,slots:=sl }
abbrev Cx.tr (X:Cx) (E:Value→Shared→Prop) (p:List (Addr×Obj)):Cx:={ X with xe:=E,pn:=X.pn++p }
abbrev Cx.hand (X:Cx) (v:Value):Cx:={ X with A:=X.A.mark (some v),calm:=false,xe:=fun _ _=>False }
def Ends.unb (D:Ends) (i:Nat):Ends:={ nx:=fun σ H=>D.nx (σ.set i none) H,rt:=D.rt,bk:=fun σ H=>D.bk (σ.set i none) H,ct:=fun σ H=>D.ct (σ.set i none) H }
section
variable {X:Cx} {pins p:List (Addr×Obj)} {σ:St} {H:Hp} {s:Shared} {E:Value→Shared→Prop} {v:Value}
theorem Cx.Ok.tr (ok:X.Ok):(X.tr E p).Ok:={ ok with }
theorem Cx.Ok.untr (ok:(X.tr E p).Ok):X.Ok:={ ok with }
theorem Inv.tr (I:Inv X (p++pins) σ H s):Inv (X.tr E p) pins σ H s:=⟨I.ok.tr,I.os,I.bare,I.base,I.loc,I.cell,I.free,I.freeC,fun q hq=>I.pin q (by simpa using hq),I.hok,I.len⟩
theorem Inv.untr (I:Inv (X.tr E p) pins σ H s):Inv X (p++pins) σ H s:=⟨I.ok.untr,I.os,I.bare,I.base,I.loc,I.cell,I.free,I.freeC,fun q hq=>I.pin q (by simpa using hq),I.hok,I.len⟩
theorem SP.untr {D:Ends} {f:Flow} {s':Shared} (h:SP (X.tr E p) pins D f s'):SP X (p++pins) D f s':=by
 cases f with
 | next=>obtain ⟨σ',H',I,q⟩:=h; exact ⟨σ',H',I.untr,q⟩
 | brk=>obtain ⟨σ',H',I,q⟩:=h; exact ⟨σ',H',I.untr,q⟩
 | cont=>obtain ⟨σ',H',I,q⟩:=h; exact ⟨σ',H',I.untr,q⟩
 | ret u=>obtain ⟨v,σ',H',I,r,q⟩:=h; exact ⟨v,σ',H',I.untr,r,q⟩
theorem Inv.drop (I:Inv X (p++pins) σ H s):Inv X p σ H s:=I.pins_of fun q hq=>I.pin q (by simp [hq])
theorem Cx.Ok.hand (ok:X.Ok):(X.hand v).Ok:={ ok with hd:=(fun z=>by cases z),frames:=ok.frames }
theorem Inv.hand (I:Inv X pins σ H s):Inv (X.hand v) pins σ H s:=⟨I.ok.hand,I.os,I.bare,I.base,I.loc,I.cell,I.free,I.freeC,I.pin,I.hok,I.len⟩
theorem Inv.unhand (ok:X.Ok) (I:Inv (X.hand v) pins σ H s):Inv X pins σ H s:=⟨ok,I.os,I.bare,I.base,I.loc,I.cell,I.free,I.freeC,I.pin,I.hok,I.len⟩
theorem PS.any {st:Stmt} {t:TS} (h:PS X.nox st t):PS (X.tr E p) st t:=⟨fun pins s σ H D I hw =>
 wpAny_mono (h (p++pins) s σ H D (I.untr.wish _) hw) (fun f s' q=>by
  have q:=q.unwish
  cases f with
  | next=>obtain ⟨σ',H',I,q⟩:=q; exact ⟨σ',H',I.tr,q⟩
  | brk=>obtain ⟨σ',H',I,q⟩:=q; exact ⟨σ',H',I.tr,q⟩
  | cont=>obtain ⟨σ',H',I,q⟩:=q; exact ⟨σ',H',I.tr,q⟩
  | ret u=>obtain ⟨v,σ',H',I,r,q⟩:=q; exact ⟨v,σ',H',I.tr,r,q⟩) fun _ _ z=>False.elim z⟩
theorem PA.any {es:List Expr} {t:TA} (h:PA X.nox es t):PA (X.tr E p) es t:=⟨fun pos pins s σ H D I hw =>
 wpAny_mono (h pos (p++pins) s σ H D (I.untr.wish _) hw) (fun f s' ⟨vs,H',I',r,q⟩=>⟨vs,H',(I'.unwish).tr,r,q⟩) fun _ _ z=>False.elim z⟩
theorem PT.any {e:Expr} {t:TT} (h:PT X.nox e t):PT (X.tr E p) e t:=⟨fun pins s σ H D I hw =>
 wpAny_mono (h (p++pins) s σ H D (I.untr.wish _) hw) (fun f s' ⟨H',I',q⟩=>⟨H',(I'.unwish).tr,q⟩) fun _ _ z=>False.elim z⟩
variable {e:Addr} {cls:Value} {dx T:Option Addr}
theorem Inv.track {vs:Array Value} {sl:Array (Option Value)} (I:Inv X pins σ H s) (he:s.heap.get? e=some { cls:=cls,dict:=dx,data:=.fields vs,slots:=sl }) (o:Out X pins H e) :
 Inv X pins σ (upd H e (.ext (gQ e cls dx))) s:=by
 have ne:∀ b u,H b=some u→b≠e:=fun b u q z=>by rw [z,o.unt] at q; cases q
 have up:∀ b,b≠e→upd H e (.ext (gQ e cls dx)) b=H b:=fun b z=>by simp [upd,z]
 have old:∀ b ob,X.s₀.heap.get? b=some ob→b≠e:=fun b ob q z=>by rw [z,o.new] at q; cases q
 refine ⟨I.ok,I.os,I.bare,⟨I.base.keep,I.base.slot,fun b ob q n hx=>(up b (old b ob q)).trans (I.base.free b ob q n hx),I.base.there,fun b xs q=>?_,fun b ob u q=>?_,fun b ps q0 q=>?_⟩,I.loc,I.cell,
  (up _ (Ne.symm (I.fieldsNot he rfl).1)).trans I.free,fun x c q=>(up _ ((I.fieldsNot he rfl).2 x c q)).trans (I.freeC x c q),fun q hq=>?_,fun b u q=>?_,I.len⟩
 ·have z:=I.base.tups b xs q; exact (up b (ne b _ z)).trans z
 ·have z:=I.base.frzs b ob u q; exact (up b (ne b _ z)).trans z
 ·obtain ⟨m,z⟩:=I.base.tbls b ps q0 q; exact ⟨m,(up b (ne b _ z)).trans z⟩
 ·obtain ⟨a1,a2,a3⟩:=I.pin q hq; exact ⟨a1,(up _ (o.pin q hq)).trans a2,a3⟩
 ·by_cases hb:b=e
  ·subst hb
   have:u = .ext (gQ b cls dx):=by simp [upd] at q; exact q.symm
   subst this
   exact ⟨⟨vs,sl,he⟩,⟨_,he⟩,fun h1 h2 ⟨vs',sl',q'⟩ k=>⟨vs',sl',k _ q'⟩⟩
  ·rw [up b hb] at q
   exact (I.hok b u q).stay (fun _ _ _ z=>z) (fun c z=>(up c (ne c _ z)).trans z) (fun c xs z=>(up c (ne c _ z)).trans z) fun c ob u z=>(up c (ne c _ z)).trans z
theorem mj {M:Model} {A:Around} {t:Addr} {Q:Unit→Shared→Prop} (F:FlyO s.heap e cls dx (some t))
 (h:∀ h',FlyO h' e cls dx (some t)→(∀ b o,b≠t→s.heap.get? b=some o→h'.get? b=some o)→Q () { s with heap:=h' }):wpAny M A (setFlight (.ref e) none) Q E s:=by
 obtain ⟨⟨vs,sl,he,h1⟩,tb⟩:=F
 obtain ⟨hte,o,ts,ht,hd,h3⟩:=tb t rfl
 unfold setFlight
 refine wpAny_bind (wpAny_field he rfl h1 ?_)
 show wpAny M A (if (Value.ref t != Value.none)=true then _ else _) _ _ _
 rw [if_pos (show (Value.ref t != Value.none)=true from by simp)]
 refine wpAny_setField ht hd (Array.getElem?_eq_some_iff.mp h3).1 ?_
 have hsz : 3<ts.size:=(Array.getElem?_eq_some_iff.mp h3).1
 refine h _ ⟨⟨vs,sl,(Heap.get?_update_other _ _ hte).trans he,h1⟩,fun t' z=>?_⟩ fun b ob hb q=>(Heap.get?_update_other _ _ (Ne.symm hb)).trans q
 cases z
 refine ⟨hte,_,_,Heap.get?_update_self _ ht (Obj.isFreed_of_fields (Obj.data_mapFields hd _)),Obj.data_mapFields hd _,?_⟩
 show (ts.setIfInBounds 3 ((none:Option Addr).elim Value.none fun f=>rawInt f))[3]? = _
 simp [hsz]
theorem Inv.goes {h':Heap} {m:Str→Option Value} {w:Option Value} {n:Str} {i t':Nat} (I:Inv X pins σ H s) (hN:X.N.Nodup) (hi:X.N[i]? = some n)
 (hl:∀ (i:Nat) (x:Str) (v:V),X.N[i]? = some x→σ[i]? = some (some v)→Vis X.env.scope x→∃ u,a_ v u∧Look X.env s.heap m x u) (hn:s.heap.Ns X.env.locals m)
 (hn':h'.Ns X.env.locals (fun x=>if x=n then w else m x)) (hs:Heap.SameBut X.env.locals s.heap h'):Inv X pins (σ.set i none) H { s with heap:=h',toks:=t' }:=by
 have oth:∀ b o,X.s₀.heap.get? b=some o→b≠X.env.locals:=fun b o e=>Nat.ne_of_lt (Nat.lt_of_lt_of_le (Heap.lt_size e) I.ok.above)
 refine ⟨I.ok,I.os,I.bare,⟨fun b o e n hb hx=>(hs.2 b (oth b o e)).trans (I.base.keep b o e n hb hx),fun b o e n hb hx=>?_,I.base.free,fun b o e hx=>?_,I.base.tups,I.base.frzs,I.base.tbls⟩,⟨_,hn',fun j y v' e1 e2 e3=>?_⟩,fun y c e=>?_,I.free,I.freeC,fun q hq=>?_,fun b u q=>?_,by simpa using I.len⟩
 ·obtain ⟨sl,e1⟩:=I.base.slot b o e n hb hx
  exact ⟨sl,(hs.2 b (oth b o e)).trans e1⟩
 ·obtain ⟨o',e1⟩:=I.base.there b o e hx
  exact ⟨o',(hs.2 b (oth b o e)).trans e1⟩
 ·by_cases hj:j=i
  ·subst hj
   have:j<σ.length:=by rw [I.len]; exact (List.getElem?_eq_some_iff.mp hi).1
   rw [List.getElem?_set_self this] at e2; cases e2
  ·rw [List.getElem?_set_ne (Ne.symm hj)] at e2
   obtain ⟨u',r',q⟩:=hl j y v' e1 e2 e3
   refine ⟨u',r',?_⟩
   rcases q with ⟨k,e⟩ | ⟨k,c,e,z⟩
   ·refine .inl ⟨k,?_⟩
    have:y≠n:=fun e=>hj (ip hN e1 (e ▸ hi))
    simp [this,e]
   ·exact .inr ⟨k,c,e,z.sameBut hs (I.cne y c e)⟩
 ·obtain ⟨w',z⟩:=I.cell y c e
  exact ⟨w',z.sameBut hs (I.cne y c e)⟩
 ·obtain ⟨e,n,ne,nf,d⟩:=I.pin q hq
  exact ⟨(hs.2 q.1 ne).trans e,n,ne,nf,d⟩
 ·refine (I.hok b u q).stay (fun c w' hc z=>(hs.2 c ?_).trans z) (fun _ z=>z) (fun _ _ z=>z) fun _ _ _ z=>z
  rintro rfl
  rcases hc with rfl | hc
  ·rw [I.free] at q; cases q
  ·rw [I.free] at hc; cases hc
theorem iM {M:Model} {A:Around} {C D0:Addr} {bm bmD:List Value} {ini iniD:Option Value} {oe:Obj} {Q:Bool→Shared→Prop} (hC:lD s.heap C bm ini) (hD:lD s.heap D0 bmD iniD) (he:s.heap.get? e=some oe) (hcls:oe.cls = .ref C)
 (hq:Q ((Value.ref C :: bm).contains (.ref D0)) s):wpAny M A (excMatches (.ref e) (.ref D0)) Q E s:=by
 obtain ⟨N,nm,q,bs,hdct,sn,sub,ab,col,dd,k0,k1,k2,k3,k5,mN,hC,hN,hni,T⟩:=hC
 obtain ⟨N',nm',q',bs',hdct',sn',sub',ab',col',dd',k0',k1',k2',k3',k5',mN',hD,hN',hni',T'⟩:=hD
 obtain ⟨h,g,d,t,os⟩:=s
 have hbD:(Value.ref D0 :: bmD).contains (.type "BaseException")=true:=by rw [List.contains_cons,gM T',Bool.or_true]
 have f:=tc_notTuple
 generalize hb:(Value.ref C :: bm).contains (.ref D0)=b at hq
 unfold excMatches
 repeat (first | (with_reducible refine wpAny_loadPart_at he ?_; rw [hcls]) | with_reducible refine wpAny_loadPart_at hD ?_ | (with_reducible refine wpAny_isSubtype_exc hD ?_; rw [hbD]) | (with_reducible refine wpAny_isSubtype_exc hC ?_; rw [hb]) | wp_step)
 cases b <;> (wp_walk; exact hq)
theorem uh {A:Around} {D:Ends} {n:Str} {i:Nat} {f:Flow} {s':Shared} {npos:Pos} (ok:X.Ok) (hN:X.N.Nodup) (hi:X.N[i]? = some n) (hl:X.env.kindOf n=some .local) (h:SP (X.hand v) pins (D.unb i) f s') :
 wpAny (model X.prog X.w) A (do bindName X.env n .none; unbindBehindTheSuite X.env n npos) (fun _ s5=>SP X pins D f s5) E s':=by
 have hcls:(X.env.scope.kind == .class||(X.env.scope.kind == .module&&X.env.locals != X.env.globals))=false:=by rw [ok.kind]; rfl
 have main:∀ σ' H',Inv (X.hand v) pins σ' H' s'→(∀ s5,Inv X pins (σ'.set i none) H' s5→SP X pins D f s5)→wpAny (model X.prog X.w) A (do bindName X.env n .none; unbindBehindTheSuite X.env n npos) (fun _ s5=>SP X pins D f s5) E s':=fun σ' H' J k=>by
  have J:=J.unhand ok
  obtain ⟨m,hn,hll⟩:=id J.loc
  exact wpAny_nameGoes_keeps hl hn hcls fun h' w hn' hs=>k _ (J.goes hN hi hll hn hn' hs)
 cases f with
 | next=>obtain ⟨σ',H',J,q⟩:=h; exact main σ' H' J fun s5 J5=>⟨_,H',J5,q⟩
 | brk=>obtain ⟨σ',H',J,q⟩:=h; exact main σ' H' J fun s5 J5=>⟨_,H',J5,q⟩
 | cont=>obtain ⟨σ',H',J,q⟩:=h; exact main σ' H' J fun s5 J5=>⟨_,H',J5,q⟩
 | ret u=>obtain ⟨v',σ',H',J,r,q⟩:=h; exact main σ' H' J fun s5 J5=>⟨v',_,H',J5,r,q⟩
variable {x n:Str} {i:Nat} {C D0:Addr} {bm bmD:List Value} {ini iniD:Option Value} {b0:Stmt} {suite:List Stmt} {np npos:Pos} {ts:TS} {D:Ends} {t:Addr}
theorem n_ (hN:X.N.Nodup) (hi:X.N[i]? = some n) (hl:X.env.kindOf n=some .local) (hg:Gl X x) (hm:X.mg x=some (.ref D0)) (hD:bX X.K D0 bmD iniD=true) (hC:bX X.K C bm ini=true)
 (hsub:(Value.ref C :: bm).contains (.ref D0)=true) (hs:PSs (X.hand (.ref e)) (b0 :: suite) ts) (I:Inv X pins σ H s) (F:FlyO s.heap e (.ref C) dx (some t)) (oe:Out X pins H e) (ot:Out X pins H t) (ht:X.s₀.heap.objs.size≤t)
 (q:ts (D.unb i) (σ.set i (some (.ref e))) (upd H e (.ext (gQ e (.ref C) dx)))) (hdb:(x == ("__debug__":Str))=false:=by decide) :
 wpAny (model X.prog X.w) X.A (handleBy (.ref e) X.env [.ExceptHandler (some (.Name x np)) (some n) (b0 :: suite) npos]) (SP X pins D) X.xe s:=by
 refine wpAny_handleBy_cons (codeAny_handlers_test (fg (X:=X.hand (.ref e)) I.hand hg hm ?_ hdb)) (by intro q; cases q)
 obtain ⟨⟨vs,sl,he,h1⟩,tb⟩:=id F
 refine iM (dE I.kIn hC) (dE I.kIn hD) he rfl ?_
 rw [hsub]
 refine codeAny_handlers_suite_as (mj F fun h' F' k=>?_)
 obtain ⟨hte,o',ts',ht',hd',_⟩:=tb t rfl
 have I2:Inv X pins σ H { s with heap:=h' }:=I.turned (t':=s.toks) k ot.unt (I.fieldsNot ht' hd').1 (.inr ht) (I.fieldsNot ht' hd').2 ot.pin
 obtain ⟨vs2,sl2,he2,_⟩:=F'.ex
 have I3:=I2.track he2 oe
 refine eU (X:=X.hand (.ref e)) I3.hand hN hi (.inl hl) (v:=.ref e) rfl (fun s3 I4=>?_) (.inr hl)
 refine wpAny_mono (hs pins s3 _ _ _ I4 q) (fun f s4 h4=>?_) fun _ _ z=>False.elim z
 exact uh I.ok hN hi hl h4
def tTry (i:Nat) (okc:Value→Prop) (tb:XS→TS) (ts:Addr→TS):TS:=fun D σ H=>tb (fun σ' cls dx H'=>okc cls∧∀ ea,H' ea=none→ts ea (D.unb i) (σ'.set i (some (.ref ea))) (upd H' ea (.ext (gQ ea cls dx)))) D σ H
def eE (K:PySem.W.Frag) (D0:Addr) (cls:Value):Prop:=∃ C bm ini,cls = .ref C∧bX K C bm ini=true∧(Value.ref C :: bm).contains (.ref D0)=true
theorem wz {body:List Stmt} {pos:Pos} {tb:XS→TS} {ts:Addr→TS} (hst:X.stack=X.env :: X.outer) (hf:X.env.frame=some X.env.locals) (hN:X.N.Nodup) (hi:X.N[i]? = some n) (hl:X.env.kindOf n=some .local) (hg:Gl X x) (hm:X.mg x=some (.ref D0)) (hD:bX X.K D0 bmD iniD=true)
 (hb:∀ E p xk,PassesOwn (model X.prog X.w) X.A X.env E→Acc (X.tr E p) xk→PSs (X.tr E p) body (tb xk)) (hs:∀ ea,PSs (X.hand (.ref ea)) (b0 :: suite) (ts ea)) (hdb:(x == ("__debug__":Str))=false:=by decide) :
 PS X (.Try body [.ExceptHandler (some (.Name x np)) (some n) (b0 :: suite) npos] [] [] pos) (tTry i (eE X.K D0) tb ts):=by
 refine ⟨fun pins s σ H D I h=>?_⟩
 refine wpAny_Try_except ?_
 have ac:Acc (X.tr (fun e s₁=>wpAny (model X.prog X.w) X.A (noteFrame e X.env) (fun _ s₂=>wpAny (model X.prog X.w) X.A (setFlight e none) (fun _ s₃ =>
  wpAny (model X.prog X.w) X.A (handleBy e X.env [.ExceptHandler (some (.Name x np)) (some n) (b0 :: suite) npos]) (SP X pins D) X.xe s₃) X.xe s₂) X.xe s₁) pins)
  (fun σ' cls dx H'=>eE X.K D0 cls∧∀ ea,H' ea=none→ts ea (D.unb i) (σ'.set i (some (.ref ea))) (upd H' ea (.ext (gQ ea cls dx)))):=by
  refine ⟨fun pins' σ' H' s' ea cls dx J fl ⟨⟨C,bm,ini,hc,hC,hsub⟩,hk⟩=>?_⟩
  subst hc
  obtain ⟨T,flo,oe,ot⟩:=fl.go
  have J:=J.untr.drop
  have oe:Out X pins H' ea:=⟨oe.new,oe.unt,fun q hq=>oe.pin q (List.mem_append_left _ hq)⟩
  have ot:∀ t,T=some t→Out X pins H' t:=fun t z=>⟨(ot t z).new,(ot t z).unt,fun q hq=>(ot t z).pin q (List.mem_append_left _ hq)⟩
  show wpAny _ _ (noteFrame (.ref ea) X.env) _ _ s'
  refine lC (base:=X.base) (outer:=X.outer) (L:=X.env.locals) (T:=T) (by rw [← hst]; exact J.ok.frames) (by rw [← hst]; exact J.stack) hf flo fun h' hs' t' ht fl' kb there=>?_
  obtain ⟨J2,fl2⟩:=J.noted hst flo oe ot hs' ht fl' kb there
  have hsz:X.s₀.heap.objs.size≤t':=Nat.le_trans J.sz ht
  exact n_ hN hi hl hg hm hD hC hsub (hs _) J2 fl' oe ⟨Heap.get?_none_of_le hsz,J.hok.fresh ht,J.pinNo (Heap.get?_none_of_le ht)⟩ hsz (hk ea oe.unt) hdb
 refine wpAny_mono (hb _ pins _ PassesOwn.looking ac [] s σ H D (Inv.tr (by simpa using I)) h) (fun f s' q=>?_) fun e s' q=>q
 have q:=q.untr
 rw [List.append_nil] at q
 cases f with
 | next=>exact wpAny_execs_nil q
 | ret v=>exact q
 | brk=>exact q
 | cont=>exact q
end
theorem mE {C:Ctx} {ow:List Bool} {G:Hp} {ρ:DSt} {σ:St} {H:Hp} {pd T:List (D×V)} {ks:List AK} {ds ds':List D} {vs:List V}
 (hn:C.np≤pd.length) (r:R C ow G ρ σ H (T.reverse++pd)) (ha:gj G σ ks ds vs T) (hf:dc ks ds ρ=some ds') (nd:(ax ks).Nodup) (hw:∀ i∈ax ks,ow[i]? = some true) :
 ∃ C':Ctx,C'.np=0∧C'.mu=msV (ks.map AK.isM) vs∧R C' (ks.map AK.isM) G (ds'.map some) (vs.map some) H []∧(ks.map AK.isM).length=ds'.length ∧
  ∀ (fr:Bool) d ρ2 σ2 v G2 H2,aJ G G2→ρ2.length=(ks.map AK.isM).length→Ret fr C' (ks.map AK.isM) G2 ρ2 σ2 H2 d v→Kp ow ρ (eJ ks (mus (ks.map AK.isM) ρ2) ρ) ∧
   (if fr=true then R C ow G2 (eJ ks (mus (ks.map AK.isM) ρ2) ρ) σ H2 ((d,v) :: pd) else R C ow G2 (eJ ks (mus (ks.map AK.isM) ρ2) ρ) σ H2 pd∧Rep G2 d v):=by
 obtain ⟨O,ro⟩:=r
 have pn:=ro.pn
 obtain ⟨l1,l2,hat⟩:=gt (O:=O) (H:=H) (r:=pd.length) ha hf (fun j x e=>h7 pn e) (fun i hi d e=>by
  obtain ⟨v,h1,h2⟩:=ro.sl i d e; rw [if_pos (hw i hi)] at h2; exact ⟨v,h1,h2⟩)
 let lb:=lbs ks pd.length
 let fin:Nat→Option Nat:=fun l=>(fnd l lb 0).map (2 * ·)
 let fbk:Nat→Option Nat:=fun l=>if l=1 then some (2 * pd.length + 1) else if l % 2=0 then (match lb[l / 2]? with | some o=>o | none=>none) else none
 have uq:=eQ (ks:=ks) (r:=pd.length) nd
 have fin_at:∀ (i l:Nat),lb[i]? = some (some l)→fin l=some (2 * i):=fun i l e=>by
  show (fnd l lb 0).map _=_
  rw [lV uq e]; simp
 have fin_of:∀ l l',fin l=some l'→∃ i,l'=2 * i∧lb[i]? = some (some l):=fun l l' e=>by
  change (fnd l lb 0).map _=_ at e
  cases z:fnd l lb 0 with
  | none=>rw [z] at e; cases e
  | some j=>rw [z] at e; cases e; obtain ⟨i,rfl,e2⟩:=lZ z; exact ⟨i,by show 2 * (0 + i)=2 * i; omega,e2⟩
 have fin_none:∀ l,(∀ i:Nat,lb[i]?≠some (some l))→fin l=none:=fun l e=>by
  show (fnd l lb 0).map _=_
  rw [iw e]; rfl
 have ri:=ro.into (mu:=ks.map AK.isM) (fin:=fin) (ds:=ds') (vs:=vs) l1 (fun j d e=>by
  obtain ⟨v,h1,h2⟩:=hat j d e
  refine ⟨v,h1,?_⟩
  rcases h2 with ⟨l,h2,h3,h4⟩ | ⟨h2,h3⟩
  ·rw [if_pos h3]; exact ⟨l,h4,fin_at j l h2⟩
  ·rw [if_neg (by rw [h2]; decide)]; exact h3) (fun l l' e=>by
  obtain ⟨i,rfl,e2⟩:=fin_of l l' e
  exact ⟨i,rfl,eD e2,by have:=(List.getElem?_eq_some_iff.mp (eD e2)).1; rw [List.length_map] at this; omega⟩)
 refine ⟨_,rfl,rfl,⟨_,ri⟩,by rw [List.length_map,l1,l2],?_⟩
 intro fr d ρ2 σ2 v G2 H2 z hl hr
 rw [List.length_map] at hl
 rw [fZ hl]
 have out:∀ (pd2 pd3:List (D×V)) (O2:Own),RO ⟨G,H,c9 fin O,msV (ks.map AK.isM) vs,0⟩ (ks.map AK.isM) G2 ρ2 σ2 H2 pd2 O2→C.np≤pd3.length →
  (∀ (O3:Own),(∀ a l π,O a=some (l,π)→fin l=none→O3 a=some (l,π)∧H2 a=H a)→(∀ a l l' π,O2 a=some (l',π)→fbk l'=some l→O3 a=some (l,π))→bY G G2→bN G2 H2 O3 pd3) →
  RO C ow G2 (cb ks ρ2 ρ) σ H2 pd3 (nY fin fbk O O2):=fun pd2 pd3 O2 r2 hn3 hP=>by
  refine ro.out (vs:=vs) r2 ?_ (by rw [e5]; exact ro.len) hn3 ?_ ?_ hP
  ·intro l0 l' l e1 e2
   obtain ⟨i,rfl,e3⟩:=fin_of l0 l' e1
   change (if 2 * i=1 then _ else if 2 * i % 2=0 then _ else _)=_ at e2
   rw [if_neg (by omega),if_pos (by omega),show 2 * i / 2=i by omega,e3] at e2
   exact (Option.some.inj e2).symm
  ·intro i d c e
   rcases ez e hl with ⟨_,h2⟩ | ⟨k,h1,_⟩
   ·exact h2
   ·exact absurd (hw i (mT h1)) c
  ·intro i d c e
   rcases ez e hl with ⟨h1,h2⟩ | ⟨j,h1,h2⟩
   ·refine .inl ⟨fin_none _ fun j e=>?_,h2⟩
    rcases cx e with ⟨z,h3,h4⟩ | ⟨z,h3,h4⟩
    ·exact h1 (by rw [show i=z by omega]; exact h3)
    ·omega
   ·obtain ⟨u,g1,g2⟩:=dU ha h1
    have im:(ks.map AK.isM)[j]? = some true:=by rw [List.getElem?_map,h1]; rfl
    refine .inr ⟨j,u,?_,im,h2,g2,r2.mp j u (kC im g1)⟩
    show (if 2 * j=1 then _ else if 2 * j % 2=0 then _ else _)=_
    rw [if_neg (by omega),if_pos (by omega),show 2 * j / 2=j by omega,kT h1]
 have pdk:∀ (O3:Own),(∀ a l π,O a=some (l,π)→fin l=none→O3 a=some (l,π)∧H2 a=H a)→bY G G2→bN G2 H2 O3 pd:=fun O3 h1 ts =>
  bN.keep ts (fun a j π hj e=>h1 a _ _ e (fin_none _ fun i e=>by
   rcases cx e with ⟨z,h3,h4⟩ | ⟨z,h3,h4⟩ <;> omega)) (dY (T:=T.reverse) pn)
 have kp:Kp ow ρ (cb ks ρ2 ρ):=fun j hj=>eZ fun hs=>hj (hw j hs)
 refine ⟨kp,?_⟩
 unfold Ret at hr
 split at hr
 ·rename_i c
  rw [if_pos c]
  obtain ⟨O2,r2⟩:=hr
  refine ⟨_,out _ ((d,v) :: pd) O2 r2 (Nat.le_succ_of_le hn) fun O3 h1 h2 ts=>⟨?_,pdk O3 h1 ts⟩⟩
  exact r2.pn.1.keep (fun _ _ z=>z) fun a τ e=>⟨h2 a _ _ _ e (by show (if 2 * 0 + 1=1 then _ else _)=_; rw [if_pos rfl]),rfl⟩
 ·rename_i c
  rw [if_neg c]
  obtain ⟨⟨O2,r2⟩,p⟩:=hr
  exact ⟨⟨_,out _ pd O2 r2 hn fun O3 h1 h2 ts=>pdk O3 h1 ts⟩,p⟩
def lI (H:Hp) (ns:List Str) (ds:List D):Option Addr→Prop
 | none=>ns=[]∧ds=[]
 | some d=>∃ xs,H d=some (.xd (ns.zip xs))∧xs.length=ns.length∧Reps H ds xs
theorem lI.mono {H H':Hp} {ns:List Str} {ds:List D} {dx:Option Addr} (s:aJ H H') (h:lI H ns ds dx):lI H' ns ds dx:=by
 cases dx with
 | none=>exact h
 | some d=>obtain ⟨xs,h1,h2,h3⟩:=h; exact ⟨xs,s _ _ h1,h2,Reps.mono s _ _ h3⟩
abbrev XD:=Addr→List Str→List D→DSt→Prop
abbrev SpX:=List D→(D→DSt→Prop)→XD→Prop
def cy (mu:List Bool) (fr:Bool) (sd:SpX):Sp:=fun vs H Q E=>∃ (C:Ctx) (G:Hp) (ds:List D) (q:D→DSt→Prop) (qx:XD),C.np=0∧C.mu=msV mu vs∧R C mu G (ds.map some) (vs.map some) H []∧sd ds q qx∧mu.length=ds.length ∧
 (∀ d ρ' σ' v G' H',q d (mus mu ρ')→aJ G G'→ρ'.length=mu.length→Ret fr C mu G' ρ' σ' H' d v→Q v H') ∧
 (∀ c ns es ρ' σ' dx G' H',qx c ns es (mus mu ρ')→aJ G G'→ρ'.length=mu.length→R C mu G' ρ' σ' H' []→lI G' ns es dx→E (.ref c) dx H')
theorem jp {C:Ctx} {ow:List Bool} {G:Hp} {ρ:DSt} {σ:St} {H:Hp} {pd T:List (D×V)} {ks:List AK} {ds ds':List D} {vs:List V} {fr:Bool} {sd:SpX} {q:D→DSt→Prop} {qx:XD} {Q:VK} {E:XK}
 (hn:C.np≤pd.length) (r:R C ow G ρ σ H (T.reverse++pd)) (ha:gj G σ ks ds vs T) (hf:dc ks ds ρ=some ds') (nd:(ax ks).Nodup) (hw:∀ i∈ax ks,ow[i]? = some true)
 (h:sd ds' (fun d os=>q d (eJ ks os ρ)) fun c ns es os=>qx c ns es (eJ ks os ρ))
 (k:∀ d ρ' v G' H',q d ρ'→aJ G G'→Kp ow ρ ρ'→(if fr=true then R C ow G' ρ' σ H' ((d,v) :: pd) else R C ow G' ρ' σ H' pd∧Rep G' d v)→Q v H')
 (kx:∀ c ns es ρ' dx G' H',qx c ns es ρ'→aJ G G'→Kp ow ρ ρ'→R C ow G' ρ' σ H' pd→lI G' ns es dx→E (.ref c) dx H'):cy (ks.map AK.isM) fr sd vs H Q E:=by
 obtain ⟨C',h1,h2,h3,h4,h5⟩:=mE hn r ha hf nd hw
 refine ⟨C',G,ds',_,_,h1,h2,h3,h,h4,fun d ρ' σ' v G' H' hq z hl hr=>?_,fun c ns es ρ' σ' dx G' H' hq z hl hr hx=>?_⟩
 ·obtain ⟨kp,hr⟩:=h5 fr d ρ' σ' v G' H' z hl hr
  exact k d _ v G' H' hq z kp hr
 ·obtain ⟨kp,hr⟩:=h5 false .non ρ' σ' .non G' H' z hl (by unfold Ret; rw [if_neg (by decide)]; exact ⟨hr,kH⟩)
  rw [if_neg (by decide)] at hr
  exact kx c ns es _ dx G' H' hq z kp hr.1 hx
section
variable {X:Cx} {E:Value→Shared→Prop} {p:List (Addr×Obj)}
theorem gC.tr {pins:List (Addr×Obj)} {H:Hp} {b:Addr} (h:gC X (p++pins) H b):gC (X.tr E p) pins H b:=⟨h.1,h.2.1,h.2.2.1,h.2.2.2.1,h.2.2.2.2.1,fun q hq=>h.2.2.2.2.2 q (by simpa using hq)⟩
theorem PI.any {tg iter:Expr} {wi:TI} (h:PI X.nox tg iter wi):PI (X.tr E p) tg iter wi:=⟨fun pins s σ H R I hw =>
 wpAny_mono (h (p++pins) s σ H R (I.untr.wish _) hw) (fun v s1 h1=>wpAny_mono h1 (fun u s2 ⟨it,fp,tn,J,H',e,I',T,t0,f,r⟩=>⟨it,fp,tn,J,H',e,(I'.unwish).tr,T,t0,fun b hb=>gC.tr (f b hb),r⟩) fun _ _ z=>False.elim z) fun _ _ z=>False.elim z⟩
theorem PG.any {tg:Expr} {t:TG} (h:PG X.nox tg t):PG (X.tr E p) tg t:=⟨fun pins s σ H v u Q I r hw =>
 wpAny_mono (h (p++pins) s σ H v u Q (I.untr.wish _) r hw) (fun _ s1 ⟨σ',H',I',q⟩=>⟨σ',H',(I'.unwish).tr,q⟩) fun _ _ z=>False.elim z⟩
end
structure KsX (C:Ctx) (ow:List Bool) (G:Hp) (pd:List (D×V)) (xx:XD) (xk:XS):Prop where
 go:∀ c ns es ρ σ dx G' H,xx c ns es ρ→aJ G G'→R C ow G' ρ σ H pd→lI G' ns es dx→xk σ (.ref c) dx H
theorem KsX.mono {C:Ctx} {ow:List Bool} {G G1:Hp} {pd:List (D×V)} {xx:XD} {xk:XS} (h:KsX C ow G pd xx xk) (s:aJ G G1):KsX C ow G1 pd xx xk:=⟨fun c ns es ρ σ dx G' H a b=>h.go c ns es ρ σ dx G' H a (s.trans b)⟩
abbrev MSX:=XD→MS
abbrev MEX:=XD→ME
def Good (X:Cx) (E:Value→Shared→Prop) (p:List (Addr×Obj)) (xk:XS):Prop:=PassesOwn (model X.prog X.w) X.A X.env E∧Acc (X.tr E p) xk
def SSX (M:Md) (t:XS→TS) (m:MSX):Prop:=∀ (C:Ctx) (G:Hp) (ρ:DSt) (σ:St) (H:Hp) (n:EndsD) (D:Ends) (xx:XD) (xk:XS),gr C M.mu→C.np=0→R C M.ow G ρ σ H []→m xx n ρ→Ks C M.ow M.fr G n D→KsX C M.ow G [] xx xk→t xk D σ H
def SEX (ow:List Bool) (t:XS→TE) (m:MEX):Prop:=∀ (C:Ctx) (G:Hp) (ρ:DSt) (σ:St) (H:Hp) (pd:List (D×V)) (q:D→DSt→Prop) (Q:VK) (xx:XD) (xk:XS),R C ow G ρ σ H pd→m xx ρ q→KsX C ow G pd xx xk →
 (∀ d ρ' v G' H',q d ρ'→aJ G G'→Kp ow ρ ρ'→R C ow G' ρ' σ H' pd→Rep G' d v→Q v H')→t xk σ H Q
def SFX (ow:List Bool) (t:XS→TE) (m:MEX):Prop:=∀ (C:Ctx) (G:Hp) (ρ:DSt) (σ:St) (H:Hp) (pd:List (D×V)) (q:D→DSt→Prop) (Q:VK) (xx:XD) (xk:XS),R C ow G ρ σ H pd→m xx ρ q→KsX C ow G pd xx xk →
 (∀ d ρ' v G' H',q d ρ'→aJ G G'→Kp ow ρ ρ'→R C ow G' ρ' σ H' ((d,v) :: pd)→Q v H')→t xk σ H Q
structure QX (X:Cx) (M:Md) (st:Stmt) (m:MSX):Prop where
 ex:∃ t,(∀ E p xk,Good X E p xk→PS (X.tr E p) st (t xk))∧SSX M t m
structure QXs (X:Cx) (M:Md) (st:List Stmt) (m:MSX):Prop where
 ex:∃ t,(∀ E p xk,Good X E p xk→PSs (X.tr E p) st (t xk))∧SSX M t m
structure QXE (X:Cx) (ow:List Bool) (e:Expr) (m:MEX):Prop where
 ex:∃ t,(∀ E p xk,Good X E p xk→PE (X.tr E p) e (t xk))∧SEX ow t m
structure QXF (X:Cx) (ow:List Bool) (e:Expr) (m:MEX):Prop where
 ex:∃ t,(∀ E p xk,Good X E p xk→PE (X.tr E p) e (t xk))∧SFX ow t m
section
variable {X:Cx} {M:Md} {a b c e:Expr} {mt:MT} {pos pos':Pos} {st:Stmt} {rest:List Stmt} {m:MS} {m1 m2:MSX} {mex:MEX}
theorem bZ (h:QS X.nox M st m):QX X M st (fun _=>m):=by
 obtain ⟨t,p,s⟩:=h
 exact ⟨fun _=>t,fun E q xk g=>PS.any p,fun C G ρ σ H n D xx xk hm hn r h k kx=>s C G ρ σ H n D hm hn r h k⟩
theorem cR:QXs X M [] (fun _=>ux):=⟨fun _=>_,fun E q xk g=>nE,fun C G ρ σ H n D xx xk hm hn r h k kx=>k.nx ρ σ G H h (aJ.refl _) r⟩
theorem aW (h:QX X M st m1):QXs X M [st] m1:=by obtain ⟨t,p,s⟩:=h; exact ⟨_,fun E q xk g=>fu (p E q xk g),s⟩
theorem aL (h:QX X M st m1) (h2:QXs X M rest m2):QXs X M (st :: rest) (fun xx=>mSeq (m1 xx) (m2 xx)):=by
 obtain ⟨t,p,s⟩:=h; obtain ⟨t2,p2,s2⟩:=h2
 refine ⟨fun xk=>tSeq (t xk) (t2 xk),fun E q xk g=>cz (p E q xk g) (p2 E q xk g),fun C G ρ σ H n D xx xk hm hn r h k kx=>s C G ρ σ H _ _ xx xk hm hn r h ?_ kx⟩
 exact ⟨fun ρ' σ' G' H' h' z r'=>s2 C G' ρ' σ' H' n D xx xk hm hn r' h' (k.mono z) (kx.mono z),k.bk,k.ct,k.rt⟩
theorem fG {s1 s2:List Stmt} (h:QT X.nox M.ow c mt) (h1:QXs X M s1 m1) (h2:QXs X M s2 m2):QX X M (.If c s1 s2 pos) (fun xx=>mIfS mt (m1 xx) (m2 xx)):=by
 obtain ⟨t,p,s⟩:=h; obtain ⟨t1,p1,s1⟩:=h1; obtain ⟨t2,p2,s2⟩:=h2
 refine ⟨fun xk=>tIfS t (t1 xk) (t2 xk),fun E q xk g=>uK (PT.any p) (p1 E q xk g) (p2 E q xk g),fun C G ρ σ H n D xx xk hm hn r h k kx=>s C G ρ σ H [] _ _ r h fun b ρ' G' H' hq z kp r'=>?_⟩
 cases b with
 | true=>rw [if_pos rfl] at hq ⊢; exact s1 C G' ρ' σ H' n D xx xk hm hn r' hq (k.mono z) (kx.mono z)
 | false=>rw [if_neg (by decide)] at hq ⊢; exact s2 C G' ρ' σ H' n D xx xk hm hn r' hq (k.mono z) (kx.mono z)
theorem eB (h:QXE X M.ow e mex) (hs:swapsWith e none pos.line X.env=pure false:=by rfl):QX X M (.Expr e pos) (fun xx=>qu (mex xx)):=by
 obtain ⟨t,p,s⟩:=h
 exact ⟨fun xk=>p5 (t xk),fun E q xk g=>dD (p E q xk g) hs,fun C G ρ σ H n D xx xk hm hn r h k kx=>s C G ρ σ H [] _ _ xx xk r h kx fun d ρ' v G' H' hq z kp r' p=>k.nx ρ' σ G' H' hq z r'⟩
theorem qw (h:QXF X M.ow e mex) (hs:swapsWith e none pos.line X.env=pure false:=by rfl):QX X M (.Expr e pos) (fun xx=>qu (mex xx)):=by
 obtain ⟨t,p,s⟩:=h
 refine ⟨fun xk=>p5 (t xk),fun E q xk g=>dD (p E q xk g) hs,fun C G ρ σ H n D xx xk hm hn r h k kx=>s C G ρ σ H [] _ _ xx xk r h kx fun d ρ' v G' H' hq z kp r'=>?_⟩
 obtain ⟨O,r'⟩:=r'
 exact k.nx ρ' σ G' H' hq z ⟨O,r'.drop (by rw [hn]; exact Nat.zero_le _)⟩
theorem mH {i:Nat} {x:Str} (hN:X.N.Nodup) (hi:X.N[i]? = some x) (hx:Loc X.env.scope x) (he:QXE X M.ow e mex) (ho:M.ow[i]?≠some true:=by decide) (hu:M.mu[i]?≠some true:=by decide) (hs:swapsWith e (some (.Name x pos')) pos.line X.env=pure false:=by rfl) (hf:X.fn x=true∨X.env.scope.names.lookup x=some .local:=by first | exact .inl rfl | exact .inr rfl | assumption) :
 QX X M (.Assign [.Name x pos'] e pos) (fun xx=>mx i (mex xx)):=by
 obtain ⟨t,p,s⟩:=he
 refine ⟨fun xk=>nW (t xk) (iR i),fun E q xk g=>gO hN hi hx (p E q xk g) hs hf,fun C G ρ σ H n D xx xk hm hn r h k kx=>s C G ρ σ H [] _ _ xx xk r h kx fun d ρ' v G' H' hq z kp r' p=>?_⟩
 obtain ⟨O,r'⟩:=r'
 exact k.nx _ _ G' H' hq z ⟨O,r'.setS ho (hm.no hu) p⟩
variable {mg:MG}
theorem iJ {mi:MA} {tg iter:Expr} {body:List Stmt} (hc:X.calm=true) (hi:QI X.nox M.ow tg iter mi) (hg:QG X.nox M tg mg) (hb:QXs X M body m1)
 (hs:∀ x,foldedSetIterable iter X.env x=pure x:=by intro _; rfl):QX X M (.For tg iter body [] pos) (fun xx=>mFor mi mg (m1 xx)):=by
 obtain ⟨ti,pi,si⟩:=hi; obtain ⟨tg',pg,sg⟩:=hg; obtain ⟨tb,pb,sb⟩:=hb
 refine ⟨fun xk=>tFor ti tg' (tb xk),fun E q xk g=>qX g.1 hc (PI.any pi) (PG.any pg) (pb E q xk g) hs,fun C G ρ σ H n D xx xk hm hn r h k kx=>si C G ρ σ H [] _ _ r h fun ds ρ0 G0 H0 J hq z0 kp r0 jo=>?_⟩
 obtain ⟨I,i0,turn,fin⟩:=hq
 refine ⟨fun i j σ' H'=>j=ds.length - i∧i≤ds.length∧∃ G' ρ',aJ G0 G'∧R C M.ow G' ρ' σ' H' []∧I i ρ',⟨_,rfl,Nat.zero_le _,G0,ρ0,aJ.refl _,r0,i0⟩,?_⟩
 rintro i j σ' H' ⟨rfl,hi,G',ρ',z,r',w⟩
 obtain ⟨st,go⟩:=jo C M.ow G' ρ' σ' H' [] i z r'
 by_cases hlt:i<ds.length
 ·obtain ⟨g1,g2⟩:=go ds[i] (List.getElem?_eq_getElem hlt)
  refine .inr ⟨g1,fun σ2 H2=>∃ G2 ρ2,aJ G0 G2∧R C M.ow G2 ρ2 σ2 H2 []∧I (i + 1) ρ2,fun σ2 H2 h=>⟨ds.length - (i + 1),by omega,rfl,hlt,h⟩,fun x H1 hy=>?_⟩
  obtain ⟨G1,z1,r1,p1⟩:=g2 x H1 hy
  refine sg C G1 ρ' σ' H1 [] ds[i] x _ _ hm r1 p1 (turn i ds[i] ρ' (List.getElem?_eq_getElem hlt) w) fun ρ2 σ2 h2 r2=>?_
  refine sb C G1 ρ2 σ2 H1 _ _ xx xk hm hn r2 h2 ⟨?_,?_,?_,?_⟩ (kx.mono (z0.trans (z.trans z1)))
  ·intro ρ3 σ3 G3 H3 h3 z3 r3; exact ⟨G3,ρ3,z.trans (z1.trans z3),r3,h3⟩
  ·intro ρ3 σ3 G3 H3 h3 z3 r3; exact k.nx ρ3 σ3 G3 H3 h3 (z0.trans (z.trans (z1.trans z3))) r3
  ·intro ρ3 σ3 G3 H3 h3 z3 r3; exact ⟨G3,ρ3,z.trans (z1.trans z3),r3,h3⟩
  ·intro d ρ3 σ3 v G3 H3 h3 z3 r3; exact k.rt d ρ3 σ3 v G3 H3 h3 (z0.trans (z.trans (z1.trans z3))) r3
 ·have e:i=ds.length:=by omega
  subst e
  exact .inl ⟨st (Nat.le_refl _),k.nx ρ' σ' G' H' (fin ρ' w) (z0.trans z) r'⟩
variable {es:List Expr} {ks:List AK} {mr:MA} {x:Str} {p':Pos} {ow:List Bool}
def jX (ks:List AK) (sd:SpX) (m:MA):MEX:=fun xx ρ q=>m ρ fun ds ρ1=>match dc ks ds ρ1 with
 | some ds'=>sd ds' (fun d os=>q d (eJ ks os ρ1)) fun c ns es os=>xx c ns es (eJ ks os ρ1)
 | none=>False
end
section
variable {X:Cx} {M:Md} {e:Expr} {es:List Expr} {ks:List AK} {mr:MA} {x:Str} {pos p':Pos} {ow:List Bool} {mu:List Bool} {k:Nat} {f:Addr} {fd:FuncData} {ps:List Str} {sd:SpX}
theorem qY (F:FnOk X.prog X.w X.K X.mg X.base (CX1 X.prog X.w) k f fd ps (cy mu false sd)) (hr:Room k X.A) (hg:Gl X x) (hm:X.mg x=some (.ref f)) (hk:PySem.W.keepIn X.K (.ref f)=true) (hb:cw X.K fd ps [])
 (ha:QAk X.nox ow ks (e :: es) mr) (hex:X.ex=[]:=by rfl) (hmu:mu=ks.map AK.isM:=by rfl) (nd:(ax ks).Nodup:=by decide) (hw:∀ i∈ax ks,ow[i]? = some true:=by decide) (hdb:(x == ("__debug__":Str))=false:=by decide)
 (he:starEach (e :: es) X.env=(false,eval e X.env) :: starEach es X.env:=by rfl) (hpl:(backTo pos (starEach es X.env)).any (·.1)=false:=by rfl):QXE X ow (.Call (.Name x p') (e :: es) [] pos) (jX ks sd mr):=by
 obtain ⟨t,p,s⟩:=ha
 subst hmu
 refine ⟨fun xk=>my xk (cy (ks.map AK.isM) false sd) t,fun E q xk g=>ly (X:=X.tr E q) hex g.2 F hr hg hm hk hb (PA.any p) hdb he hpl,fun C G ρ σ H pd q Q xx xk r hm kx k=>s C G ρ σ H pd _ _ r hm fun ds ρ' vs T G' H' hq z kp r' p=>?_⟩
 split at hq
 ·rename_i ds' ef
  exact jp (fr:=false) r.np r' p ef nd hw hq (fun d ρ2 v G2 H2 hq2 z2 kp2 h2=>by
   rw [if_neg (by decide)] at h2
   exact k d ρ2 v G2 H2 hq2 (z.trans z2) (kp.trans kp2) h2.1 h2.2) fun c ns es ρ2 dx G2 H2 hq2 z2 kp2 r2 x2=>kx.go c ns es ρ2 σ dx G2 H2 hq2 (z.trans z2) r2 x2
 ·exact hq.elim
theorem qU (F:FnOk X.prog X.w X.K X.mg X.base (CX1 X.prog X.w) k f fd ps (cy mu true sd)) (hr:Room k X.A) (hg:Gl X x) (hm:X.mg x=some (.ref f)) (hk:PySem.W.keepIn X.K (.ref f)=true) (hb:cw X.K fd ps [])
 (ha:QAk X.nox ow ks (e :: es) mr) (hex:X.ex=[]:=by rfl) (hmu:mu=ks.map AK.isM:=by rfl) (nd:(ax ks).Nodup:=by decide) (hw:∀ i∈ax ks,ow[i]? = some true:=by decide) (hdb:(x == ("__debug__":Str))=false:=by decide)
 (he:starEach (e :: es) X.env=(false,eval e X.env) :: starEach es X.env:=by rfl) (hpl:(backTo pos (starEach es X.env)).any (·.1)=false:=by rfl):QXF X ow (.Call (.Name x p') (e :: es) [] pos) (jX ks sd mr):=by
 obtain ⟨t,p,s⟩:=ha
 subst hmu
 refine ⟨fun xk=>my xk (cy (ks.map AK.isM) true sd) t,fun E q xk g=>ly (X:=X.tr E q) hex g.2 F hr hg hm hk hb (PA.any p) hdb he hpl,fun C G ρ σ H pd q Q xx xk r hm kx k=>s C G ρ σ H pd _ _ r hm fun ds ρ' vs T G' H' hq z kp r' p=>?_⟩
 split at hq
 ·rename_i ds' ef
  exact jp (fr:=true) r.np r' p ef nd hw hq (fun d ρ2 v G2 H2 hq2 z2 kp2 h2=>by
   rw [if_pos rfl] at h2
   exact k d ρ2 v G2 H2 hq2 (z.trans z2) (kp.trans kp2) h2) fun c ns es ρ2 dx G2 H2 hq2 z2 kp2 r2 x2=>kx.go c ns es ρ2 σ dx G2 H2 hq2 (z.trans z2) r2 x2
 ·exact hq.elim
end
theorem Fun.okX {P:Program} {w:World} {K:PySem.W.Frag} {mg:Str→Option Value} {base:Heap} {x qual:Str} {st:Stmt} {f:Addr} {fd:FuncData} {N ps:List Str} {k:Nat} {sp:Sp} (F:Fun K x qual st f fd) (S:FnScope N ps (ah st)) (len:∀ vs H Q E,sp vs H Q E→vs.length=ps.length)
 (hbody:∀ (cdv:Value) (A:Around) (outer:List Env) (s:Shared) (H:Hp) (vs:List V) (Q:VK) (E:XK),Room k (A.deeper (envOfC qual (ah st) s.heap.objs.size f cdv))→sp vs H Q E →
  ∃ t,PSs (ix (CX1 P w) P w K mg base N qual (ah st) f cdv A outer s H E) (cf st) t∧t { nx:=fun _ H'=>Q .non H',rt:=Q } (d8 N vs) H):FnOk P w K mg base (CX1 P w) (k + 1) f fd ps sp:=by
 obtain ⟨oc,od,kV,doc,pm,an,cdv,ct,osl,rfl,lk,hcd⟩:=F.ex
 exact uP lk hcd S len fun A outer s H vs Q E hr hsp=>hbody cdv A outer s H vs Q E hr hsp
theorem fnX {P:Program} {w:World} {K:PySem.W.Frag} {mg:Str→Option Value} {base:Heap} {x qual:Str} {st:Stmt} {f:Addr} {fd:FuncData} {N ps:List Str} {k:Nat} (F:Fun K x qual st f fd) (S:FnScope N ps (ah st)) (M:Md) (sd:SpX)
 (hl:∀ ds q qx,sd ds q qx→ds.length=ps.length) (ho:M.ow.take ps.length=M.mu) (hml:M.mu.length=ps.length)
 (hbody:∀ (cdv:Value) (A:Around) (outer:List Env) (s:Shared) (H:Hp) (E:XK),Room k (A.deeper (envOfC qual (ah st) s.heap.objs.size f cdv)) →
  ∃ m,QXs (ix (CX1 P w) P w K mg base N qual (ah st) f cdv A outer s H E) M (cf st) m∧∀ ds q qx,sd ds q qx→m (fun c ns es ρ=>qx c ns es (mus M.mu ρ)) (i_ M.mu q) (ds.map some++List.replicate (N.length - ps.length) none)) :
 FnOk P w K mg base (CX1 P w) (k + 1) f fd ps (cy M.mu M.fr sd):=by
 have hov:∀ i:Nat,i<M.mu.length→M.ow[i]? = M.mu[i]?:=fun i hi=>by rw [← ho,List.getElem?_take_of_lt (by omega)]
 have hlen:∀ vs H Q E,cy M.mu M.fr sd vs H Q E→vs.length=ps.length:=fun vs H Q E ⟨C,G,ds,q,qx,_,_,⟨O,ro⟩,h1,_,_⟩=>by
  have:=ro.len; simp at this; rw [← this]; exact hl ds q qx h1
 refine F.okX S hlen fun cdv A outer s H vs Q E hr hsp=>?_
 obtain ⟨m,⟨t,p,ss⟩,hm⟩:=hbody cdv A outer s H E hr
 have hvl:=hlen vs H Q E hsp
 obtain ⟨C,G,ds,q,qx,hnp,hmu,⟨O,ro⟩,hsd,hml2,kk,kkx⟩:=hsp
 refine ⟨t (fun _=>E),p _ [] (fun _=>E) ⟨PassesOwn.leaving,vT⟩,?_⟩
 have hmo:gr C M.mu:=fun i v e=>by rw [hmu] at e; exact (km e).1
 have r0:R C M.ow G (ds.map some++List.replicate (N.length - ps.length) none) (d8 N vs) H []:=by
  unfold d8; rw [hvl]
  exact ⟨O,ro.grow _ fun i hi=>hov i (by omega)⟩
 refine ss C G _ _ H (i_ M.mu q) _ _ _ hmo hnp r0 (hm ds q qx hsd) ⟨?_,fun _ _ _ _ h=>h.elim,fun _ _ _ _ h=>h.elim,?_⟩ ⟨?_⟩
 ·intro ρ σ G' H' h z ⟨O',r'⟩
  refine kk .non (cj M.mu.length ρ) (cj M.mu.length σ) .non G' H' (by rw [cD]; exact h) z (cu _ _) (R.non ⟨O',r'.trim hmo hov⟩)
 ·intro d ρ σ v G' H' h z hr'
  refine kk d (cj M.mu.length ρ) (cj M.mu.length σ) v G' H' (by rw [cD]; exact h) z (cu _ _) ?_
  unfold Ret at hr' ⊢
  split at hr'
  ·rename_i c; rw [if_pos c]; obtain ⟨O',r'⟩:=hr'; exact ⟨O',r'.trim hmo hov⟩
  ·rename_i c; rw [if_neg c]; obtain ⟨⟨O',r'⟩,p⟩:=hr'; exact ⟨⟨O',r'.trim hmo hov⟩,p⟩
 ·intro c ns es ρ σ dx G' H' h z ⟨O',r'⟩ hx
  exact kkx c ns es (cj M.mu.length ρ) (cj M.mu.length σ) dx G' H' (by rw [cD]; exact h) z (cu _ _) ⟨O',r'.trim hmo hov⟩ hx
def i2 (c:Addr) (ns:List Str) (es:List D):D:=.ext fun H a=>∃ dx,H a=some (.ext (gQ a (.ref c) dx))∧lI H ns es dx
def EndsD.unb (n:EndsD) (i:Nat):EndsD:={ nx:=fun ρ=>n.nx (ρ.set i none),rt:=fun d ρ=>n.rt d (ρ.set i none),bk:=fun ρ=>n.bk (ρ.set i none),ct:=fun ρ=>n.ct (ρ.set i none) }
theorem RO.gone {C:Ctx} {ow:List Bool} {G:Hp} {ρ:DSt} {σ:St} {H:Hp} {pd:List (D×V)} {O:Own} (h:RO C ow G ρ σ H pd O) (i:Nat) (hm:∀ v,C.mu[i]?≠some (some v)):RO C ow G (ρ.set i none) (σ.set i none) H pd O:=by
 refine ⟨by simpa using h.len,h.gh,h.g0,h.gn,h.og,h.cok,h.fr,h.ft,h.al,fun j v e=>?_,fun j d e=>?_,h.pn,h.np⟩
 ·have:i≠j:=fun z=>by subst z; exact hm v e
  rw [List.getElem?_set_ne this]; exact h.mp j v e
 ·have:i≠j:=fun z=>by
   subst z
   rw [List.getElem?_set] at e
   split at e
   ·split at e <;> cases e
   ·rename_i c; exact c rfl
  rw [List.getElem?_set_ne this] at e ⊢
  exact h.sl j d e
def mTry (i:Nat) (ok:Value→Prop) (mb:MSX) (ms:Value→MS):MSX:=fun _ n ρ=>mb (fun c ns es ρ'=>ok (.ref c)∧∀ v,ms v (n.unb i) (ρ'.set i (some (i2 c ns es)))) n ρ
theorem sr {X:Cx} {M:Md} {body:List Stmt} {b0:Stmt} {suite:List Stmt} {x n:Str} {i:Nat} {D0:Addr} {bmD:List Value} {iniD:Option Value} {np npos pos:Pos} {mb:MSX} {ms:Value→MS} (hN:X.N.Nodup) (hi:X.N[i]? = some n) (hl:X.env.kindOf n=some .local) (hg:Gl X x) (hm:X.mg x=some (.ref D0)) (hD:bX X.K D0 bmD iniD=true)
 (hb:QXs X M body mb) (hs:∀ v,QSs (X.hand v) M (b0 :: suite) (ms v)) (hst:X.stack=X.env :: X.outer:=by rfl) (hf:X.env.frame=some X.env.locals:=by rfl) (ho:M.ow[i]?≠some true:=by decide) (hu:M.mu[i]?≠some true:=by decide) (hdb:(x == ("__debug__":Str))=false:=by decide) :
 QX X M (.Try body [.ExceptHandler (some (.Name x np)) (some n) (b0 :: suite) npos] [] [] pos) (mTry i (eE X.K D0) mb ms):=by
 obtain ⟨tb,pb,sb⟩:=hb
 have hs':∀ ea:Addr,∃ t,PSs (X.hand (.ref ea)) (b0 :: suite) t∧SS M t (ms (.ref ea)):=fun ea=>(hs (.ref ea)).ex
 let ts:Addr→TS:=fun ea=>(hs' ea).choose
 have hts:∀ ea,PSs (X.hand (.ref ea)) (b0 :: suite) (ts ea)∧SS M (ts ea) (ms (.ref ea)):=fun ea=>(hs' ea).choose_spec
 refine ⟨fun _=>tTry i (eE X.K D0) tb ts,fun E q xk g=>wz (X:=X.tr E q) hst hf hN hi hl hg hm hD (fun E' p' xk' h1 h2=>?_) (fun ea=>?_) hdb,fun C G ρ σ H n D xx xk hm hn r h k kx=>?_⟩
 ·have e:(X.tr E q).tr E' p'=X.tr E' (q++p'):=by
   show ({ X with xe:=E',pn:=(X.pn++q)++p' }:Cx) = { X with xe:=E',pn:=X.pn++(q++p') }
   rw [List.append_assoc]
  rw [e] at h2 ⊢
  exact pb E' (q++p') xk' ⟨h1,h2⟩
 ·refine ⟨fun pins s σ H D I hw=>?_⟩
  have I':Inv (X.hand (.ref ea)) (q++pins) σ H s:=⟨{ I.ok with },I.os,I.bare,I.base,I.loc,I.cell,I.free,I.freeC,fun z hz=>I.pin z (by simpa using hz),I.hok,I.len⟩
  refine wpAny_mono ((hts ea).1 (q++pins) s σ H D I' hw) (fun f s' z=>?_) fun _ _ z=>False.elim z
  have back:∀ {σ' H'},Inv (X.hand (.ref ea)) (q++pins) σ' H' s'→Inv ((X.tr E q).hand (.ref ea)) pins σ' H' s':=fun {σ' H'} J=>⟨{ J.ok with },J.os,J.bare,J.base,J.loc,J.cell,J.free,J.freeC,fun z hz=>J.pin z (by simpa using hz),J.hok,J.len⟩
  cases f with
  | next=>obtain ⟨σ',H',J,q⟩:=z; exact ⟨σ',H',back J,q⟩
  | brk=>obtain ⟨σ',H',J,q⟩:=z; exact ⟨σ',H',back J,q⟩
  | cont=>obtain ⟨σ',H',J,q⟩:=z; exact ⟨σ',H',back J,q⟩
  | ret u=>obtain ⟨v,σ',H',J,r,q⟩:=z; exact ⟨v,σ',H',back J,r,q⟩
 ·refine sb C G ρ σ H n D _ _ hm hn r h k ⟨fun c ns es ρ' σ' dx G' H' hq z r' hx=>⟨hq.1,fun ea hea=>?_⟩⟩
  obtain ⟨O,ro⟩:=r'
  obtain ⟨ro2,z2⟩:=ro.new hea (.ext (gQ ea (.ref c) dx))
  have rep:Rep (upd G' ea (.ext (gQ ea (.ref c) dx))) (i2 c ns es) (.ref ea):=by
   unfold i2
   rw [Rep]
   exact ⟨ea,_,rfl,aJ.refl _,dx,by simp [upd],hx.mono z2⟩
  refine (hts ea).2 C _ _ _ _ (n.unb i) (D.unb i) hm hn ⟨O,ro2.setS ho (hm.no hu) rep⟩ (hq.2 (.ref ea)) ⟨?_,?_,?_,?_⟩
  ·intro ρ3 σ3 G3 H3 h3 z3 ⟨O3,r3⟩; exact k.nx _ _ G3 H3 h3 (z.trans (z2.trans z3)) ⟨O3,r3.gone i (hm.no hu)⟩
  ·intro ρ3 σ3 G3 H3 h3 z3 ⟨O3,r3⟩; exact k.bk _ _ G3 H3 h3 (z.trans (z2.trans z3)) ⟨O3,r3.gone i (hm.no hu)⟩
  ·intro ρ3 σ3 G3 H3 h3 z3 ⟨O3,r3⟩; exact k.ct _ _ G3 H3 h3 (z.trans (z2.trans z3)) ⟨O3,r3.gone i (hm.no hu)⟩
  ·intro d ρ3 σ3 v G3 H3 h3 z3 r3
   refine k.rt d (ρ3.set i none) (σ3.set i none) v G3 H3 h3 (z.trans (z2.trans z3)) ?_
   unfold Ret at r3 ⊢
   split at r3
   ·rename_i c; rw [if_pos c]; obtain ⟨O3,r3⟩:=r3; exact ⟨O3,r3.gone i (hm.no hu)⟩
   ·rename_i c; rw [if_neg c]; obtain ⟨⟨O3,r3⟩,p⟩:=r3; exact ⟨⟨O3,r3.gone i (hm.no hu)⟩,p⟩
end L2
namespace L2
open PySem PySem.Spec PyProof.Rows PySem.W Builtin.ObjectAttr
section
variable {prog:Program} {w:World} {A:Around} {E:Value→Shared→Prop} {s:Shared} {K:PySem.W.Frag} {x D:Addr} {ox:Obj} {od:Option Obj} {name:Str} {bm:List Value} {ini:Option Value} {tk:Tok}
theorem oB {M:Model} {nameV:Value} {Q:Unit→Shared→Prop} (I:PySem.W.InstAt s.heap x ox D od) (hC:lD s.heap D bm ini) (hq:Q () s):wpAny M A (checkBuiltinCall "BaseException.__getattribute__" ⟨[.ref x,nameV],[]⟩) Q E s:=by
 obtain ⟨N,nm,q,bs,hdct,sn,sub,ab,col,dd,k0,k1,k2,k3,k5,mN,hC,hN,hni,T⟩:=hC
 obtain ⟨h,g,d,t,os⟩:=s
 have hx:=I.at_
 have hc:=I.cls
 have hk:builtinKind "BaseException.__getattribute__" = some .slot:=by decide +kernel
 have hsplit:splitId "BaseException.__getattribute__" = some ("BaseException","__getattribute__"):=by decide +kernel
 have hcB:(Value.ref D :: bm).contains (.type "BaseException")=true:=by rw [List.contains_cons,gM T,Bool.or_true]
 have ha:=PySem.F.args_bexc_ga (.ref x) nameV
 simp only [checkBuiltinCall,hk,hsplit]
 refine wpAny_bind ?_
 ·unfold isInstance
  repeat (first | (with_reducible refine wpAny_loadPart_at hx ?_; rw [hc]) | (with_reducible refine wpAny_isSubtype_exc hC ?_; rw [hcB]) | wp_step)
  exact hq
theorem oZ {v:Value} {Q:Fin→Shared→Prop} (X:K.In s.heap) (I:PySem.W.InstAt s.heap x ox D od) (hf:PySem.W.findObj K D od name=some (.value v)) (h:Q (.done (.ret v)) s) :
 wpAny (model prog w) A (Builtin.«object.__getattribute__» ⟨[.ref x,.str name tk],[]⟩) Q E s:=by
 have L0:=I.type (M:=model prog w)
 have L1:=PySem.W.looks_find (M:=model prog w) X I hf
 refine wpAny_bind (wpAny_pure (wpAny_bind (wpAny_pure (wpAny_bind (L0.at (wpAny_bind (L1.at ?_)))))))
 exact wpAny_pure h
theorem qj {g a:Value} {Q:Fin→Shared→Prop} (X:K.In s.heap) (I:PySem.W.InstAt s.heap x ox D od) (hf:PySem.W.findObj K D od name=some (.bind g a)) (h:wpAny (model prog w) A (call g [a,.ref x,.ref D]) (fun v s'=>Q (.done (.ret v)) s') E s) :
 wpAny (model prog w) A (Builtin.«object.__getattribute__» ⟨[.ref x,.str name tk],[]⟩) Q E s:=by
 have L0:=I.type (M:=model prog w)
 have L1:=PySem.W.looks_find (M:=model prog w) X I hf
 refine wpAny_bind (wpAny_pure (wpAny_bind (wpAny_pure (wpAny_bind (L0.at (wpAny_bind (L1.at ?_)))))))
 show wpAny _ _ (bindTo g a (.ref x) (.ref D)) _ _ _
 unfold bindTo
 exact wpAny_bind (wpAny_holding (wpAny_mono h (fun v s' z=>wpAny_pure z) fun _ _ z=>z))
theorem rV {fill expr:Bool} {Q:Value→Shared→Prop} (X:K.In s.heap) (I:PySem.W.InstAt s.heap x ox D od) (hC:lD s.heap D bm ini) (hga:PySem.W.findIn K (.ref D) "__getattribute__" = some (some (.builtin "BaseException.__getattribute__")))
 (hgn:PySem.W.findIn K (.ref D) "__getattr__" = some none)
 (h:wpAny (model prog w) A.in1 (Builtin.«object.__getattribute__» ⟨[.ref x,.str name tk],[]⟩) (fun fin s'=>match fin with | .done (.ret v)=>wpAny (model prog w) A (handedOut v) Q E s' | _=>False) (fun _ _=>False) s) :
 wpAny (model prog w) A (getAttrBy (.ref x) (.str name tk) fill expr) Q E s:=by
 obtain ⟨hh,g,d,t,os⟩:=s
 have L0:=I.type (M:=model prog w)
 have L1:=PySem.W.looks_findIn (M:=model prog w) X hga
 have L2:=PySem.W.looks_findIn (M:=model prog w) X hgn
 have f3:=PySem.F.attr_ValueError.ga.bind (.ref x)
 unfold getAttrBy
 refine wpAny_holding (wpAny_bind (L0.at (wpAny_bind (L1.at ?_))))
 show wpAny _ _ (if (true&&(Value.builtin "BaseException.__getattribute__" == Value.builtin "object.__getattribute__"))=true then _ else getAttrByItsOwn _ _ _ _ _ _) _ _ _
 rw [if_neg (by decide +kernel)]
 unfold getAttrByItsOwn
 show wpAny _ _ (typeLookup (.ref D) "__getattr__" >>= _) _ _ _
 refine wpAny_bind (L2.at (wpAny_bind (wpAny_attempt (wpAny_holding ?_))))
 unfold callGetattribute
 rw [if_neg (by cases expr <;> decide)]
 unfold boundAndCalled
 rw [f3]
 refine wpAny_bind (wpAny_pure (wpAny_call (codeAny_call_builtin PySem.F.attr_ValueError.ga.plain PySem.F.entry_bexc_ga (oB I hC ?_))))
 refine wpAny_mono h (fun fin s' z=>?_) fun _ _ z=>z.elim
 rcases fin with (_ | _ | _ | _) | _ <;> first | exact z | exact z.elim
theorem rO {v:Value} {expr:Bool} {Q:Value→Shared→Prop} (X:K.In s.heap) (I:PySem.W.InstAt s.heap x ox D od) (hC:lD s.heap D bm ini) (hga:PySem.W.findIn K (.ref D) "__getattribute__" = some (some (.builtin "BaseException.__getattribute__")))
 (hgn:PySem.W.findIn K (.ref D) "__getattr__" = some none) (hf:PySem.W.findObj K D od name=some (.value v)) (hv:∀ tk,wpAny (model prog w) A (handedOut v) Q E { s with toks:=tk }):wpAny (model prog w) A (getAttr (.ref x) name expr) Q E s:=by
 unfold getAttr
 refine wpAny_bind (wpAny_mkText ?_)
 exact rV (s:={ s with toks:=s.toks + 1 }) X I hC hga hgn (oZ (s:={ s with toks:=s.toks + 1 }) X I hf (hv _))
theorem nZ {Q:Option Value→Shared→Prop} (X:K.In s.heap) (I:PySem.W.InstAt s.heap x ox D od) (hC:lD s.heap D bm ini) (hga:PySem.W.findIn K (.ref D) "__getattribute__" = some (some (.builtin "BaseException.__getattribute__")))
 (hgn:PySem.W.findIn K (.ref D) "__getattr__" = some none) (hf:PySem.W.findObj K D od "__class__" = some (.bind (.builtin "getset_descriptor.__get__") (.builtin "object.__class__"))) (hm:PySem.W.mroIn K D (.type "object")=some true)
 (h:Q (some (.ref D)) { s with toks:=s.toks + 1 }):wpAny (model prog w) A (getAttr? (.ref x) "__class__") Q E s:=by
 unfold getAttr?
 refine wpAny_bind (wpAny_mkText ?_)
 unfold getAttrBy?
 refine wpAny_bind (wpAny_attempt ?_)
 refine rV (s:={ s with toks:=s.toks + 1 }) X I hC hga hgn (qj (s:={ s with toks:=s.toks + 1 }) X I hf ?_)
 exact wpAny_call (PySem.W.class_get (s:={ s with toks:=s.toks + 1 }) X I hm (PySem.W.handed_on rfl (wpAny_pure h)))
def cU (K:PySem.W.Frag) (D:Addr):Bool:=PySem.W.findIn K (.ref D) "__getattribute__" == some (some (.builtin "BaseException.__getattribute__"))&&PySem.W.findIn K (.ref D) "__getattr__" == some none &&
 PySem.W.findIn K (.ref D) "__class__" == some (some (.builtin "object.__class__"))&&PySem.W.specialIn K (.builtin "object.__class__") "__get__" == some (some (.builtin "getset_descriptor.__get__"))&&PySem.W.takesIn K (.builtin "object.__class__") == some true &&
 PySem.W.mroIn K D (.type "object") == some true&&PySem.W.hasDictIn K D
theorem sq (q:cU K D=true) (hq:bX K D bm ini=true):PySem.W.KitX K (.ref x) (.ref D) (fun h=>∃ ox od,PySem.W.InstAt h x ox D od):=by
 simp only [cU,Bool.and_eq_true,beq_iff_eq] at q
 obtain ⟨⟨⟨⟨⟨⟨q1,q2⟩,q3⟩,q4⟩,q5⟩,q6⟩,q7⟩:=q
 obtain ⟨cdD,hcD,_⟩:=PySem.W.any_some q7
 refine ⟨fun _ _ _ ⟨ox,od,I⟩=>I.type,fun _ _ X _=>?_,fun h tp dd its n sl X htp=>?_,fun {_ _ _ _ _ s} X ⟨ox,od,I⟩ k=>?_⟩
 ·unfold PySem.W.clsIn at hcD
  split at hcD
  ·rename_i c' d' cd' sl' ho
   intro A' Q' E' s' k q
   unfold isType loadHead
   exact wpAny_bind (wpAny_loadPart (k _ _ (X _ _ ho)) (wpAny_pure q))
  ·cases hcD
 ·refine Bool.eq_false_iff.mpr fun q=>?_
  have e:D=tp:=Value.ref.inj (beq_iff_eq.mp q)
  subst e
  unfold PySem.W.clsIn at hcD
  split at hcD
  ·rename_i c' d' cd' sl' ho
   have z:=(X _ _ ho).symm.trans htp
   cases z
  ·cases hcD
 ·refine nZ X I (dE X hq) q1 q2 ?_ q6 k
  unfold PySem.W.findObj
  rw [hcD,q3]
  simp only [Option.bind_some,q4,q5]
end
end L2
namespace L2
open PySem PySem.Spec PyProof.Rows
section
variable {X:Cx}
theorem qE {pins:List (Addr×Obj)} {σ:St} {H:Hp} {s:Shared} {a:Addr} {C:Addr} {dx:Option Addr} {ns:List Str} {es:List D} (I:Inv X pins σ H s) (h:H a=some (.ext (gQ a (.ref C) dx))) (hx:lI H ns es dx):∃ ox od,PySem.W.InstAt s.heap a ox C od:=by
 obtain ⟨⟨vs,sl,q⟩,_,_⟩:=(show a5 X.prog X.w H s.heap a (.ext (gQ a (.ref C) dx)) from I.hok a _ h)
 cases dx with
 | none=>exact ⟨_,none,q,rfl,rfl,trivial⟩
 | some d =>
  obtain ⟨xs,h1,_,_⟩:=hx
  obtain ⟨u,z⟩:=(I.hok d _ h1).here
  exact ⟨_,some u,q,rfl,rfl,z⟩
def IsX (K:PySem.W.Frag) (c:Value) (d:D) (b:Bool):Prop:=(∃ C ns es bm ini,d=i2 C ns es∧bX K C bm ini=true∧cU K C=true∧PySem.W.kitOne K (.ref C) c=some b)∨(d.isS=false∧PySem.W.kitOne K (.type d.ty) c=some b)
def rIsX (K:PySem.W.Frag) (c:V) (cv:Value):List V→Hp→VK→Prop:=fun xs H Q=>∃ x d b,xs=[x,c]∧Rep H d x∧IsX K cv d b∧Q (.bl b) H
theorem rX {c:V} {cv:Value} (hc:∀ u,a_ c u→u=cv):cF X (.builtin "isinstance") (rIsX X.K c cv):=by
 intro pins s σ H xs us Q I r h
 obtain ⟨x,d,b,rfl,hd,e,q⟩:=h
 obtain ⟨u,w',rfl,ru,rw'⟩:=lw r
 obtain rfl:=hc _ rw'
 have fin:∀ tk,EP X pins σ Q (.bool b) { s with toks:=tk }:=fun tk=>⟨.bl b,H,I.tok tk,rfl,q⟩
 rcases e with ⟨C,ns,es,bm,ini,rfl,h1,h2,h3⟩ | ⟨hs,e⟩
 ·unfold i2 at hd
  rw [Rep] at hd
  obtain ⟨a,H0,rfl,z,dx,h4,h5⟩:=hd
  cases (show u=Value.ref a from ru)
  exact PySem.W.kia_one (sq h2 h1) I.kIn (qE I (z _ _ h4) (h5.mono z)) h3 (fun z=>nomatch z) fin
 ·exact jM I ru (hd.ty hs) e fin
variable {ow:List Bool} {a:Expr} {ma:ME} {pos:Pos}
def mIsX (K:PySem.W.Frag) (c:Value) (m:ME):ME:=fun ρ q=>m ρ fun d ρ'=>∃ b,IsX K c d b∧q (.bl b) ρ'
theorem iZ {c:V} {cv:Value} {x y:Str} {p1 p2:Pos} (hc:∀ u,a_ c u→u=cv) (hg:Gl X x) (hm:X.mg x=none) (hv:bootBuiltins x=some (.builtin "isinstance")) (ha:QE X ow a ma) (ht:PE X (.Name y p2) (tC c))
 (hn:x ≠ "__name__":=by decide) (hdb:(x == ("__debug__":Str))=false:=by decide)
 (hs:starEach [.Name y p2] X.env=[(false,eval (.Name y p2) X.env)]:=by rfl)
 (he:starEach [a,.Name y p2] X.env=(false,eval a X.env) :: starEach [.Name y p2] X.env:=by rfl) (hpl:(backTo pos (starEach [.Name y p2] X.env)).any (·.1)=false:=by rfl) :
 QE X ow (.Call (.Name x p1) [a,.Name y p2] [] pos) (mIsX X.K cv ma):=by
 obtain ⟨t,p,s⟩:=ha
 refine ⟨_,fS (rX hc) hg hm hv (a6 p (a6 ht cq hs) he) hn hdb he hpl,fun C G ρ σ H pd q Q r hm k=>s C G ρ σ H pd _ _ r hm fun d ρ' v G' H' hq s kp r' p=>?_⟩
 obtain ⟨b,h1,h2⟩:=hq
 exact ⟨v,d,b,rfl,Rep.mono r'.gh _ _ p,h1,k _ ρ' _ G' H' h2 s kp r' (cZ _)⟩
theorem j8 {C:Addr}:∀ u,a_ (.ref C) u→u = .ref C:=fun _ h=>h
theorem relTy {T:String}:∀ u,a_ (.ty T) u→u = .type T:=fun _ h=>h
end
section
variable {K:PySem.W.Frag} {C a N:Addr} {dd nd:Option Addr} {nm qn:Str} {bs bm sub:List Value} {hd ab:Bool} {sn:List Str} {col:Option Bool} {k0 k1 k2 k3 k5 ini:Option Value} {no:Value} {es:Array DictEntry} {np:Nat} {nl:Array (Option Value)} {sl:Array (Option Value)} {oc:Value} {cd:ClassData}
theorem eI:PySem.W.tailIn K bmV bmV=true:=by unfold PySem.W.tailIn; simp
theorem eG (n:K.lookup N=some ⟨no,nd,.dict es np,nl⟩) (q:(es.all fun e=>match e.key with | .str _ _=>true | _=>false)=true):PySem.W.nsOkIn K N=true:=by unfold PySem.W.nsOkIn; rw [n]; exact q
theorem uk (l:K.lookup a=some ⟨oc,dd,.cls cd,sl⟩) (n:PySem.W.nsOkIn K cd.ns=true) (t:PySem.W.nsIn K cd.ns "__init__" = some none) (r:PySem.W.tailIn K bmV bm=true):PySem.W.tailIn K bmV (.ref a :: bm)=true:=by
 unfold PySem.W.tailIn
 simp only [l,n,t,r,beq_self_eq_true,Bool.and_self,Bool.or_true]
theorem xc_mk (l:K.lookup C=some ⟨.type "type",dd,.cls ⟨nm,bs,.ref C :: bm,N,qn,hd,sn,sub,ab,col,false⟩,#[k0,k1,k2,k3,some (.builtin "ValueError.__new__"),k5]⟩) (n:PySem.W.nsOkIn K N=true) (t:PySem.W.nsIn K N "__init__" = some ini)
 (r:PySem.W.tailIn K bmV bm=true):bX K C bm ini=true:=by
 unfold bX
 simp only [l,n,t,r,beq_self_eq_true,Bool.not_false,Bool.and_self]
theorem fW {t:Value}:PySem.W.kitOne K t t=some true:=by unfold PySem.W.kitOne; simp
theorem tE {t:Value} {b:Bool} (l:K.lookup a=some ⟨oc,dd,.cls cd,sl⟩) (y:PySem.W.typeIn K (.ref a)=some (.type "type")) (s:PySem.W.subIn K t (.ref a)=some b) (ne:b=true∨(t == .ref a)=false):PySem.W.kitOne K t (.ref a)=some b:=by
 have c:PySem.W.kitCls K t (.ref a)=some b:=by
  unfold PySem.W.kitCls PySem.W.clsIn
  simp only [l,y,Option.isSome_some,beq_self_eq_true,Bool.and_self,if_true,s]
 unfold PySem.W.kitOne
 rw [c]
 rcases ne with rfl | ne
 ·split <;> rfl
 ·rw [ne]; rfl
theorem fv {t:Value} (s:PySem.W.subIn K t (.type "ValueError")=some true):PySem.W.kitOne K t (.type "ValueError")=some true:=by
 have c:PySem.W.kitCls K t (.type "ValueError")=some true:=by
  unfold PySem.W.kitCls
  show (if PySem.W.kitMeta "ValueError" = true then _ else _)=_
  rw [if_pos (by decide +kernel),s]
 unfold PySem.W.kitOne
 rw [c]
 split <;> rfl
theorem fm (g:PySem.W.findIn K (.ref C) "__getattribute__" = some (some (.builtin "BaseException.__getattribute__"))) (h:PySem.W.findIn K (.ref C) "__getattr__" = some none) (c:PySem.W.findIn K (.ref C) "__class__" = some (some (.builtin "object.__class__")))
 (s:PySem.W.specialIn K (.builtin "object.__class__") "__get__" = some (some (.builtin "getset_descriptor.__get__"))) (t:PySem.W.takesIn K (.builtin "object.__class__")=some true) (m:PySem.W.mroIn K C (.type "object")=some true) (d:PySem.W.hasDictIn K C=true):cU K C=true:=by
 unfold cU
 simp only [g,h,c,s,t,m,d,beq_self_eq_true,Bool.and_self]
theorem jg:bootBuiltins "ValueError" = some (.type "ValueError"):=by decide +kernel
end
theorem fnT {P:Program} {w:World} {K:PySem.W.Frag} {mg:Str→Option Value} {base:Heap} {x qual:Str} {st:Stmt} {f:Addr} {fd:FuncData} {N ps:List Str} {k:Nat} (F:Fun K x qual st f fd) (S:FnScope N ps (ah st)) (M:Md) (sd:SpD)
 (hl:∀ ds q,sd ds q→ds.length=ps.length) (ho:M.ow.take ps.length=M.mu) (hml:M.mu.length=ps.length)
 (hbody:∀ (cdv:Value) (A:Around) (outer:List Env) (s:Shared) (H:Hp) (E:XK),Room k (A.deeper (envOfC qual (ah st) s.heap.objs.size f cdv)) →
  ∃ m,QXs (ix CX0 P w K mg base N qual (ah st) f cdv A outer s H E) M (cf st) m∧∀ ds q,sd ds q→m (fun _ _ _ _=>False) (i_ M.mu q) (ds.map some++List.replicate (N.length - ps.length) none)) :
 FnOk P w K mg base CX0 (k + 1) f fd ps (bb M.mu M.fr sd):=by
 refine fnD F S M sd hl ho hml fun cdv A outer s H E hr=>?_
 obtain ⟨m,⟨t,p,ss⟩,hm⟩:=hbody cdv A outer s H E hr
 refine ⟨m fun _ _ _ _=>False,⟨t fun _ _ _ _=>False,p (fun _ _=>False) [] (fun _ _ _ _=>False) ⟨PassesOwn.never,⟨fun _ _ _ _ _ _ _ _ _ z=>z.elim⟩⟩,fun C G ρ σ H n D hm hn r h k=>ss C G ρ σ H n D _ _ hm hn r h k ⟨fun _ _ _ _ _ _ _ _ z=>z.elim⟩⟩,hm⟩
theorem vB {X:Cx} {M:Md} {st:Stmt} {m:MSX} (h:QX X M st m):QX X M st (fun xx=>mCut (m xx)):=by
 obtain ⟨t,p,s⟩:=h
 refine ⟨t,p,fun C G ρ σ H n D xx xk hm hn r h k kx=>?_⟩
 obtain ⟨I,h1,h2⟩:=h
 exact s C G ρ σ H _ D xx xk hm hn r h1 ⟨fun ρ' σ' G' H' a b c=>k.nx ρ' σ' G' H' (h2 ρ' a) b c,k.bk,k.ct,k.rt⟩ kx
section
variable {X:Cx}
variable {ow:List Bool} {a:Expr} {ma:ME} {pos:Pos}
end
section
variable {K:PySem.W.Frag} {t c:Value} {cs:List Value} {b:Bool}
end
section
variable {prog:Program} {w:World} {A:Around} {E:Value→Shared→Prop} {h:Heap} {g:Array GenState} {d:Drawn} {t:Nat} {os:OsState}
variable {nm q:Str} {C N:Addr} {bs bm:List Value} {hdct:Bool} {sn:List Str} {sub:List Value} {ab:Bool} {col:Option Bool} {dd:Option Addr} {k0 k1 k2 k3 k5:Option Value}
theorem jd (T:OwnTail h bmV bm) {mN:Str→Option Value} {rest:List Value} {fI:Addr} {oI:Obj} {Q:Fin→Shared→Prop}
 (hC:h.get? C=some (excClassObj nm q C N bs bm hdct sn sub ab col dd k0 k1 k2 k3 k5 "ValueError.__new__")) (hn:h.Ns N mN) (hi:mN "__init__" = some (.ref fI)) (hfI:h.get? fI=some oI) (hfc:oI.cls = .type "function")
 (hq:∀ h' e,h.objs.size≤e→Heap.MadeExcOf h h' e (.ref C) rest→wpAny (model prog w) A (call (.ref fI) (.ref e :: rest)) (fun r s'=>r = .none∧Q (.done (.ret (.ref e))) s') E ⟨h',g,d,t,os⟩) (hrest:rest.length≤sizeLine) :
 wpAny (model prog w) A (Builtin.«type.__call__» ⟨.ref C :: rest,[]⟩) Q E ⟨h,g,d,t,os⟩:=by
 have F:=PySem.F.excBase_ValueError
 repeat (first | with_reducible refine wpAny_loadPart_at hC ?_ | with_reducible refine wpAny_madeBy_exc hC ?_ | wp_step)
 refine codeAny_call_builtin_code (Code.quiet_builtin _ F.quiet) (wpAny_check_new_subT F T hC (codeAny_exc_new_subT F T hC ?_ hrest))
 show wpAny _ _ _ _ _ _
 generalize ho1:({ cls:=.type "tuple",data:=.seq rest.toArray }:Obj)=o1
 generalize ho2:({ cls:=.ref C,data:=.fields #[.ref h.objs.size,.none,.none,.none,.bool false,.none] }:Obj)=o2
 have keep:∀ b o,h.get? b=some o→((h.push o1).push o2).get? b=some o:=fun b o z=>Heap.get?_push_of_some _ (Heap.get?_push_of_some _ z)
 have hC₁:=keep _ _ hC
 have hfI₁:=keep _ _ hfI
 have hn₁:((h.push o1).push o2).Ns N mN:=hn.keeps keep
 have T₁:=T.keeps keep
 have hf2:o2.isFreed=false:=by rw [← ho2]; rfl
 have hf1:o1.isFreed=false:=by rw [← ho1]; rfl
 have hget:((h.push o1).push o2).get? (h.objs.size + 1)=some o2:=Heap.get?_push_at (by rw [Heap.size_push]) hf2
 have hcls:o2.cls = .ref C:=by rw [← ho2]
 have hcC:(Value.ref C :: bm).contains (.ref C)=true:=by simp
 unfold isInstance
 repeat (first | (with_reducible refine wpAny_loadPart_at hget ?_; rw [hcls]) | (with_reducible refine wpAny_isSubtype_exc hC₁ ?_; rw [hcC]) | wp_step)
 show wpAny _ _ (typeLookup (.ref C) _) _ _ _
 refine wpAny_typeLookup_tail hC₁ hn₁ T₁ F.mroIs F.init.lookup ?_
 rw [hi]
 refine wpAny_holding (wpAny_bind ?_)
 unfold bindSpecial
 refine wpAny_bind (wpAny_typeOf (T:="function") ⟨_,hfI₁,hfc⟩ ?_)
 rw [if_pos (by decide)]
 refine wpAny_pure (wpAny_bind (wpAny_mono (hq _ (h.objs.size + 1) (Nat.le_succ _) ⟨keep,Heap.get?_none_of_le (Nat.le_succ _),h.objs.size,by rw [hget,ho2],Heap.get?_none_of_le (Nat.le_refl _),?_⟩) (fun r s' hr=>?_) fun _ _ x=>x))
 ·rw [ho1]; exact Heap.get?_push_of_some _ (Heap.get?_push_at rfl hf1)
 ·obtain ⟨rfl,hQ⟩:=hr
  wp_walk
  exact hQ
theorem oz (T:OwnTail h bmV bm) {mN:Str→Option Value} {rest:List Value} {fI:Addr} {oI:Obj} {Q:Value→Shared→Prop}
 (hC:h.get? C=some (excClassObj nm q C N bs bm hdct sn sub ab col dd k0 k1 k2 k3 k5 "ValueError.__new__")) (hn:h.Ns N mN) (hi:mN "__init__" = some (.ref fI)) (hfI:h.get? fI=some oI) (hfc:oI.cls = .type "function")
 (hq:∀ h' e,h.objs.size≤e→Heap.MadeExcOf h h' e (.ref C) rest→wpAny (model prog w) (A.under (.builtin "type.__call__" ⟨.ref C :: rest,[]⟩)) (call (.ref fI) (.ref e :: rest)) (fun r s'=>r = .none∧Q (.ref e) s') E ⟨h',g,d,t,os⟩) (hrest:rest.length≤sizeLine) :
 wpAny (model prog w) A (call (.ref C) rest) Q E ⟨h,g,d,t,os⟩:=by
 have f1:=tc_lookup
 have f2:=tc_bind (.ref C)
 have hT:(⟨h,g,d,t,os⟩:Shared).TypeIs (.ref C) "type":=⟨_,hC,rfl⟩
 refine wpAny_call (codeAny_of_tree ?_)
 show wpAny _ _ (callAny (.ref C) _) _ _ _
 repeat (any_goals (first | assumption | with_reducible refine wpAny_loadPart_at hC ?_ | wp_step))
 refine ⟨rfl,?_⟩
 refine codeAny_call_builtin_at (Code.quiet_builtin _ (by decide +kernel)) entry_typeCall (wpAny_check_type_call_sub hC (jd T hC hn hi hfI hfc (fun h' e hz hm=>?_) hrest))
 exact hq h' e hz hm
end
section
variable {prog:Program} {w:World} {A:Around} {E:Value→Shared→Prop} {h:Heap} {g:Array GenState} {d:Drawn} {t:Nat} {os:OsState}
variable {nm q:Str} {C N:Addr} {bs bm:List Value} {hdct:Bool} {sn:List Str} {sub:List Value} {ab:Bool} {col:Option Bool} {dd:Option Addr} {k0 k1 k2 k3 k5:Option Value}
theorem nQ (T:OwnTail h bmV bm) {rest:List Value} {e:Addr} {oe:Obj} {vs:Array Value} {Q:Value→Shared→Prop}
 (hC:h.get? C=some (excClassObj nm q C N bs bm hdct sn sub ab col dd k0 k1 k2 k3 k5 "ValueError.__new__")) (he:h.get? e=some oe) (hcls:oe.cls = .ref C) (hd:oe.data = .fields vs) {x0:Value} (hx0:vs[0]? = some x0)
 (hq:Q .none ⟨(h.push { cls:=.type "tuple",data:=.seq rest.toArray }).update e (Obj.mapFields (·.setIfInBounds 0 (Value.ref h.objs.size))),g,d,t,os⟩) (hrest:rest.length≤sizeLine) :
 wpAny (model prog w) A (call (.builtin "ValueError.__init__") (.ref e :: rest)) Q E ⟨h,g,d,t,os⟩:=by
 have F:=PySem.F.excBase_ValueError
 have h0 : 0<vs.size:=(Array.getElem?_eq_some_iff.mp hx0).1
 have he1:=Heap.get?_push_of_some { cls:=.type "tuple",data:=.seq rest.toArray } he
 refine wpAny_call (codeAny_call_builtin F.init.plain F.initEntry (wpAny_check_init_subT F T hC he hcls ?_))
 repeat (first | with_reducible refine wpAny_field he1 hd hx0 ?_ | with_reducible refine wpAny_setField he1 hd h0 ?_ | wp_step)
 cases x0 <;> (repeat wp_step) <;> exact hq
end
end L2
namespace L2
open PySem PySem.Spec PyProof.Rows PySem.W Builtin.ObjectAttr Builtin
theorem lL {h:Heap} {bm:List Value} (T:OwnTail h bmV bm) (self:Value):refuseLoop self "__setattr__" bm=pure ():=by
 induction T with
 | base=>exact PySem.F.store_ValueError.passes self
 | own _ _ _ _ ih=>exact (refuseLoop_ref self "__setattr__" _ _).trans ih
section
variable {prog:Program} {w:World} {A:Around} {E:Value→Shared→Prop} {s:Shared} {K:PySem.W.Frag} {x C:Addr} {ox:Obj} {od:Option Obj} {name:Str} {bm:List Value} {ini:Option Value} {v:Value}
theorem wr (q:bX K C bm ini=true):∃ cd,clsIn K C=some cd∧cd.mro = .ref C :: bm:=by
 unfold bX at q
 split at q
 ·rename_i dd cd sl ho
  split at q
  ·rename_i C' bm' k0 k1 k2 k3 n k5 hm hs
   simp only [Bool.and_eq_true,beq_iff_eq] at q
   obtain ⟨⟨⟨⟨⟨⟨rfl,_⟩,_⟩,rfl⟩,_⟩,_⟩,_⟩:=q
   exact ⟨cd,by unfold clsIn; rw [ho],hm⟩
  ·cases q
 ·cases q
def iy (K:PySem.W.Frag) (C:Addr) (name:Str):Prop:=findIn K (.ref C) "__setattr__" = some (some (.builtin "object.__setattr__"))∧findIn K (.ref C) name=some none
theorem nH {tk:Tok} {R:Result→Shared→Prop} (X:K.In s.heap) (I:InstAt s.heap x ox C od) (hc:bX K C bm ini=true) (hm:mroIn K C (.type "object")=some true) (ha:findIn K (.ref C) name=some none)
 (h:wpAny (model prog w) A.in1 (storeInOwnDict (.ref x) (.ref C) (.str name tk) name v false) (fun fin s'=>match fin with | .done f=>R (.ok f) s' | .again c'=>c'.quiet=true∧codeAny (model prog w) A c' R s') (fun e s'=>R (.error e) s') s) :
 codeAny (model prog w) A (.call (.builtin "object.__setattr__") ⟨[.ref x,.str name tk,v],[]⟩) R s:=by
 have F:=PySem.F.store_object
 obtain ⟨cd,hcd,hmro⟩:=wr hc
 obtain ⟨N,nm,q,bs,hdct,sn,sub,ab,col,dd,k0,k1,k2,k3,k5,mN,hC,hN,hni,T⟩:=dE X hc
 have L1:Looks (model prog w) s.heap (isInstance (.ref x) (.type "object")) true:=I.type.andThen (looks_mroIn X hm)
 have L2:Looks (model prog w) s.heap (mroOf (.ref C)) cd.mro:=(looks_clsIn X hcd).andThen .now
 refine codeAny_call_builtin F.slot.plain F.entry ?_
 refine check_slot (i:="object.__setattr__") (owner:="object") (n:="__setattr__") F.kind F.split L1 (F.args _ _ _) ?_
 rw [osa_eq,refuse_eq]
 refine wpAny_bind (wpAny_bind (I.type.here (wpAny_bind (L2.here ?_))))
 rw [hmro,refuseLoop_ref,lL T]
 refine wpAny_pure (wpAny_bind (I.type.here ?_))
 refine wpAny_bind ((looks_findIn X ha).here (wpAny_bind ?_))
 exact wpAny_pure h
theorem hasD (hd:hasDictIn K C=true):∃ cd,clsIn K C=some cd∧cd.hasDict=true:=any_some hd
theorem xset1 {d0:Addr} {mA:Str→Option Value} {ns:List Str} {Q:Unit→Shared→Prop} {vs:Array Value} {sl:Array (Option Value)} (X:K.In s.heap) (hx:s.heap.get? x=some ⟨.ref C,some d0,.fields vs,sl⟩) (hn:s.heap.Ns1 d0 mA) (hne:d0≠x)
 (hc:bX K C bm ini=true) (ho:cU K C=true) (hs:iy K C name) (hw:PySem.Within mA ns) (hz:ns.length≤100)
 (h:∀ h' tk',h'.Ns1 d0 (fun y=>if y=name then some v else mA y)→Heap.SameBut d0 s.heap h'→Q () { s with heap:=h',toks:=tk' }):wpAny (model prog w) A (setAttr (.ref x) name v) Q E s:=by
 obtain ⟨o,es,ep,e1,e2⟩:=id hn
 have J:InstAt s.heap x ⟨.ref C,some d0,.fields vs,sl⟩ C (some o):=⟨hx,rfl,rfl,e1⟩
 simp only [cU,Bool.and_eq_true,beq_iff_eq] at ho
 obtain ⟨cd,hcd,hd'⟩:=hasD ho.2
 refine set_plain X J hs.1 (nH (s:={ s with toks:=s.toks + 1 }) X J hc ho.1.2 hs.2 ?_)
 refine wpAny_bind (wpAny_pure (wpAny_bind (wpAny_bind (wpAny_loadPart hx (wpAny_bind (Looks.here (s:={ s with toks:=s.toks + 1 }) (looks_clsIn X hcd) ?_))))))
 rw [hd']
 refine wpAny_pure (a:=some d0) (wpAny_bind (wpAny_pure (wpAny_bind ?_)))
 refine wpAny_nsSet1 (s:={ s with toks:=s.toks + 1 }) hn fun h' hn2 hs2=>?_
 obtain ⟨oD,esD,epD,hoD,hdD,hcD⟩:=hn2.count (Within.cons name v hw)
 refine wpAny_bind (wpAny_lookBehind hoD ?_ ?_)
 ·rw [hdD]; exact pastItsLine_dict (Nat.le_trans hcD (by rw [List.length_cons,sizeLine_eq]; omega))
 ·exact wpAny_pure (h h' _ hn2 hs2)
theorem xset0 {Q:Unit→Shared→Prop} {vs:Array Value} {sl:Array (Option Value)} (X:K.In s.heap) (hx:s.heap.get? x=some ⟨.ref C,none,.fields vs,sl⟩)
 (hc:bX K C bm ini=true) (ho:cU K C=true) (hs:iy K C name)
 (h:∀ h' tk',h'.Ns1 s.heap.objs.size (fun y=>if y=name then some v else none)→h'.get? x=some ⟨.ref C,some s.heap.objs.size,.fields vs,sl⟩→(∀ b o,b≠x→s.heap.get? b=some o→h'.get? b=some o)→Q () { s with heap:=h',toks:=tk' }) :
 wpAny (model prog w) A (setAttr (.ref x) name v) Q E s:=by
 have J:InstAt s.heap x ⟨.ref C,none,.fields vs,sl⟩ C none:=⟨hx,rfl,rfl,trivial⟩
 simp only [cU,Bool.and_eq_true,beq_iff_eq] at ho
 obtain ⟨cd,hcd,hd'⟩:=hasD ho.2
 refine set_plain X J hs.1 (nH (s:={ s with toks:=s.toks + 1 }) X J hc ho.1.2 hs.2 ?_)
 refine wpAny_bind (wpAny_pure (wpAny_bind (wpAny_bind (wpAny_loadPart hx (wpAny_bind (Looks.here (s:={ s with toks:=s.toks + 1 }) (looks_clsIn X hcd) ?_))))))
 rw [hd']
 show wpAny _ _ (do let d ← alloc ({ cls:=.type "dict",data:=.dict #[] }:Obj); update x (fun o=>{ o with dict:=some d }); pure (some d)) _ _ _
 generalize hO:({ cls:=.type "dict",data:=.dict #[] }:Obj)=O
 have hOf:O.isFreed=false:=by rw [← hO]; rfl
 have hx1:(s.heap.push O).get? x=some ⟨.ref C,none,.fields vs,sl⟩:=Heap.get?_push_of_some _ hx
 have hne:s.heap.objs.size≠x:=Nat.ne_of_gt (Heap.lt_size hx)
 generalize hU:(fun o:Obj=>{ o with dict:=some s.heap.objs.size })=U
 have hx2:((s.heap.push O).update x U).get? x=some ⟨.ref C,some s.heap.objs.size,.fields vs,sl⟩:=by
  have z:=Heap.get?_update_self U hx1 (by rw [← hU]; rfl)
  rw [z,← hU]
 have hd2:((s.heap.push O).update x U).get? s.heap.objs.size=some O:=(Heap.get?_update_other _ _ (Ne.symm hne)).trans (Heap.get?_push_size _ hOf)
 have hn:((s.heap.push O).update x U).Ns s.heap.objs.size (fun _=>none):=⟨O,#[],_,hd2,by rw [← hO],fun e he=>absurd he (by simp),fun _=>rfl⟩
 refine wpAny_bind (wpAny_alloc' ?_)
 refine wpAny_bind (wpAny_update' hx1 ?_)
 refine wpAny_pure ?_
 show wpAny _ _ (storeInDict s.heap.objs.size (.str name s.toks) name v) _ _ _
 rw [hU]
 refine wpAny_bind (wpAny_pure (wpAny_bind ?_))
 refine wpAny_nsSet1 (s:={ s with heap:=(s.heap.push O).update x U,toks:=s.toks + 1 }) (Heap.Ns1.of_empty hn) fun h' hn2 hs2=>?_
 obtain ⟨oD,esD,epD,hoD,hdD,hcD⟩:=hn2.count (Within.cons name v Within.nil)
 refine wpAny_bind (wpAny_lookBehind hoD ?_ ?_)
 ·rw [hdD]; exact pastItsLine_dict (Nat.le_trans hcD (by rw [List.length_cons,List.length_nil,sizeLine_eq]; omega))
 ·refine wpAny_pure (h h' _ hn2 ((hs2.2 x (Ne.symm hne)).trans hx2) fun b o hb q=>?_)
  have hbs:b≠s.heap.objs.size:=Nat.ne_of_lt (Heap.lt_size q)
  exact (hs2.2 b hbs).trans ((Heap.get?_update_other _ _ (Ne.symm hb)).trans (Heap.get?_push_of_some _ q))
end
end L2
namespace L2
open PySem PySem.Spec PyProof.Rows
def cm (e:Addr) (cls:Value) (dx:Option Addr):Heap→Prop:=fun h=>∃ (vs:Array Value) (sl:Array (Option Value)),h.get? e=some ⟨cls,dx,.fields vs,sl⟩∧(∃ x0,vs[0]? = some x0)∧vs[1]? = some .none
def xdφ (d:Addr) (fs:List (Str×V)):Heap→Prop:=fun h=>∃ mA,h.Ns1 d mA∧(∀ f,ou (fs.lookup f) (mA f))∧∃ ns,PySem.Within mA ns∧ns.length≤fs.length
theorem cm.st {e:Addr} {cls:Value} {dx:Option Addr} {h1 h2:Heap} (q:cm e cls dx h1) (k:∀ o,h1.get? e=some o→h2.get? e=some o):cm e cls dx h2:=by
 obtain ⟨vs,sl,a,b⟩:=q; exact ⟨vs,sl,k _ a,b⟩
theorem xdφ.st {d:Addr} {fs:List (Str×V)} {h1 h2:Heap} (q:xdφ d fs h1) (k:∀ o,h1.get? d=some o→h2.get? d=some o):xdφ d fs h2:=by
 obtain ⟨mA,a,b⟩:=q; exact ⟨mA,a.at k,b⟩
theorem cm.ok {P:Program} {w:World} {H:Hp} {e:Addr} {cls:Value} {dx:Option Addr} {h:Heap} (q:cm e cls dx h):a5 P w H h e (.ext (cm e cls dx)):=⟨q,⟨_,q.choose_spec.choose_spec.1⟩,fun _ _ a b=>a.st b⟩
theorem xdφ.ok {P:Program} {w:World} {H:Hp} {d:Addr} {fs:List (Str×V)} {h:Heap} (q:xdφ d fs h):a5 P w H h d (.ext (xdφ d fs)):=by
 obtain ⟨mA,⟨o,es,ep,e1,e2⟩,b⟩:=id q
 exact ⟨q,⟨_,e1⟩,fun _ _ a b=>a.st b⟩
def oy:V→Prop
 | .non=>True
 | .int i=>i.natAbs.log2<1920
 | .str x=>x.length≤1000
 | _=>False
def fQ (C:Addr) (ns:List Str):Sp:=fun vs H Q E=>∃ e xs,vs = .ref e :: xs∧xs.length=ns.length∧(∀ x∈xs,oy x)∧H e=some (.ext (cm e (.ref C) none)) ∧
 ∀ d,H d=none→Q .non (upd (upd H e (.ext (cm e (.ref C) (some d)))) d (.ext (xdφ d (ns.zip xs))))
section
variable {X:Cx} {pins:List (Addr×Obj)} {σ:St} {H:Hp} {s:Shared} {e C fI:Addr} {bm:List Value}
theorem Inv.trackφ {φ:Heap→Prop} {o0:Obj} {vs:Array Value} (I:Inv X pins σ H s) (he:s.heap.get? e=some o0) (hd:o0.data = .fields vs) (o:Out X pins H e) (hφ:a5 X.prog X.w (upd H e (.ext φ)) s.heap e (.ext φ)):Inv X pins σ (upd H e (.ext φ)) s:=by
 have ne:∀ b u,H b=some u→b≠e:=fun b u q z=>by rw [z,o.unt] at q; cases q
 have up:∀ b,b≠e→upd H e (.ext φ) b=H b:=fun b z=>aq z
 have old:∀ b ob,X.s₀.heap.get? b=some ob→b≠e:=fun b ob q z=>by rw [z,o.new] at q; cases q
 have nf:=I.fieldsNot he hd
 refine ⟨I.ok,I.os,I.bare,⟨I.base.keep,I.base.slot,fun b ob q n hx=>(up b (old b ob q)).trans (I.base.free b ob q n hx),I.base.there,fun b xs q=>?_,fun b ob u q=>?_,fun b ps q0 q=>?_⟩,I.loc,I.cell,
  (up _ (Ne.symm nf.1)).trans I.free,fun x c q=>(up _ (nf.2 x c q)).trans (I.freeC x c q),fun q hq=>?_,fun b u q=>?_,I.len⟩
 ·have z:=I.base.tups b xs q; exact (up b (ne b _ z)).trans z
 ·have z:=I.base.frzs b ob u q; exact (up b (ne b _ z)).trans z
 ·obtain ⟨m,z⟩:=I.base.tbls b ps q0 q; exact ⟨m,(up b (ne b _ z)).trans z⟩
 ·obtain ⟨a1,a2,a3⟩:=I.pin q hq; exact ⟨a1,(up _ (o.pin q hq)).trans a2,a3⟩
 ·by_cases hb:b=e
  ·subst hb; rw [av] at q; cases q; exact hφ
  ·rw [up b hb] at q
   exact (I.hok b u q).stay (fun _ _ _ z=>z) (fun c z=>(up c (ne c _ z)).trans z) (fun c xs z=>(up c (ne c _ z)).trans z) fun c ob u z=>(up c (ne c _ z)).trans z
theorem pV {k:Nat} {fd:FuncData} {ps ns:List Str} {Q:Value→Shared→Prop} {us:List Value} {vs:List V} (F:FnOk X.prog X.w X.K X.mg X.base CX0 k fI fd ps (fQ C ns)) (hr:Room (k + 1) X.A) (hb:cw X.K fd ps [])
 (hc:bX X.K C bm (some (.ref fI))=true) (hf:PySem.W.typeIn X.K (.ref fI)=some (.type "function")) (hex:X.ex=[]) (hps:ps.length=ns.length + 1) (hsz:ns.length≤sizeLine) (I:Inv X pins σ H s) (r:aV vs us) (hl:vs.length=ns.length) (hv:∀ x∈vs,oy x)
 (h:∀ ea d s',Inv X pins σ (upd H d (.xd (ns.zip vs))) s'→H d=none→FlyO s'.heap ea (.ref C) (some d) none→Out X pins (upd H d (.xd (ns.zip vs))) ea→Q (.ref ea) s') :
 wpAny (model X.prog X.w) X.A (call (.ref C) us) Q X.xe s:=by
 obtain ⟨N,nm,q,bs,hdct,sn,sub,ab,col,dd,k0,k1,k2,k3,k5,mN,hC,hN,hni,T⟩:=dE I.kIn hc
 obtain ⟨oI,hoI,hcl⟩:∃ o,X.K.lookup fI=some o∧o.cls = .type "function":=by
  unfold PySem.W.typeIn at hf
  exact Option.map_eq_some_iff.mp hf
 obtain ⟨h0,g0,d0,t0,os0⟩:=s
 refine oz T hC hN hni (I.kIn _ _ hoI) hcl (fun h' e hz m=>?_) (by rw [← r.length,hl]; exact hsz)
 have I1:Inv X pins σ H ⟨h',g0,d0,t0,os0⟩:=I.kept (t':=t0) m.keeps
 have hno:H e=none:=I.hok.no m.new
 have oe:Out X pins H e:=⟨I.old hex m.new,hno,I.pinNo m.new⟩
 obtain ⟨tt,ht,_,_⟩:=m.there
 have ψ0:cm e (.ref C) none h':=⟨_,_,ht,⟨_,rfl⟩,rfl⟩
 have I2:=I1.trackφ (φ:=cm e (.ref C) none) ht rfl oe ψ0.ok
 have r2:aV (V.ref e :: vs) (Value.ref e :: us):=.cons rfl r
 have hlen:(Value.ref e :: us).length=ps.length:=by rw [List.length_cons,hps,← r.length,hl]
 have bnd:=hb ⟨h',g0,d0,t0,os0⟩ (Value.ref e :: us) I2.kIn (by rw [List.append_nil]; exact hlen)
 rw [List.append_nil] at bnd
 have run:=F.run _ X.stack ⟨h',g0,d0,t0,os0⟩ _ ⟨Value.ref e :: us,[]⟩ (Value.ref e :: us) (V.ref e :: vs)
  (fun v H'=>v = .non∧∃ d,upd H e (.ext (cm e (.ref C) none)) d=none∧H'=upd (upd (upd H e (.ext (cm e (.ref C) none))) e (.ext (cm e (.ref C) (some d)))) d (.ext (xdφ d (ns.zip vs)))) E0
  (hr.make C us []) (I2.env0.make C us []) bnd r2 ⟨e,vs,rfl,hl,hv,av,fun d hd=>⟨rfl,d,hd,rfl⟩⟩
 refine wpAny_call (codeAny_mono run fun rr s' hq'=>?_)
 cases rr with
 | error x=>exact hq'.elim
 | ok fl =>
  cases fl with
  | next=>exact False.elim hq'
  | brk=>exact False.elim hq'
  | cont=>exact False.elim hq'
  | ret u =>
   obtain ⟨v,H',hos,bare,un,hok,rv,rfl,d,hd,rfl⟩:=hq'
   have hde:d≠e:=fun z=>by rw [z,av] at hd; cases hd
   have hHd:H d=none:=by rw [aq hde] at hd; exact hd
   refine ⟨rv,?_⟩
   rw [gx] at un hok
   generalize hHf:upd H d (.xd (ns.zip vs))=Hf
   have at':∀ b,b≠e→b≠d→upd (upd H e (.ext (cm e (.ref C) (some d)))) d (.ext (xdφ d (ns.zip vs))) b=Hf b:=fun b h1 h2=>by rw [aq h2,aq h1,← hHf,aq h2]
   have atd:upd (upd H e (.ext (cm e (.ref C) (some d)))) d (.ext (xdφ d (ns.zip vs))) d=some (.ext (xdφ d (ns.zip vs))):=av
   have ate:upd (upd H e (.ext (cm e (.ref C) (some d)))) d (.ext (xdφ d (ns.zip vs))) e=some (.ext (cm e (.ref C) (some d))):=by rw [aq (Ne.symm hde),av]
   have fe:Hf e=none:=by rw [← hHf,aq (Ne.symm hde)]; exact hno
   have hne:∀ b o,h0.get? b=some o→b≠e:=fun b o q z=>by rw [z,m.new] at q; cases q
   have hup:∀ b o,h0.get? b=some o→H b=none→upd H e (.ext (cm e (.ref C) none)) b=none:=fun b o q n=>by rw [aq (hne b o q)]; exact n
   have un0:Un (frs X.stack) [] H Hf h0 s'.heap:={
    keep:=fun b o q n hn hx=>un.keep b o (m.keeps b o q) (hup b o q n) hn hx
    slot:=fun b o q n hn hx=>un.slot b o (m.keeps b o q) (hup b o q n) hn hx
    free:=fun b o q n hx=>by
     have z:=un.free b o (m.keeps b o q) (hup b o q n) hx
     have hbd:b≠d:=fun y=>by rw [y,atd] at z; cases z
     rw [← hHf,aq hbd]; exact n
    there:=fun b o q hx=>un.there b o (m.keeps b o q) hx
    tups:=fun b xs z=>by rw [← hHf,aq (aD z hHd)]; exact z
    frzs:=fun b o u z=>by rw [← hHf,aq (aD z hHd)]; exact z
    tbls:=fun b ps _ z=>⟨#[],by rw [← hHf,aq (aD z hHd),z]; simp⟩ }
   have hokf:HOk X.prog X.w Hf s'.heap:=fun a o q=>by
    by_cases had:a=d
    ·subst had
     rw [← hHf,av] at q; cases q
     obtain ⟨⟨mA,z1,z2,z3⟩,_⟩:=(show a5 X.prog X.w _ s'.heap a (.ext (xdφ a (ns.zip vs))) from hok a _ atd)
     exact ⟨mA,z1,z2⟩
    ·have hae:a≠e:=fun z=>by rw [z,fe] at q; cases q
     refine (hok a o ((at' a hae had).trans q)).stay (fun _ _ _ z=>z) (fun b z=>?_) (fun b xs z=>?_) fun b ob u z=>?_
     ·have h1:b≠e:=fun y=>by rw [y,ate] at z; cases z
      have h2:b≠d:=fun y=>by rw [y,atd] at z; cases z
      rw [← at' b h1 h2]; exact z
     ·have h1:b≠e:=fun y=>by rw [y,ate] at z; cases z
      have h2:b≠d:=fun y=>by rw [y,atd] at z; cases z
      rw [← at' b h1 h2]; exact z
     ·have h1:b≠e:=fun y=>by rw [y,ate] at z; cases z
      have h2:b≠d:=fun y=>by rw [y,atd] at z; cases z
      rw [← at' b h1 h2]; exact z
   have I3:Inv X pins σ Hf s':=I.call' hos un0 hokf bare (ch:=[]) fun b z=>absurd z (by simp)
   have hx:=h e d s'
   rw [hHf] at hx
   obtain ⟨⟨ws,sl,z1,_,z2⟩,_⟩:=(show a5 X.prog X.w _ s'.heap e (.ext (cm e (.ref C) (some d))) from hok e _ ate)
   exact hx I3 hHd ⟨⟨ws,sl,z1,z2⟩,fun t z=>by cases z⟩ ⟨oe.new,fe,oe.pin⟩
end
section
variable {prog:Program} {w:World} {A:Around} {E:Value→Shared→Prop} {s:Shared} {env:Env}
theorem l8 {x:Expr} {pos:Pos} {Q:Flow→Shared→Prop} (hh:A.handled=none)
 (h:wpAny (model prog w) A (eval x env) (fun v s₁=>∃ e C bm ini dx,v = .ref e∧lD s₁.heap C bm ini∧lJ s₁.heap e (.ref C) dx .none∧E v s₁) E s) :
 wpAny (model prog w) A (exec (.Raise (some x) none pos) env) Q E s:=by
 rw [arm_exec_Raise]
 simp only [evalOpt,Option.map]
 refine wpAny_bind (wpAny_standAt ?_)
 unfold raiseStmt
 refine wpAny_bind (wpAny_bind (wpAny_mono h (fun v s₁ z=>wpAny_bind (wpAny_standAt (wpAny_pure ?_))) fun _ _ y=>y))
 obtain ⟨e,C,bm,ini,dx,rfl,⟨N,nm,q,bs,hdct,sn,sub,ab,col,dd,k0,k1,k2,k3,k5,mN,hC,hN,hni,T⟩,⟨vs,sl,he,h1⟩,hE⟩:=z
 obtain ⟨hp,g,d,tk,os⟩:=s₁
 have hcB:(Value.ref C :: bm).contains (.type "BaseException")=true:=by rw [List.contains_cons,gM T,Bool.or_true]
 have fl:∀ {α:Type} {k:Sem α} {Q : α→Shared→Prop},wpAny (model prog w) A k Q E ⟨hp,g,d,tk,os⟩→wpAny (model prog w) A (setFlight (.ref e) none >>= fun _=>k) Q E ⟨hp,g,d,tk,os⟩:=fun {α k Q} hk=>by
  unfold setFlight
  exact wpAny_bind (wpAny_bind (wpAny_field he rfl h1 (wpAny_pure hk)))
 repeat (first | with_reducible refine wpAny_loadPart_at he ?_ | with_reducible refine wpAny_loadPart_at hC ?_ | (with_reducible refine wpAny_isSubtype_exc hC ?_; rw [hcB]) | with_reducible refine fl ?_ | wp_step)
 exact wpAny_raiseNew_none hh hE
end
section
variable {X:Cx} {xk:XS} {x:Str} {C fI:Addr} {bm:List Value} {e:Expr} {args:List Expr} {np cpos pos:Pos} {t:TA} {k:Nat} {fd:FuncData} {ps ns:List Str}
def mU (xk:XS) (C:Addr) (ns:List Str) (t:TA):TS:=fun _ σ H=>t σ H fun vs H1=>vs.length=ns.length∧(∀ x∈vs,oy x)∧∀ d,H1 d=none→xk σ (.ref C) (some d) (upd H1 d (.xd (ns.zip vs)))
theorem oh (hex:X.ex=[]) (hcalm:X.calm=true) (ac:Acc X xk) (F:FnOk X.prog X.w X.K X.mg X.base CX0 k fI fd ps (fQ C ns)) (hr:Room (k + 1) X.A) (hb:cw X.K fd ps []) (hc:bX X.K C bm (some (.ref fI))=true)
 (hf:PySem.W.typeIn X.K (.ref fI)=some (.type "function")) (hk:PySem.W.keepIn X.K (.ref C)=true) (hps:ps.length=ns.length + 1) (hsz:ns.length≤sizeLine) (hg:Gl X x) (hm:X.mg x=some (.ref C)) (ha:PA X (e :: args) t)
 (hdb:(x == ("__debug__":Str))=false:=by decide) (he:starEach (e :: args) X.env=(false,eval e X.env) :: starEach args X.env:=by rfl) (hpl:(backTo cpos (starEach args X.env)).any (·.1)=false:=by rfl) :
 PS X (.Raise (some (.Call (.Name x np) (e :: args) [] cpos)) none pos) (mU xk C ns t):=by
 refine ⟨fun pins s σ H D I h=>l8 (I.ok.hd hcalm) (wpAny_Call_Name_kw (fg I hg hm ?_ hdb))⟩
 refine PySem.W.callWith_K (h₀:=X.base) I.ok.mod.kin hk (thn (ha cpos pins s σ H _ I h) fun us s1 ⟨vs,H1,I1,r,hl,hv,q⟩=>⟨I1.kIn,?_⟩) he hpl
 refine pV F hr hb hc hf hex hps hsz I1 r hl hv fun ea d s' J hd fl oe=>?_
 exact ⟨ea,C,bm,_,some d,rfl,dE J.kIn hc,fl.ex,ac.go pins σ _ s' ea (.ref C) (some d) J ⟨none,fl,oe,fun t z=>by cases z⟩ (q d hd)⟩
end
def g_:D→Prop
 | .non=>True
 | .int i=>i.natAbs.log2<1920
 | .str x=>x.length≤1000
 | _=>False
theorem g_.v {H:Hp} {d:D} {v:V} (h:g_ d) (r:Rep H d v):oy v:=by
 cases d with
 | non=>rw [Rep] at r; subst r; exact h
 | int i=>rw [Rep] at r; subst r; exact h
 | str x=>rw [Rep] at r; subst r; exact h
 | _=>exact h.elim
theorem lm {H:Hp}:∀ {ds:List D} {vs:List V},(∀ d∈ds,g_ d)→Reps H ds vs→∀ v∈vs,oy v
 | [],vs,_,r,v,hv=>by rw [Reps] at r; subst r; cases hv
 | d :: ds,vs,h,r,v,hv=>by
  rw [Reps] at r
  obtain ⟨w,ws,rfl,r1,r2⟩:=r
  rcases List.mem_cons.mp hv with rfl | hv
  ·exact (h d (by simp)).v r1
  ·exact lm (fun d' hd=>h d' (by simp [hd])) r2 v hv
section
variable {X:Cx} {M:Md} {e:Expr} {es:List Expr} {mr:MA} {x:Str} {pos:Pos} {k:Nat} {fd:FuncData} {ps ns:List Str}
def sK (c:Addr) (ns:List Str) (m:MA):MSX:=fun xx _ ρ=>m ρ fun ds ρ1=>ds.length=ns.length∧(∀ d∈ds,g_ d)∧xx c ns ds ρ1
theorem bH {C fI:Addr} {bm:List Value} {np cpos:Pos} (F:FnOk X.prog X.w X.K X.mg X.base CX0 k fI fd ps (fQ C ns)) (hr:Room (k + 1) X.A) (hb:cw X.K fd ps []) (hc:bX X.K C bm (some (.ref fI))=true)
 (hf:PySem.W.typeIn X.K (.ref fI)=some (.type "function")) (hk:PySem.W.keepIn X.K (.ref C)=true) (hg:Gl X x) (hm:X.mg x=some (.ref C)) (ha:QA X.nox M.ow (e :: es) mr) (hps:ps.length=ns.length + 1:=by rfl) (hsz:ns.length≤sizeLine:=by simp [sizeLine]) (hcalm:X.calm=true:=by rfl) (hex:X.ex=[]:=by rfl)
 (hdb:(x == ("__debug__":Str))=false:=by decide) (he:starEach (e :: es) X.env=(false,eval e X.env) :: starEach es X.env:=by rfl) (hpl:(backTo cpos (starEach es X.env)).any (·.1)=false:=by rfl) :
 QX X M (.Raise (some (.Call (.Name x np) (e :: es) [] cpos)) none pos) (sK C ns mr):=by
 obtain ⟨t,p,s⟩:=ha
 refine ⟨fun xk=>mU xk C ns t,fun E q xk g=>oh (X:=X.tr E q) hex hcalm g.2 F hr hb hc hf hk hps hsz hg hm (PA.any p) hdb he hpl,fun C' G ρ σ H n D xx xk hm hn r h k kx=>s C' G ρ σ H [] _ _ r h fun ds ρ' vs G' H' hq z kp r' p' hl=>?_⟩
 obtain ⟨h1,h2,h3⟩:=hq
 have hvl:=p'.length
 refine ⟨by rw [hvl,h1],lm h2 p',fun d hd=>?_⟩
 obtain ⟨O,ro⟩:=r'
 obtain ⟨ro2,z2⟩:=ro.new hd (.xd (ns.zip vs))
 exact kx.go C ns ds ρ' σ (some d) _ _ h3 (z.trans z2) ⟨O,ro2⟩ ⟨vs,by simp [upd],by rw [hvl,h1],Reps.mono z2 _ _ p'⟩
end
structure PJ (X:Cx) (es:List Expr) (c:St→Prop):Prop where
 go:∀ (pins:List (Addr×Obj)) (s:Shared) (σ:St) (H:Hp) (acc:Str) (Q:Str→Shared→Prop),Inv X pins σ H s→c σ→acc.length + 2000 * es.length≤sizeLine →
  (∀ out s',Inv X pins σ H s'→out.length≤acc.length + 2000 * es.length→Q out s')→Joins (model X.prog X.w) X.A X.xe (evalEach es X.env) acc Q s
section
variable {X:Cx} {es:List Expr} {c:St→Prop}
theorem j7:PJ X [] (fun _=>True):=⟨fun pins s σ H acc Q I _ hz k=>k acc s I (Nat.le_add_right _ _)⟩
theorem mZ {e:Expr} {c':St→Prop} (h:PJ X es c) (he:∀ (pins:List (Addr×Obj)) (s:Shared) (σ:St) (H:Hp) (Q:Value→Shared→Prop),Inv X pins σ H s→c' σ→(∀ y t s',Inv X pins σ H s'→y.length≤2000→Q (.str y t) s')→wpAny (model X.prog X.w) X.A (eval e X.env) Q X.xe s) :
 PJ X (e :: es) (fun σ=>c' σ∧c σ):=by
 refine ⟨fun pins s σ H acc Q I hc hz k=>?_⟩
 rw [List.length_cons] at hz k
 refine he pins s σ H _ I hc.1 fun y t s' I' hy=>⟨y,t,rfl,?_,?_⟩
 ·rw [strLen_append]; omega
 ·refine h.go pins s' σ H (acc++y) Q I' hc.2 (by rw [strLen_append]; omega) fun out s2 I2 ho=>k out s2 I2 ?_
  rw [strLen_append] at ho; omega
theorem i8 {x:Str} {k:Nat} {p:Pos} (h:PJ X es c) (hx:x.length≤2000:=by decide):PJ X (.Constant (.str x) k p :: es) (fun σ=>True∧c σ) :=
 mZ h fun pins s σ H Q I _ q=>thn (pD.go pins s σ H (fun v H'=>v = .str x∧H'=H) I ⟨rfl,rfl⟩) fun u s1 ⟨v,H1,I1,r1,e1,e2⟩=>by
  subst e1 e2; obtain ⟨t,rfl⟩:=(show ∃ t,u=Value.str x t from r1); exact q x t s1 I1 hx
theorem iO {i:Nat} {x:Str} {np p:Pos} (hv:PE X (.Name x np) (tVar i)) (h:PJ X es c):PJ X (.FormattedValue (.Name x np) (-1) none p :: es) (fun σ=>(∃ v,σ[i]? = some (some v)∧oy v)∧c σ) :=
 mZ h fun pins s σ H Q I hc q=>by
  obtain ⟨v,h1,h2⟩:=hc
  refine wpAny_FormattedValue_plain (thn (hv.go pins s σ H (fun v' H'=>v'=v∧H'=H) I ⟨v,h1,rfl,rfl⟩) fun u s1 ⟨v1,H1,I1,r1,e1,e2⟩=>?_)
  subst e1 e2
  cases v1 with
  | non=>cases (show u=Value.none from r1); exact wpAny_formatField_none (q _ _ _ (I1.tok _) (by decide))
  | int a=>obtain ⟨t,rfl⟩:=(show ∃ t,u=Value.int a t from r1); exact wpAny_formatField_int h2 (q _ _ _ (I1.tok _) (Nat.le_trans (PyProof.Rows.int_text_len_1921 h2) (by decide)))
  | str y=>obtain ⟨t,rfl⟩:=(show ∃ t,u=Value.str y t from r1); exact wpAny_formatField_str (q _ _ _ I1 (Nat.le_trans h2 (by decide))) (q _ _ _ (I1.tok _) (Nat.le_trans h2 (by decide))) (Nat.le_trans h2 (by decide))
  | _=>exact h2.elim
def tJoin (c:St→Prop):TE:=fun σ H Q=>c σ∧∀ y:Str,Q (.str y) H
theorem h9 {a b:Expr} {p:Pos} (h:PJ X (a :: b :: es) c) (hz:(a :: b :: es).length≤1000:=by decide):PE X (.JoinedStr (a :: b :: es) p) (tJoin c):=by
 refine ⟨fun pins s σ H Q I hq=>wpAny_JoinedStr (h.go pins s σ H _ _ I hq.1 ?_ fun out s' I' ho=>⟨?_,.str out,H,I'.tok _,⟨_,rfl⟩,hq.2 out⟩)⟩
 ·have:(Str.empty:Str).length=0:=rfl
  rw [sizeLine_eq]; omega
 ·have:(Str.empty:Str).length=0:=rfl
  rw [sizeLine_eq]; omega
end
structure BaseIn (K:PySem.W.Frag) (B:Addr):Prop where
 r:PySem.W.readsIn K B (.type "type")=true
 f:PySem.W.findCls K (.ref B) (.type "type") "__init__" = some (.val (.builtin "ValueError.__init__"))
 g:PySem.W.specialIn K (.ref B) "__getattribute__" = some (some (.builtin "type.__getattribute__"))
section
variable {X:Cx} {C B:Addr} {bm:List Value} {ini:Option Value} {x:Str} {a b:Expr} {np apos pos pos':Pos} {t:TA}
def xf (C:Addr) (t:TA):TE:=fun σ H Q=>t σ H fun vs H1=>∃ e y dx,vs=[.ref e,.str y]∧H1 e=some (.ext (cm e (.ref C) dx))∧Q .non (upd H1 e (.ext (cm e (.ref C) dx)))
theorem fY {pl:Sem Bool} (hB:BaseIn X.K B) (hc:bX X.K C bm ini=true) (hg:Gl X x) (hm:X.mg x=some (.ref B)) (ha:PA X [a,b] t) (hdb:(x == ("__debug__":Str))=false:=by decide)
 (he:starEach [a,b] X.env=(false,eval a X.env) :: starEach [b] X.env:=by rfl) (hpl:(backTo pos (starEach [b] X.env)).any (·.1)=false:=by rfl)
 (ht:eval (.Call (.Attribute (.Name x np) "__init__" apos) [a,b] [] pos) X.env=(do
  let ov ← eval (.Name x np) X.env
  standAt apos.atName
  let (f,first) ← holding [ov] (getMethod ov "__init__" pl)
  callWith pos f first (backTo pos (starEach [a,b] X.env)) (backToKw pos (keywordEach [] X.env))):=by rfl) :
 PE X (.Call (.Attribute (.Name x np) "__init__" apos) [a,b] [] pos) (xf C t):=by
 refine ⟨fun pins s σ H Q I h=>PySem.W.methodCall_KW (pl:=pl) (fg I hg hm ?_ hdb) ht⟩
 refine PySem.W.method_cls I.kIn hB.g (PySem.W.cls_value I.kIn hB.r hB.f rfl ?_)
 have I0:=I.tok (s.toks + 1)
 have hA:=ha pos pins _ σ H _ I0 h
 show wpAny _ _ (callWith pos (.builtin "ValueError.__init__") [] (backTo pos (starEach [a,b] X.env)) []) _ _ _
 rw [he] at hA ⊢
 refine Calls.callWith_builtin (by show (false||(backTo pos (starEach [b] X.env)).any (·.1))=false; rw [hpl] <;> rfl) (Calls.evalArgs_plain (thn hA fun us s2 ⟨vs,H2,I2,r2,e,y,dx,ev,hH,q⟩=>?_))
 subst ev
 obtain ⟨u1,u2,rfl,r3,r4⟩:=lw r2
 cases (show u1=Value.ref e from r3)
 obtain ⟨ty,rfl⟩:=(show ∃ t,u2=Value.str y t from r4)
 obtain ⟨⟨ws,sl,z1,⟨x0,z0⟩,z2⟩,_⟩:=(show a5 X.prog X.w _ s2.heap e (.ext (cm e (.ref C) dx)) from I2.hok e _ hH)
 obtain ⟨N,nm,q',bs,hdct,sn,sub,ab,col,dd,k0,k1,k2,k3,k5,mN,hC,hN,hni,T⟩:=dE I2.kIn hc
 obtain ⟨h0,g0,d0,t0,os0⟩:=s2
 refine nQ T hC z1 rfl rfl z0 ?_ (by simp [sizeLine])
 generalize hO:({ cls:=.type "tuple",data:=.seq ([Value.str y ty]:List Value).toArray }:Obj)=O
 have e1:=Heap.get?_push_of_some O z1
 have e2:=Heap.get?_update_self (Obj.mapFields (·.setIfInBounds 0 (Value.ref h0.objs.size))) e1 (Obj.isFreed_of_fields (Obj.data_mapFields rfl _))
 have h00 : 0<ws.size:=(Array.getElem?_eq_some_iff.mp z0).1
 have h01 : 1<ws.size:=(Array.getElem?_eq_some_iff.mp z2).1
 have ψ:cm e (.ref C) dx ((h0.push O).update e (Obj.mapFields (·.setIfInBounds 0 (Value.ref h0.objs.size)))):=by
  refine ⟨ws.setIfInBounds 0 (Value.ref h0.objs.size),sl,e2,⟨_,by simp [h00]; rfl⟩,?_⟩
  rw [Array.getElem?_setIfInBounds_ne (by decide)]; exact z2
 exact ⟨.non,_,I2.write (x:=e) (e:=e) (t':=t0) (by rw [hH]; trivial) (.inl rfl) (fun b u hb z=>(Heap.get?_update_other _ _ (Ne.symm hb)).trans (Heap.get?_push_of_some _ z)) ⟨_,e2⟩ ψ.ok,rfl,q⟩
end
section
variable {X:Cx} {pins:List (Addr×Obj)} {σ:St} {H:Hp} {s:Shared} {h':Heap} {a:Addr} {oa od:HO}
theorem Inv.two {t':Nat} (I:Inv X pins σ H s) (mu:Mut (H a)) (k:∀ b o,b≠a→s.heap.get? b=some o→h'.get? b=some o) (heo:∃ u,h'.get? a=some u)
 (oka:a5 X.prog X.w (upd (upd H a oa) s.heap.objs.size od) h' a oa) (okd:a5 X.prog X.w (upd (upd H a oa) s.heap.objs.size od) h' s.heap.objs.size od) :
 Inv X pins σ (upd (upd H a oa) s.heap.objs.size od) { s with heap:=h',toks:=t' }:=by
 have hn:H s.heap.objs.size=none:=I.hok.fresh (Nat.le_refl _)
 have up:∀ b,b≠a→b≠s.heap.objs.size→upd (upd H a oa) s.heap.objs.size od b=H b:=fun b h1 h2=>by rw [aq h2,aq h1]
 have na:∀ b,H b=none→b≠a:=fun b z y=>by rw [y] at z; rw [z] at mu; exact mu
 have lt:∀ b o,s.heap.get? b=some o→b≠s.heap.objs.size:=fun b o z=>Nat.ne_of_lt (Heap.lt_size z)
 have nd:∀ b u,H b=some u→b≠s.heap.objs.size:=fun b u z y=>by rw [y,hn] at z; cases z
 have nt:∀ b xs,H b=some (.tup xs)→b≠a:=fun b xs z y=>by rw [← y,z] at mu; exact mu
 have nf:∀ b o u,H b=some (.frz o u)→b≠a:=fun b o u z y=>by rw [← y,z] at mu; exact mu
 have ntb:∀ b ps q,H b=some (.tbl ps q)→b≠a:=fun b ps q z y=>by rw [← y,z] at mu; exact mu
 have no:∀ b y,H b=some (.own y)→b≠a:=fun b y' z y=>by rw [← y,z] at mu; exact mu
 refine I.un (t':=t') {
  keep:=fun b o q n _ _=>k b o (na b n) q
  slot:=fun b o q n _ _=>⟨o.slots,k b o (na b n) q⟩
  free:=fun b o q n _=>(up b (na b n) (lt b o q)).trans n
  there:=fun b o q _=>by
   by_cases hb:b=a
   ·subst hb; exact heo
   ·exact ⟨o,k b o hb q⟩
  tups:=fun b xs z=>(up b (nt b xs z) (nd b _ z)).trans z
  frzs:=fun b o u z=>(up b (nf b o u z) (nd b _ z)).trans z
  tbls:=fun b ps q z=>⟨#[],by rw [up b (ntb b ps q z) (nd b _ z),z]; simp⟩ } fun b u q=>?_
 by_cases h1:b=s.heap.objs.size
 ·subst h1; rw [av] at q; cases q; exact okd
 by_cases h2:b=a
 ·subst h2; rw [aq h1,av] at q; cases q; exact oka
 rw [up b h2 h1] at q
 refine (I.hok b u q).stay (fun c v hc z=>k c v ?_ z) (fun c z=>(up c (no c _ z) (nd c _ z)).trans z) (fun c xs z=>(up c (nt c _ z) (nd c _ z)).trans z) fun c o u z=>(up c (nf c o u z) (nd c _ z)).trans z
 rcases hc with rfl | hc
 ·exact h2
 ·exact no c _ hc
end
section
variable {X:Cx} {C:Addr} {bm:List Value} {ini:Option Value} {f:Str} {o value:Expr} {pos pos':Pos} {ta tv:TE}
def sX0 (C:Addr) (f:Str) (ta tv:TE):TS:=fun D σ H=>tv σ H fun y H1=>ta σ H1 fun x H2=>∃ a,x = .ref a∧H2 a=some (.ext (cm a (.ref C) none)) ∧
 ∀ d,H2 d=none→D.nx σ (upd (upd H2 a (.ext (cm a (.ref C) (some d)))) d (.ext (xdφ d [(f,y)])))
def sX1 (C:Addr) (f:Str) (ta tv:TE):TS:=fun D σ H=>tv σ H fun y H1=>ta σ H1 fun x H2=>∃ a d fs,x = .ref a∧H2 a=some (.ext (cm a (.ref C) (some d)))∧H2 d=some (.ext (xdφ d fs))∧d≠a∧fs.length≤50∧fs.lookup f=none ∧
 D.nx σ (upd H2 d (.ext (xdφ d (fs++[(f,y)]))))
theorem gU (g:Str) (y:V):∀ {fs:List (Str×V)},fs.lookup f=none→(fs++[(f,y)]).lookup g=if g=f then some y else fs.lookup g
 | [],_=>by
  show List.lookup g [(f,y)]=_
  by_cases h:g=f
  ·have hb:(g == f)=true:=beq_iff_eq.mpr h
   simp only [List.lookup,hb,if_pos h]
  ·have hb:(g == f)=false:=beq_eq_false_iff_ne.mpr h
   simp only [List.lookup,hb,if_neg h]
 | (k,x) :: fs,h=>by
  show List.lookup g ((k,x) :: (fs++[(f,y)]))=_
  by_cases hk:f=k
  ·have hb:(f == k)=true:=beq_iff_eq.mpr hk
   simp only [List.lookup,hb] at h; cases h
  ·have hb:(f == k)=false:=beq_eq_false_iff_ne.mpr hk
   simp only [List.lookup,hb] at h
   have ih:=gU g y h
   by_cases hg:g=k
   ·have hb2:(g == k)=true:=beq_iff_eq.mpr hg
    simp only [List.lookup,hb2]
    rw [if_neg (fun z=>hk (z.symm.trans hg))]
   ·have hb2:(g == k)=false:=beq_eq_false_iff_ne.mpr hg
    simp only [List.lookup,hb2]
    exact ih
theorem nh (hc:bX X.K C bm ini=true) (ho:cU X.K C=true) (hs:iy X.K C f) (ha:PE X o ta) (hv:PE X value tv) (hsw:swapsWith value (some (.Attribute o f pos')) pos.line X.env=pure false:=by rfl):PS X (.Assign [.Attribute o f pos'] value pos) (sX0 C f ta tv):=by
 refine ⟨fun pins s σ H D I h=>plainObj_wpAny_Assign_Attribute (thn (hv pins s σ H _ I h) fun u s1 ⟨y,H1,I1,ry,q⟩=>thn (ha pins s1 σ H1 _ I1 q) fun ov s2 ⟨x,H2,I2,rx,a,ex,hH,q2⟩=>?_) hsw⟩
 subst ex
 obtain rfl:ov=Value.ref a:=rx
 obtain ⟨⟨ws,sl,z1,z0,z2⟩,_⟩:=(show a5 X.prog X.w _ s2.heap a (.ext (cm a (.ref C) none)) from I2.hok a _ hH)
 refine xset0 I2.kIn z1 hc ho hs fun h' tk' hn hx k=>?_
 refine ⟨σ,_,I2.two (t':=tk') (oa:=.ext (cm a (.ref C) (some s2.heap.objs.size))) (od:=.ext (xdφ s2.heap.objs.size [(f,y)])) (by rw [hH]; trivial) k ⟨_,hx⟩ (cm.ok ⟨ws,sl,hx,z0,z2⟩) (xdφ.ok ⟨_,hn,fun g=>?_,[f],Within.cons f u Within.nil,by simp⟩),q2 _ (I2.hok.fresh (Nat.le_refl _))⟩
 have e:=gU (f:=f) g y (fs:=[]) rfl
 rw [List.nil_append] at e
 rw [e]
 by_cases hg:g=f
 ·rw [if_pos hg,if_pos hg]; exact ry
 ·rw [if_neg hg,if_neg hg]; exact True.intro
theorem ps_x1 (hc:bX X.K C bm ini=true) (ho:cU X.K C=true) (hs:iy X.K C f) (ha:PE X o ta) (hv:PE X value tv) (hsw:swapsWith value (some (.Attribute o f pos')) pos.line X.env=pure false:=by rfl):PS X (.Assign [.Attribute o f pos'] value pos) (sX1 C f ta tv):=by
 refine ⟨fun pins s σ H D I h=>plainObj_wpAny_Assign_Attribute (thn (hv pins s σ H _ I h) fun u s1 ⟨y,H1,I1,ry,q⟩=>thn (ha pins s1 σ H1 _ I1 q) fun ov s2 ⟨x,H2,I2,rx,a,d,fs,ex,hH,hd,hne,hfs,hl,q2⟩=>?_) hsw⟩
 subst ex
 obtain rfl:ov=Value.ref a:=rx
 obtain ⟨⟨ws,sl,z1,z0,z2⟩,_⟩:=(show a5 X.prog X.w _ s2.heap a (.ext (cm a (.ref C) (some d))) from I2.hok a _ hH)
 obtain ⟨⟨mA,y1,y2,ns,y3,y4⟩,⟨od,yd⟩,_⟩:=(show a5 X.prog X.w _ s2.heap d (.ext (xdφ d fs)) from I2.hok d _ hd)
 refine xset1 I2.kIn z1 y1 hne hc ho hs y3 (by omega) fun h' tk' hn hsb=>?_
 obtain ⟨o2,es2,ep2,e2,e3⟩:=id hn
 refine ⟨σ,_,I2.write (x:=d) (e:=d) (t':=tk') (by rw [hd]; trivial) (.inl rfl) (fun b u hb z=>(hsb.2 b hb).trans z) ⟨_,e2⟩ (xdφ.ok ⟨_,hn,fun g=>?_,f :: ns,Within.cons f u y3,?_⟩),q2⟩
 ·rw [gU g y hl]
  by_cases hg:g=f
  ·rw [if_pos hg,if_pos hg]; exact ry
  ·rw [if_neg hg,if_neg hg]; exact y2 g
 ·rw [List.length_cons,List.length_append]; simp; omega
def tXat (K:PySem.W.Frag) (f:Str) (ta:TE):TE:=fun σ H Q=>ta σ H fun x H1=>∃ a C d fs v bm ini,x = .ref a∧H1 a=some (.ext (gQ a (.ref C) (some d)))∧H1 d=some (.xd fs)∧bX K C bm ini=true∧cU K C=true∧iy K C f∧fs.lookup f=some v∧Q v H1
theorem vz (he:PE X o ta) (hb:attributeBase o f X.env (eval o X.env)=eval o X.env:=by rfl):PE X (.Attribute o f pos) (tXat X.K f ta):=by
 refine ⟨fun pins s σ H Q I h=>t5 hb (thn (he pins s σ H _ I h) fun u s1 ⟨x,H1,I1,rx,a,C,d,fs,v,bm,ini,ex,hH,hd,hc,ho,hs,hl,q⟩=>?_)⟩
 subst ex
 obtain rfl:u=Value.ref a:=rx
 obtain ⟨⟨ws,sl,z1⟩,_⟩:=(show a5 X.prog X.w _ s1.heap a (.ext (gQ a (.ref C) (some d))) from I1.hok a _ hH)
 obtain ⟨mA,y1,y2⟩:=(show a5 X.prog X.w _ s1.heap d (.xd fs) from I1.hok d _ hd)
 obtain ⟨od,o1,o2⟩:=jJ y1
 have rl:=y2 f
 rw [hl] at rl
 obtain ⟨u,e1,e2⟩:=rl.some_of
 have J:PySem.W.InstAt s1.heap a ⟨.ref C,some d,.fields ws,sl⟩ C (some od):=⟨z1,rfl,rfl,o1⟩
 simp only [cU,Bool.and_eq_true,beq_iff_eq] at ho
 refine rO I1.kIn J (dE I1.kIn hc) ho.1.1.1.1.1.1 ho.1.1.1.1.1.2 (PySem.W.findObj_own ho.2 hs.2 rfl (by rw [o2,e1])) fun tk=>PySem.W.handed_on (o3 e2) ⟨v,H1,I1.tok tk,e2,q⟩
end
theorem lq {H:Hp} {f:Str} {dv:D}:∀ {ns:List Str} {es:List D} {xs:List V},Reps H es xs→(ns.zip es).lookup f=some dv→∃ v,(ns.zip xs).lookup f=some v∧Rep H dv v
 | [],es,xs,_,h=>by simp at h
 | n :: ns,[],xs,_,h=>by simp at h
 | n :: ns,e :: es,xs,r,h=>by
  rw [Reps] at r
  obtain ⟨w,ws,rfl,r1,r2⟩:=r
  rw [List.zip_cons_cons] at h ⊢
  by_cases hf:f=n
  ·have hb:(f == n)=true:=beq_iff_eq.mpr hf
   simp only [List.lookup,hb] at h ⊢
   cases h; exact ⟨w,rfl,r1⟩
  ·have hb:(f == n)=false:=beq_eq_false_iff_ne.mpr hf
   simp only [List.lookup,hb] at h ⊢
   exact lq r2 h
section
variable {X:Cx} {ow:List Bool} {a:Expr} {ma:ME} {pos:Pos} {f:Str}
def mXat (K:PySem.W.Frag) (f:Str) (m:ME):ME:=fun ρ q=>m ρ fun d ρ'=>∃ C ns es dv bm ini,d=i2 C ns es∧bX K C bm ini=true∧cU K C=true∧iy K C f∧(ns.zip es).lookup f=some dv∧q dv ρ'
theorem rf (ha:QE X ow a ma) (hb:attributeBase a f X.env (eval a X.env)=eval a X.env:=by rfl):QE X ow (.Attribute a f pos) (mXat X.K f ma):=by
 obtain ⟨t,p,s⟩:=ha
 refine ⟨_,vz p hb,fun C G ρ σ H pd q Q r hm k=>s C G ρ σ H pd _ _ r hm fun d ρ' v G' H' hq s kp r' p=>?_⟩
 obtain ⟨C1,ns,es,dv,bm,ini,rfl,h1,h2,h3,h4,h5⟩:=hq
 unfold i2 at p
 rw [Rep] at p
 obtain ⟨a1,H0,rfl,z,dx,g1,g2⟩:=p
 cases dx with
 | none=>obtain ⟨rfl,rfl⟩:=g2; simp at h4
 | some d =>
  obtain ⟨xs,g3,g4,g5⟩:=g2
  obtain ⟨v,l1,l2⟩:=lq (Reps.mono z _ _ g5) h4
  exact ⟨a1,C1,d,_,v,bm,ini,rfl,r'.gh _ _ (z _ _ g1),r'.gh _ _ (z _ _ g3),h1,h2,h3,l1,k dv ρ' v G' H' h5 s kp r' l2⟩
end
section
variable {X:Cx}
variable {ow:List Bool} {e:Expr} {ma:ME}
end
section
variable {X:Cx} {M:Md} {ow:List Bool} {a e:Expr} {es:List Expr} {pos:Pos} {mex:MEX} {m1:MSX} {mg:MG}
def miEnuX (m:MEX):XD→MA:=fun xx ρ q=>m xx ρ fun d ρ'=>match d with
 | .lst ds=>q (eP ds) ρ'
 | _=>False
variable {x:Str} {p':Pos} {ma:ME}
def vG (m:ME):ME:=fun ρ q=>m ρ fun d ρ'=>match d with
 | .lst ds=>q (.tup ds) ρ'
 | _=>False
theorem ph (hg:Gl X x) (hm:X.mg x=none) (hv:bootBuiltins x=some (.type "tuple")) (ha:QE X ow e ma) (hn:x ≠ "__name__":=by decide) (hdb:(x == ("__debug__":Str))=false:=by decide)
 (he:starEach [e] X.env=[(false,eval e X.env)]:=by rfl):QE X ow (.Call (.Name x p') [e] [] pos) (vG ma):=by
 obtain ⟨t,p,s⟩:=ha
 refine ⟨_,e9 ji hg hm hv (a6 p cq he) hn hdb he rfl,fun C G ρ σ H pd q Q r hm k=>s C G ρ σ H pd _ _ r hm fun d ρ' v G' H' hq z kp r' p1=>?_⟩
 cases d with
 | lst ds =>
  obtain ⟨a,xs,rfl,h1,h2⟩:=bu p1
  refine ⟨a,xs,rfl,.inl ⟨SqL.of (r'.gh _ _ h1),fun l hl=>?_⟩⟩
  obtain ⟨O,ro⟩:=r'
  obtain ⟨r2,s2⟩:=ro.new hl (.tup xs)
  exact k _ ρ' _ _ _ hq (z.trans s2) kp ⟨O,r2⟩ (kE av (Reps.mono s2 _ _ h2))
 | _=>exact hq.elim
end
structure FlO (C:Ctx) (G H:Hp) (O:Own) (p:Addr) (xs:List V):Prop where
 gp:G p=none
 op:O p=none
 cp:C.H p=none
 hp:H p=some (.lst xs)
def Ctx.pin (C:Ctx) (p:Addr) (o:HO):Ctx:={ C with H:=fun a=>if a=p then some o else C.H a,O:=fun a=>if a=p then none else C.O a }
section
variable {C:Ctx} {ow:List Bool} {G:Hp} {ρ:DSt} {σ:St} {H:Hp} {pd:List (D×V)} {O:Own} {p:Addr} {xs:List V}
theorem RO.off (h:RO C ow G ρ σ H pd O) (gp:G p=none) (op:O p=none) (cp:C.H p=none) (o:HO):RO C ow G ρ σ (upd H p o) pd O:=by
 have ne:∀ a l,O a=some l→a≠p:=fun a l e z=>by rw [z,op] at e; cases e
 refine ⟨h.len,fun a u e=>?_,h.g0,h.gn,fun a l e=>?_,h.cok,fun a u e n t=>?_,fun a ps q e=>?_,fun a e=>?_,h.mp,fun i d e=>?_,?_,h.np⟩
 ·rw [aq (fun z=>by rw [z,gp] at e; cases e)]; exact h.gh _ _ e
 ·rw [aq (ne a l e)]; exact h.og a l e
 ·rw [aq (fun z=>by rw [z,cp] at e; cases e)]; exact h.fr a u e n t
 ·by_cases z:a=p
  ·rw [z]; exact gp
  ·rw [aq z] at e; exact h.ft a ps q e
 ·by_cases z:a=p
  ·rw [z]; exact cp
  ·rw [aq z] at e; exact h.al a e
 ·obtain ⟨v,h1,h2⟩:=h.sl i d e
  refine ⟨v,h1,?_⟩
  split at h2
  ·rename_i c; rw [if_pos c]; exact h2.keep (fun _ _ z=>z) fun a τ q=>⟨q,aq (ne a _ q)⟩
  ·rename_i c; rw [if_neg c]; exact h2
 ·exact bN.keep (fun _ _ z=>z) (fun a j π _ q=>⟨q,aq (ne a _ q)⟩) h.pn
theorem RO.free (h:RO C ow G ρ σ H pd O) (hp:H p=none):G p=none∧O p=none∧C.H p=none:=by
 refine ⟨?_,?_,h.al p hp⟩
 ·cases e:G p with
  | none=>rfl
  | some z=>rw [h.gh _ _ e] at hp; cases hp
 ·cases e:O p with
  | none=>rfl
  | some l=>obtain ⟨_,⟨xs,q⟩,_⟩:=h.og p l e; rw [hp] at q; cases q
theorem RO.frame (h:RO C ow G ρ σ H pd O) (f:FlO C G H O p xs):RO (C.pin p (.lst xs)) ow G ρ σ H pd O:=by
 have at1:∀ a,a≠p→(C.pin p (.lst xs)).H a=C.H a:=fun a z=>if_neg z
 have at2:∀ a,a≠p→(C.pin p (.lst xs)).O a=C.O a:=fun a z=>if_neg z
 have ap:(C.pin p (.lst xs)).H p=some (.lst xs):=if_pos rfl
 have ap2:(C.pin p (.lst xs)).O p=none:=if_pos rfl
 refine ⟨h.len,h.gh,h.g0,fun a u e=>?_,fun a l e=>?_,fun a l π e=>?_,fun a u e n t=>?_,h.ft,fun a e=>?_,h.mp,h.sl,h.pn,h.np⟩
 ·have z:a≠p:=fun z=>by rw [z,f.gp] at e; cases e
  rw [at1 a z]; exact h.gn a u e
 ·have z:a≠p:=fun z=>by rw [z,f.op] at e; cases e
  obtain ⟨q1,q2,q3⟩:=h.og a l e
  refine ⟨q1,q2,?_⟩
  unfold Nw at q3 ⊢
  rw [at1 a z,at2 a z]; exact q3
 ·have z:a≠p:=fun z=>by rw [z,ap2] at e; cases e
  rw [at2 a z] at e; exact h.cok a l π e
 ·by_cases z:a=p
  ·subst z; rw [ap] at e; cases e; exact f.hp
  ·rw [at1 a z] at e; rw [at2 a z] at n; exact h.fr a u e n t
 ·have z:a≠p:=fun z=>by rw [z,f.hp] at e; cases e
  rw [at1 a z]; exact h.al a e
theorem RO.unframe {G2:Hp} {ρ2:DSt} {σ2:St} {H2:Hp} {pd2:List (D×V)} {O2:Own} {ow2:List Bool} (h:RO C ow G ρ σ H pd O) (f:FlO C G H O p xs) (h2:RO (C.pin p (.lst xs)) ow2 G2 ρ2 σ2 H2 pd2 O2):RO C ow2 G2 ρ2 σ2 H2 pd2 O2∧FlO C G2 H2 O2 p xs:=by
 have at1:∀ a,a≠p→(C.pin p (.lst xs)).H a=C.H a:=fun a z=>if_neg z
 have at2:∀ a,a≠p→(C.pin p (.lst xs)).O a=C.O a:=fun a z=>if_neg z
 have ap:(C.pin p (.lst xs)).H p=some (.lst xs):=if_pos rfl
 have ap2:(C.pin p (.lst xs)).O p=none:=if_pos rfl
 have gp0:C.G p=none:=by
  cases e:C.G p with
  | none=>rfl
  | some z=>have:=h.g0 p z e; rw [f.gp] at this; cases this
 have gp:G2 p=none:=by
  cases e:G2 p with
  | none=>rfl
  | some z =>
   rcases h2.gn p z e with q | q
   ·rw [show (C.pin p (.lst xs)).G p=C.G p from rfl,gp0] at q; cases q
   ·rw [ap] at q; cases q
 have op:O2 p=none:=by
  cases e:O2 p with
  | none=>rfl
  | some l =>
   obtain ⟨_,_,q⟩:=h2.og p l e
   rcases q with q | ⟨π,q⟩
   ·rw [ap] at q; cases q
   ·rw [ap2] at q; cases q
 refine ⟨⟨h2.len,h2.gh,h2.g0,fun a u e=>?_,fun a l e=>?_,h.cok,fun a u e n t=>?_,h2.ft,fun a e=>?_,h2.mp,h2.sl,h2.pn,h2.np⟩,gp,op,f.cp,h2.fr p _ ap ap2 (fun _ _ z=>by cases z)⟩
 ·have z:a≠p:=fun z=>by rw [z,gp] at e; cases e
  have:=h2.gn a u e; rw [at1 a z] at this; exact this
 ·have z:a≠p:=fun z=>by rw [z,op] at e; cases e
  obtain ⟨q1,q2,q3⟩:=h2.og a l e
  refine ⟨q1,q2,?_⟩
  unfold Nw at q3 ⊢
  rw [at1 a z,at2 a z] at q3; exact q3
 ·have z:a≠p:=fun z=>by rw [z,f.cp] at e; cases e
  exact h2.fr a u (by rw [at1 a z]; exact e) (by rw [at2 a z]; exact n) t
 ·by_cases z:a=p
  ·rw [z]; exact f.cp
  ·have:=h2.al a e; rw [at1 a z] at this; exact this
theorem RO.catch (h:RO C ow G ρ σ H pd O) (f:FlO C G H O p xs):RO C ow (upd G p (.lst xs)) ρ σ H pd O∧aJ G (upd G p (.lst xs)):=by
 have sG:=lE f.gp (.lst xs)
 refine ⟨⟨h.len,fun a u e=>?_,fun a u e=>sG _ _ (h.g0 a u e),fun a u e=>?_,fun a l e=>?_,h.cok,h.fr,(fun a ps q e=>by rw [aq (fun z=>by rw [z,f.hp] at e; cases e)]; exact h.ft a ps q e),h.al,h.mp,fun i d e=>?_,?_,h.np⟩,sG⟩
 ·by_cases z:a=p
  ·subst z; rw [av] at e; cases e; exact f.hp
  ·rw [aq z] at e; exact h.gh _ _ e
 ·by_cases z:a=p
  ·subst z; exact .inr f.cp
  ·rw [aq z] at e; exact h.gn a u e
 ·have z:a≠p:=fun z=>by rw [z,f.op] at e; cases e
  rw [aq z]; exact h.og a l e
 ·obtain ⟨v,h1,h2⟩:=h.sl i d e
  refine ⟨v,h1,?_⟩
  split at h2
  ·rename_i c; rw [if_pos c]; exact h2.keep sG.ts fun a τ q=>⟨q,rfl⟩
  ·rename_i c; rw [if_neg c]; exact h2.mono sG
 ·exact bN.keep sG.ts (fun a j π _ q=>⟨q,rfl⟩) h.pn
theorem RO.release {G2:Hp} {ρ2:DSt} {H2:Hp} {O2:Own} (h:RO C ow G ρ σ H pd O) (f:FlO C G H O p xs) (h2:RO C ow G2 ρ2 σ H2 pd O2) (s:aJ (upd G p (.lst xs)) G2)
 (hs:∀ (j:Nat) d v,ow[j]?≠some true→ρ2[j]? = some (some d)→σ[j]? = some (some v)→Rep (fC p G2) d v):RO C ow (fC p G2) ρ2 σ H2 pd O2∧FlO C (fC p G2) H2 O2 p xs∧aJ G (fC p G2):=by
 have g2:G2 p=some (.lst xs):=s _ _ av
 have hid:∀ a,a≠p→fC p G2 a=G2 a:=fun a z=>by unfold fC; rw [if_neg z]
 have hidp:fC p G2 p=none:=by unfold fC; rw [if_pos rfl]
 have ts:bY G2 (fC p G2):=fun a ys e=>by
  have z:a≠p:=fun z=>by rw [z,g2] at e; cases e
  rw [hid a z]; exact e
 have sG:aJ G (fC p G2):=fun a o e=>by
  have z:a≠p:=fun z=>by rw [z,f.gp] at e; cases e
  rw [hid a z]; exact s a o (by rw [aq z]; exact e)
 have op:O2 p=none:=by
  cases e:O2 p with
  | none=>rfl
  | some l=>have:=(h2.og p l e).1; rw [g2] at this; cases this
 have sub:∀ a o,fC p G2 a=some o→G2 a=some o:=fun a o e=>by
  have z:a≠p:=fun z=>by rw [z,hidp] at e; cases e
  rw [hid a z] at e; exact e
 refine ⟨⟨h2.len,fun a u e=>h2.gh _ _ (sub a u e),fun a u e=>sG _ _ (h.g0 a u e),fun a u e=>h2.gn a u (sub a u e),fun a l e=>?_,h2.cok,h2.fr,(fun a ps q e=>by
  by_cases z:a=p
  ·rw [z]; exact hidp
  ·rw [hid a z]; exact h2.ft a ps q e),h2.al,h2.mp,fun i d e=>?_,?_,h2.np⟩,⟨hidp,op,f.cp,h2.gh _ _ g2⟩,sG⟩
 ·obtain ⟨q1,q2,q3⟩:=h2.og a l e
  refine ⟨?_,q2,q3⟩
  cases z:fC p G2 a with
  | none=>rfl
  | some u=>rw [sub a u z] at q1; cases q1
 ·obtain ⟨v,h3,h4⟩:=h2.sl i d e
  refine ⟨v,h3,?_⟩
  split at h4
  ·rename_i c; rw [if_pos c]; exact h4.keep ts fun a τ q=>⟨q,rfl⟩
  ·rename_i c; rw [if_neg c]; exact hs i d v c e h3
 ·exact bN.keep ts (fun a j π _ q=>⟨q,rfl⟩) h2.pn
end
def SN (ow:List Bool) (t:TE) (m:MA):Prop:=∀ (C:Ctx) (G:Hp) (ρ:DSt) (σ:St) (H:Hp) (pd:List (D×V)) (q:List D→DSt→Prop) (Q:VK),R C ow G ρ σ H pd→m ρ q →
 (∀ ds ρ' xs p G' H',q ds ρ'→aJ G G'→Kp ow ρ ρ'→R C ow G' ρ' σ H' pd→H' p=none→Reps G' ds xs→Q (.ref p) (upd H' p (.lst xs)))→t σ H Q
structure QN (X:Cx) (ow:List Bool) (e:Expr) (m:MA):Prop where
 ex:∃ t,PE X e t∧SN ow t m
def uH (f:List D→(List D→Prop)→Prop) (m:MA):MA:=fun ρ q=>m ρ fun ds ρ'=>f ds fun es=>q es ρ'
theorem vh {ow:List Bool} {mr:MA} {r:List V→Hp→VK→Prop} {f:List D→(List D→Prop)→Prop} {t:TA} {n:Nat} (hd:fM r f) (s:SA ow n t mr):SN ow (fun σ H Q=>t σ H fun xs H1=>r xs H1 Q) (uH f mr):=fun C G ρ σ H pd q Q hr hm k =>
 s C G ρ σ H pd _ _ hr hm fun ds ρ' vs G' H' hq z kp r' p hn=>hd G' H' vs ds _ _ r'.gh p hq fun es ys a hq p ha=>k es ρ' ys a G' H' hq z kp r' ha p
section
variable {X:Cx} {ow:List Bool} {a b e:Expr} {es:List Expr} {ma mb:ME} {mr:MA} {pos:Pos} {x:Str} {p':Pos}
theorem oQ {id:String} {r:List V→Hp→VK→Prop} {f:List D→(List D→Prop)→Prop} (hc:cF X (.type id) r) (hd:fM r f) (hg:Gl X x) (hm:X.mg x=none) (hv:bootBuiltins x=some (.type id)) (ha:QA X ow (e :: es) mr) (hn:x ≠ "__name__":=by decide) (hdb:(x == ("__debug__":Str))=false:=by decide)
 (he:starEach (e :: es) X.env=(false,eval e X.env) :: starEach es X.env:=by rfl) (hpl:(backTo pos (starEach es X.env)).any (·.1)=false:=by rfl):QN X ow (.Call (.Name x p') (e :: es) [] pos) (uH f mr):=by
 obtain ⟨t,p,s⟩:=ha
 exact ⟨_,e9 hc hg hm hv p hn hdb he hpl,vh hd s⟩
end
def RF (C:Ctx) (ow:List Bool) (G:Hp) (ρ:DSt) (σ:St) (H:Hp) (p:Addr) (xs:List V):Prop:=∃ O,RO C ow G ρ σ H [] O∧FlO C G H O p xs
structure Fl (C:Ctx) (ow:List Bool) (i:Nat) (G:Hp) (ρ:DSt) (σ:St) (H:Hp) (p:Addr) (ds:List D):Prop where
 ex:∃ xs,RF C ow G ρ σ H p xs∧Reps G ds xs
 no : ρ[i]? = some none
 at' : σ[i]? = some (some (.ref p))
abbrev MFl:=(List D→DSt→Prop)→List D→DSt→Prop
abbrev MFe:=EndsD→List D→DSt→Prop
def SFl (M:Md) (i:Nat) (t:TS) (m:MFl):Prop:=∀ (C:Ctx) (G:Hp) (ρ:DSt) (σ:St) (H:Hp) (p:Addr) (ds:List D) (n:List D→DSt→Prop) (D:Ends),gr C M.mu→C.np=0→Fl C M.ow i G ρ σ H p ds→m n ds ρ →
 (∀ ds' ρ' σ' G' H',n ds' ρ'→aJ G G'→Fl C M.ow i G' ρ' σ' H' p ds'→D.nx σ' H')→t D σ H
def SFe (M:Md) (i:Nat) (t:TS) (m:MFe):Prop:=∀ (C:Ctx) (G:Hp) (ρ:DSt) (σ:St) (H:Hp) (p:Addr) (ds:List D) (n:EndsD) (D:Ends),gr C M.mu→C.np=0→Fl C M.ow i G ρ σ H p ds→m n ds ρ→Ks C M.ow M.fr G n D→t D σ H
structure QFl (X:Cx) (M:Md) (i:Nat) (st:Stmt) (m:MFl):Prop where
 ex:∃ t,PS X st t∧SFl M i t m
structure QFe (X:Cx) (M:Md) (i:Nat) (st:List Stmt) (m:MFe):Prop where
 ex:∃ t,PSs X st t∧SFe M i t m
section
variable {X:Cx} {M:Md} {i:Nat} {st:Stmt} {rest:List Stmt} {m1 m2:MFl} {me:MFe} {ms:MS} {pos pos':Pos}
theorem nD (h:QFl X M i st m1) (h2:QFe X M i rest me):QFe X M i (st :: rest) (fun n ds ρ=>m1 (fun ds' ρ'=>me n ds' ρ') ds ρ):=by
 obtain ⟨t,p,s⟩:=h; obtain ⟨t2,p2,s2⟩:=h2
 refine ⟨_,cz p p2,fun C G ρ σ H p ds n D hm hn f h k=>s C G ρ σ H p ds _ _ hm hn f h fun ds' ρ' σ' G' H' h' z f'=>?_⟩
 exact s2 C G' ρ' σ' H' p ds' n D hm hn f' h' (k.mono z)
theorem xa (h:QSs X M rest ms) (ho:M.ow[i]?≠some true:=by decide) (hu:M.mu[i]?≠some true:=by decide):QFe X M i rest (fun n ds ρ=>ms n (ρ.set i (some (.lst ds)))):=by
 obtain ⟨t,p,s⟩:=h
 refine ⟨_,p,fun C G ρ σ H p ds n D hm hn f h k=>?_⟩
 obtain ⟨xs,⟨O,ro,fo⟩,rs⟩:=f.ex
 obtain ⟨r1,z1⟩:=ro.catch fo
 have r2:=r1.setS ho (hm.no hu) (e_ av (Reps.mono z1 _ _ rs))
 have e : σ.set i (some (.ref p))=σ:=by
  apply List.ext_getElem?
  intro j
  by_cases c:i=j
  ·subst c
   rw [f.at',List.getElem?_set_self (List.getElem?_eq_some_iff.mp f.at').1]
  ·rw [List.getElem?_set_ne c]
 rw [e] at r2
 exact s C _ _ σ H n D hm hn ⟨O,r2⟩ h (k.mono z1)
def va (i:Nat) (mN:MA) (me:MFe):MS:=fun n ρ=>mN ρ fun ds ρ'=>i<ρ'.length∧me n ds (ρ'.set i none)
theorem p7 {x:Str} {e:Expr} {mN:MA} (hN:X.N.Nodup) (hi:X.N[i]? = some x) (hx:Loc X.env.scope x) (he:QN X M.ow e mN) (hr:QFe X M i rest me) (ho:M.ow[i]?≠some true:=by decide) (hu:M.mu[i]?≠some true:=by decide)
 (hs:swapsWith e (some (.Name x pos')) pos.line X.env=pure false:=by rfl) (hf:X.fn x=true∨X.env.scope.names.lookup x=some .local:=by first | exact .inl rfl | exact .inr rfl | assumption) :
 QSs X M (.Assign [.Name x pos'] e pos :: rest) (va i mN me):=by
 obtain ⟨t,p,s⟩:=he; obtain ⟨t2,p2,s2⟩:=hr
 refine ⟨_,cz (gO hN hi hx p hs hf) p2,fun C G ρ σ H n D hm hn r h k=>s C G ρ σ H [] _ _ r h fun ds ρ' xs p G' H' hq z kp r' hp rs=>?_⟩
 obtain ⟨O,ro⟩:=r'
 obtain ⟨g1,g2,g3⟩:=ro.free hp
 have hl:i<σ.length:=by rw [← ro.len]; exact hq.1
 have r1:=(ro.off g1 g2 g3 (.lst xs)).gone i (hm.no hu)
 have r2:RO C M.ow G' (ρ'.set i none) (σ.set i (some (.ref p))) (upd H' p (.lst xs)) [] O:=by
  refine ⟨by have:=ro.len; simp [this],r1.gh,r1.g0,r1.gn,r1.og,r1.cok,r1.fr,r1.ft,r1.al,fun j v e=>?_,fun j d e=>?_,r1.pn,r1.np⟩
  ·have c:i≠j:=fun z=>hm.no hu v (z ▸ e)
   rw [List.getElem?_set_ne c]; have:=r1.mp j v e; rw [List.getElem?_set_ne c] at this; exact this
  ·have c:i≠j:=fun z=>by
    subst z
    rw [List.getElem?_set_self (by omega)] at e; cases e
   obtain ⟨v,h1,h2⟩:=r1.sl j d e
   rw [List.getElem?_set_ne c] at h1
   exact ⟨v,by rw [List.getElem?_set_ne c]; exact h1,h2⟩
 refine s2 C G' _ _ _ p ds n D hm hn ⟨⟨xs,⟨O,r2,g1,g2,g3,av⟩,rs⟩,List.getElem?_set_self hq.1,List.getElem?_set_self hl⟩ hq.2 (k.mono z)
variable {e b c:Expr} {ma mb:ME} {mt:MT}
theorem kp_no {ow:List Bool} {i:Nat} {ρ ρ':DSt} (kp:Kp ow ρ ρ') (ho:ow[i]?≠some true) (h : ρ[i]? = some none) : ρ'[i]? = some none:=(kp i ho).trans h
theorem kP {G:Hp} {d:D} {v:V} (h:Rep G d v):∀ {ds:List D} {xs:List V} (k:Nat),Reps G ds xs→Reps G (ds.set k d) (xs.set k v)
 | [],xs,k,r=>by rw [Reps] at r; subst r; simp; exact bO
 | e :: ds,xs,0,r=>by rw [Reps] at r; obtain ⟨w,ws,rfl,r1,r2⟩:=r; exact bA h r2
 | e :: ds,xs,k + 1,r=>by rw [Reps] at r; obtain ⟨w,ws,rfl,r1,r2⟩:=r; exact bA r1 (kP h k r2)
def fSetI (mk ma:ME):MFl:=fun n ds ρ=>ma ρ fun d ρ1=>mk ρ1 fun k ρ2=>match k with
 | .int j=>match ixN ds.length j with
  | some q=>n (ds.set q d) ρ2
  | none=>False
 | _=>False
theorem sB {x:Str} {npos spos:Pos} (hN:X.N[i]? = some x) (he:QE X M.ow e ma) (hk:QE X M.ow b mb) (ho:M.ow[i]?≠some true:=by decide)
 (hv:Vis X.env.scope x:=by first | exact Or.inl rfl | exact Or.inr (Or.inl rfl) | exact Or.inr (Or.inr rfl)) (hd:(x == ("__debug__":Str))=false:=by decide) (hcd:(x == ("__classdict__":Str))=false:=by decide)
 (ha:∀ v,assign (.Subscript (.Name x npos) b spos) X.env v=(do
  let ov ← holding [v] (eval (.Name x npos) X.env)
  let iv ← holding [v,ov] (eval b X.env)
  standAt spos
  holding [v,ov,iv] (setItem ov iv v)
  release [v,ov,iv] []):=by intro _; rfl)
 (hs:swapsWithSole [.Subscript (.Name x npos) b spos] e pos.line X.env=pure false:=by rfl) (hw:swappedStores [.Subscript (.Name x npos) b spos] e X.env=pure none:=by rfl)
 (h1:(assignEach [.Subscript (.Name x npos) b spos] X.env).map (·.2)=[assign (.Subscript (.Name x npos) b spos) X.env]:=by rfl) :
 QFl X M i (.Assign [.Subscript (.Name x npos) b spos] e pos) (fSetI mb ma):=by
 obtain ⟨t,p,s⟩:=he; obtain ⟨t2,p2,s2⟩:=hk
 refine ⟨_,jV p (rK (eO hN hv hd hcd) p2 lv ha) hs hw h1,fun C G ρ σ H p ds n D hm hn f h k=>?_⟩
 obtain ⟨xs,⟨O,ro,fo⟩,rs⟩:=f.ex
 refine s (C.pin p (.lst xs)) G ρ σ H [] _ _ ⟨O,ro.frame fo⟩ h fun d ρ' v G' H' hq z kp r' pv=>?_
 refine ⟨.ref p,f.at',?_⟩
 refine s2 (C.pin p (.lst xs)) G' ρ' σ H' _ _ _ r' hq fun dk ρ2 jv G2 H2 hq2 z2 kp2 r2 pj=>?_
 obtain ⟨O2,r2⟩:=r2
 obtain ⟨r3,f3⟩:=ro.unframe fo r2
 cases dk with
 | int j =>
  dsimp only at hq2
  split at hq2
  ·rename_i pl e3
   refine ⟨p,xs,j,pl,rfl,aG pj,f3.hp,by rw [rs.length]; exact e3,?_⟩
   exact k _ ρ2 σ G2 _ hq2 (z.trans z2) ⟨⟨xs.set pl v,⟨O2,r3.off f3.gp f3.op f3.cp _,f3.gp,f3.op,f3.cp,av⟩,kP (Rep.mono z2 _ _ pv) pl (Reps.mono (z.trans z2) _ _ rs)⟩,kp_no (kp.trans kp2) ho f.no,f.at'⟩
  ·exact hq2.elim
 | _=>exact hq2.elim
end
theorem RO.forget {C:Ctx} {ow:List Bool} {G:Hp} {ρ:DSt} {σ:St} {H:Hp} {pd:List (D×V)} {O:Own} (h:RO C ow G ρ σ H pd O) (i:Nat):RO C ow G (ρ.set i none) σ H pd O:=by
 refine ⟨by simpa using h.len,h.gh,h.g0,h.gn,h.og,h.cok,h.fr,h.ft,h.al,h.mp,fun j d e=>?_,h.pn,h.np⟩
 have:i≠j:=fun z=>by
  subst z
  rw [List.getElem?_set] at e
  split at e
  ·split at e <;> cases e
  ·rename_i c; exact c rfl
 rw [List.getElem?_set_ne this] at e
 exact h.sl j d e
section
variable {C:Ctx} {ow:List Bool} {i:Nat} {G:Hp} {ρ:DSt} {σ:St} {H:Hp} {p:Addr} {ds:List D}
theorem Fl.borrow (f:Fl C ow i G ρ σ H p ds) (ho:ow[i]?≠some true) (hm:∀ v,C.mu[i]?≠some (some v)):∃ Gp,R C ow Gp (ρ.set i (some (.lst ds))) σ H [] ∧
 ∀ ρ2 G2 H2,aJ Gp G2→Kp ow (ρ.set i (some (.lst ds))) ρ2→R C ow G2 ρ2 σ H2 []→∃ G3,aJ G G3∧bY G2 G3∧Fl C ow i G3 (ρ2.set i none) σ H2 p ds:=by
 obtain ⟨xs,⟨O,ro,fo⟩,rs⟩:=f.ex
 obtain ⟨r1,z1⟩:=ro.catch fo
 have r2:=r1.setS ho hm (e_ av (Reps.mono z1 _ _ rs))
 have hil:i<ρ.length:=(List.getElem?_eq_some_iff.mp f.no).1
 have e : σ.set i (some (.ref p))=σ:=by
  apply List.ext_getElem?
  intro j
  by_cases c:i=j
  ·subst c; rw [f.at',List.getElem?_set_self (List.getElem?_eq_some_iff.mp f.at').1]
  ·rw [List.getElem?_set_ne c]
 rw [e] at r2
 refine ⟨_,⟨O,r2⟩,fun ρ2 G2 H2 s kp ⟨O2,r3⟩=>?_⟩
 have g2:G2 p=some (.lst xs):=s _ _ av
 have sG:aJ G (fC p G2):=fun a o e=>by
  have z:a≠p:=fun z=>by rw [z,fo.gp] at e; cases e
  unfold fC; rw [if_neg z]; exact s a o (by rw [aq z]; exact e)
 have ts:bY G2 (fC p G2):=fun a ys e=>by
  have z:a≠p:=fun z=>by rw [z,g2] at e; cases e
  unfold fC; rw [if_neg z]; exact e
 have l2 : ρ2[i]? = some (some (.lst ds)):=by rw [kp i ho,List.getElem?_set_self hil]
 have hil2:i<ρ2.length:=(List.getElem?_eq_some_iff.mp l2).1
 obtain ⟨r4,f4,_⟩:=ro.release fo (r3.forget i) s fun j d v hj e1 e2=>by
  have c:i≠j:=fun z=>by subst z; rw [List.getElem?_set_self hil2] at e1; cases e1
  rw [List.getElem?_set_ne c,kp j hj,List.getElem?_set_ne c] at e1
  obtain ⟨v',h1,h2⟩:=ro.sl j d e1
  rw [if_neg hj] at h2
  rw [h1] at e2; cases e2
  exact h2.mono sG
 exact ⟨_,sG,ts,⟨xs,⟨O2,r4,f4⟩,Reps.mono sG _ _ rs⟩,List.getElem?_set_self hil2,f.at'⟩
end
section
variable {X:Cx} {M:Md} {i:Nat} {pos pos':Pos} {e c:Expr} {ma:ME} {mt:MT} {m1 m2:MFl}
def fLet (i j:Nat) (ma:ME):MFl:=fun n ds ρ=>ma (ρ.set i (some (.lst ds))) fun d ρ'=>imm d=true∧n ds ((ρ'.set i none).set j (some d))
theorem vj {j:Nat} {y:Str} (hN:X.N.Nodup) (hj:X.N[j]? = some y) (hy:Loc X.env.scope y) (he:QE X M.ow e ma) (hij:i≠j:=by decide) (ho:M.ow[i]?≠some true:=by decide) (hu:M.mu[i]?≠some true:=by decide)
 (oj:M.ow[j]?≠some true:=by decide) (uj:M.mu[j]?≠some true:=by decide) (hs:swapsWith e (some (.Name y pos')) pos.line X.env=pure false:=by rfl) (hf:X.fn y=true∨X.env.scope.names.lookup y=some .local:=by first | exact .inl rfl | exact .inr rfl | assumption) :
 QFl X M i (.Assign [.Name y pos'] e pos) (fLet i j ma):=by
 obtain ⟨t,p,s⟩:=he
 refine ⟨_,gO hN hj hy p hs hf,fun C G ρ σ H p ds n D hm hn f h k=>?_⟩
 obtain ⟨Gp,rp,back⟩:=f.borrow ho (hm.no hu)
 refine s C Gp _ σ H [] _ _ rp h fun d ρ' v G' H' hq z kp r' pv=>?_
 obtain ⟨G3,z3,ts,f3⟩:=back ρ' G' H' z kp r'
 obtain ⟨xs,⟨O,ro,fo⟩,rs⟩:=f3.ex
 exact k ds _ _ G3 H' hq.2 z3 ⟨⟨xs,⟨O,ro.setS oj (hm.no uj) (pv.imms ts d v hq.1),fo⟩,rs⟩,by rw [List.getElem?_set_ne (Ne.symm hij)]; exact f3.no,by rw [List.getElem?_set_ne (Ne.symm hij)]; exact f3.at'⟩
end
section
variable {X:Cx} {M:Md} {a b e:Expr} {ma mb:ME} {pos:Pos}
end
section
variable {X:Cx} {M:Md} {a b:Expr} {ma mb:ME} {pos:Pos}
end
section
variable {X:Cx} {pos p1 p2 q1 q2:Pos} {n1 n2:Nat} {k1 k2 x y:Str} {i j:Nat} {ow:List Bool}
end
section
variable {X:Cx} {ow:List Bool} {a b e:Expr} {ma mb:ME} {pos p2:Pos} {lo hi:Option Expr} {ml mh:MO}
end
section
variable {X:Cx} {M:Md} {i:Nat} {st:Stmt} {m:MFl}
end
mutual
def pln:D→Bool
 | .tup ds=>plns ds
 | .lst ds=>plns ds
 | .scr _ _=>false
 | .ext _=>false
 | _=>true
def plns:List D→Bool
 | []=>true
 | d :: ds=>pln d&&plns ds
end
theorem cL {d:D} (h:pln d=true):d.isS=false:=by
 cases d <;> first | rfl | (rw [pln] at h; cases h)
theorem aX {d:D} {ds:List D}:plns (d :: ds)=true↔pln d=true∧plns ds=true:=by rw [plns,Bool.and_eq_true]
theorem gi:∀ {ds:List D} {i:Nat} {d:D},plns ds=true→ds[i]? = some d→pln d=true
 | [],i,d,_,e=>by simp at e
 | x :: ds,0,d,h,e=>by simp at e; subst e; exact (aX.mp h).1
 | x :: ds,i + 1,d,h,e=>gi (aX.mp h).2 (by simpa using e)
theorem fi:∀ {ds:List D},(∀ d∈ds,pln d=true)→plns ds=true
 | [],_=>rfl
 | d :: ds,h=>aX.mpr ⟨h d (by simp),fi fun x hx=>h x (by simp [hx])⟩
theorem ik:∀ {ds:List D} {d:D},plns ds=true→d∈ds→pln d=true
 | x :: ds,d,h,e=>by
  rcases List.mem_cons.mp e with rfl | e
  ·exact (aX.mp h).1
  ·exact ik (aX.mp h).2 e
theorem n0 (ns:List Int):plns (ns.map D.int)=true:=fi fun d h=>by
 obtain ⟨x,_,rfl⟩:=List.mem_map.mp h; rfl
theorem gH (ns:List Int):pln (aF ns)=true:=by unfold aF; rw [pln]; exact n0 ns
theorem iD (ps rs:List Int):pln (aw ps rs)=true:=by
 unfold aw; rw [pln,aX,aX]; exact ⟨gH _,gH _,rfl⟩
def aA (f:Nat→D→Bool):List D→Nat→Option Nat
 | [],_=>none
 | d :: ds,i=>if f i d=true then aA f ds (i + 1) else some i
theorem cQ {f:Nat→D→Bool} {ds:List D} {i:Nat} {d:D} (e:ds[i]? = some d) (k:Nat):aA f (ds.drop i) k=if f k d=true then aA f (ds.drop (i + 1)) (k + 1) else some k:=by
 have hl:i<ds.length:=(List.getElem?_eq_some_iff.mp e).1
 have:ds.drop i=d :: ds.drop (i + 1):=by
  rw [List.drop_eq_getElem_cons hl]
  have:=(List.getElem?_eq_some_iff.mp e).2
  rw [this]
 rw [this,aA]
theorem cN {f:Nat→D→Bool}:∀ {ds:List D} {k:Nat},(∀ (i:Nat) d,ds[i]? = some d→f (k + i) d=true)→aA f ds k=none
 | [],_,_=>rfl
 | d :: ds,k,h=>by
  rw [aA,if_pos (show f k d=true from h 0 d rfl)]
  exact cN fun i d' e=>by
   have:=h (i + 1) d' (by simpa using e)
   rw [show k + 1 + i=k + (i + 1) by omega]; exact this
def lH (i:Nat) (d:D):Bool:=btw 0 i d
def gX (_:Nat) (d:D):Bool:=btw 1 1000000 d
def cM (d:D):Option (Str×D):=if gz d=true then (match d with
 | .tup [.lst ps,.lst rs]=>(match aA lH ps 0 with
  | some i=>some ("parents",.int i)
  | none=>(match aA gX rs 0 with
   | some i=>some ("rooms",.int i)
   | none=>none))
 | _=>none) else some ("tree",.non)
theorem iT {d:D} (h:gz d=true):∃ ps rs,d = .tup [.lst ps,.lst rs]∧ps.length=rs.length∧1≤ps.length∧ps.length≤23:=by
 unfold gz at h
 split at h
 ·rename_i ps rs
  simp only [Bool.and_eq_true,decide_eq_true_eq] at h
  exact ⟨ps,rs,rfl,h.1,h.2.1,h.2.2⟩
 ·cases h
theorem il {d:D} (h:gz d=false):cM d=some (("tree":Str),D.non):=by unfold cM; rw [if_neg (by rw [h]; decide)]
theorem g9 {ps rs:List D} (h:gz (.tup [.lst ps,.lst rs])=true):cM (.tup [.lst ps,.lst rs])=(match aA lH ps 0 with
 | some i=>some ("parents",.int i)
 | none=>(match aA gX rs 0 with
  | some i=>some ("rooms",.int i)
  | none=>none)):=by unfold cM; rw [if_pos h]
theorem f9 {ps rs:List Int} (hT:Tree ps rs):cM (aw ps rs)=none:=by
 have h:=jO hT
 unfold aw aF at h ⊢
 rw [g9 h]
 rw [cN (f:=lH) (k:=0) fun i d e=>by
  obtain ⟨z,hz,rfl⟩:=gD e
  have:=hT.par i z hz
  rw [Nat.zero_add]; exact dC this.1 this.2]
 rw [cN (f:=gX) (k:=0) fun i d e=>by
  obtain ⟨z,hz,rfl⟩:=gD e
  have:=hT.room i z hz
  exact dC this.1 this.2]
theorem fq {n:Nat} (h:n<2 ^ 1000):g_ (.int (n:Int)):=by
 show (n:Int).natAbs.log2<1920
 rw [Int.natAbs_natCast]
 by_cases h0:n=0
 ·rw [h0]; decide
 ·exact Nat.lt_trans ((Nat.log2_lt h0).mpr h) (by decide)
theorem fc:g_ .non:=True.intro
theorem kr {x:Str} (h:x.length≤1000):g_ (.str x):=h
theorem fmt2 {a b:D} (ha:g_ a) (hb:g_ b):∀ d∈[a,b],g_ d:=fun d h=>by
 simp only [List.mem_cons,List.not_mem_nil,or_false] at h
 rcases h with rfl | rfl
 ·exact ha
 ·exact hb
theorem kd {a:D} (ha:g_ a):∀ d∈[a],g_ d:=fun d h=>by
 simp only [List.mem_cons,List.not_mem_nil,or_false] at h
 subst h; exact ha
def xt:SpD:=fun ds q=>∃ d,ds=[d]∧pln d=true∧q (.bl (gz d)) []
abbrev k8:List Str:=["part","number"]
def sL (c:Addr):SpX:=fun ds q qx=>∃ d,ds=[d]∧pln d=true∧(cM d=none→q .non [])∧∀ p n,cM d=some (p,n)→qx c k8 [.str p,n] []
def bK:Nat→D→Bool
 | _,.int _=>true
 | _,.bl _=>true
 | _,.non=>true
 | _,.str x=>(PyData.str x).canLay0
 | n + 1,.tup ds=>ds.all (bK n)
 | n + 1,.lst ds=>ds.all (bK n)
 | _,_=>false
theorem i6 {n:Nat} (ih:∀ d,bK n d=true→(toP d).canLay0=true∧(toP d).depth≤n + 1):∀ ds:List D,ds.all (bK n)=true→PyData.canLayAll0 (toPs ds)=true∧PyData.depthAll (toPs ds)≤n + 1
 | [],_=>by rw [toPs]; simp [PyData.canLayAll0,PyData.depthAll]
 | d :: ds,h=>by
  rw [List.all_cons,Bool.and_eq_true] at h
  have h1:=ih d h.1
  have h2:=i6 ih ds h.2
  rw [toPs]
  simp only [PyData.canLayAll0,PyData.depthAll,h1.1,h2.1,Bool.and_self,true_and]
  omega
theorem jT:∀ (n:Nat) (d:D),bK n d=true→(toP d).canLay0=true∧(toP d).depth≤n + 1
 | n,.int _,_=>by rw [toP]; simp [PyData.canLay0,PyData.depth]
 | n,.bl _,_=>by rw [toP]; simp [PyData.canLay0,PyData.depth]
 | n,.non,_=>by rw [toP]; simp [PyData.canLay0,PyData.depth]
 | n,.str x,h=>by rw [toP]; exact ⟨by cases n <;> exact h,by simp [PyData.depth]⟩
 | n + 1,.tup ds,h=>by
  have:=i6 (jT n) ds (by simpa [bK] using h)
  rw [toP]; simp only [PyData.canLay0,PyData.depth,this.1,true_and]; omega
 | n + 1,.lst ds,h=>by
  have:=i6 (jT n) ds (by simpa [bK] using h)
  rw [toP]; simp only [PyData.canLay0,PyData.depth,this.1,true_and]; omega
 | 0,.tup _,h=>by simp [bK] at h
 | 0,.lst _,h=>by simp [bK] at h
 | n,.dct,h=>by cases n <;> simp [bK] at h
 | n,.dic _ _,h=>by cases n <;> simp [bK] at h
 | n,.scr _ _,h=>by cases n <;> simp [bK] at h
 | n,.ext _,h=>by cases n <;> simp [bK] at h
theorem aZ {n:Nat} {d:D} (h:bK n d=true) (hn:n≤60):okD d=true:=by
 have:=jT n d h
 unfold okD SeqAt.shaped
 rw [this.1,Bool.true_and]
 exact decide_eq_true (by omega)
theorem iX {n:Nat} (ih:∀ d,bK n d=true→PyData.eqv (toP d) (toP d)=true):∀ ds:List D,ds.all (bK n)=true→PyData.eqvAll (toPs ds) (toPs ds)=true
 | [],_=>by rw [toPs]; simp [PyData.eqvAll]
 | d :: ds,h=>by
  rw [List.all_cons,Bool.and_eq_true] at h
  rw [toPs,PyData.eqvAll,ih d h.1,iX ih ds h.2]; rfl
theorem bq:∀ (n:Nat) (d:D),bK n d=true→eqD d d=true
 | n,.int _,_=>by unfold eqD; rw [toP,PyData.eqv]; simp
 | n,.bl _,_=>by unfold eqD; rw [toP,PyData.eqv]; simp
 | n,.non,_=>by unfold eqD; rw [toP,PyData.eqv]
 | n,.str _,_=>by unfold eqD; rw [toP,PyData.eqv]; simp
 | n + 1,.tup ds,h=>by unfold eqD; rw [toP,PyData.eqv]; exact iX (bq n) ds (by simpa [bK] using h)
 | n + 1,.lst ds,h=>by unfold eqD; rw [toP,PyData.eqv]; exact iX (bq n) ds (by simpa [bK] using h)
 | 0,.tup _,h=>by simp [bK] at h
 | 0,.lst _,h=>by simp [bK] at h
 | n,.dct,h=>by cases n <;> simp [bK] at h
 | n,.dic _ _,h=>by cases n <;> simp [bK] at h
 | n,.scr _ _,h=>by cases n <;> simp [bK] at h
 | n,.ext _,h=>by cases n <;> simp [bK] at h
theorem df {lo hi:Int} {d:D} (h:btw lo hi d=true):∃ i,d = .int i∧lo≤i∧i≤hi:=by
 cases d with
 | int i=>simp only [btw,Bool.and_eq_true,decide_eq_true_eq] at h; exact ⟨i,rfl,h.1,h.2⟩
 | _=>cases h
def neZ:D→D→Bool
 | .int i,.int j=>!decide (i=j)
 | _,_=>false
def fD (n:Nat) (a b:D):Bool:=btw 0 n a&&(btw 0 n b&&neZ a b)
theorem qp {ps:List Int} {a b:D} (h:fD ps.length a b=true):∃ i j,a = .int i∧b = .int j∧Ends2 ps i j:=by
 unfold fD at h
 rw [Bool.and_eq_true,Bool.and_eq_true] at h
 obtain ⟨i,rfl,i0,i1⟩:=df h.1
 obtain ⟨j,rfl,j0,j1⟩:=df h.2.1
 have:=h.2.2
 simp only [neZ,Bool.not_eq_true',decide_eq_false_iff_not] at this
 exact ⟨i,j,rfl,rfl,i0,i1,j0,j1,this⟩
theorem lx {ps:List Int} {i j:Int} (h:Ends2 ps i j):fD ps.length (.int i) (.int j)=true:=by
 unfold fD
 rw [dC h.a0 h.a1,dC h.b0 h.b1]
 simp [neZ,h.ne]
def tV:SpD:=fun ds q=>∃ ps rs a b,ds=[aw ps rs,a,b]∧pln a=true∧pln b=true∧q (.bl (fD ps.length a b)) []
def jf (n:Nat):D→Bool
 | .tup [a,b,s,w]=>fD n a b&&(btw 1 1000000 s&&btw 1 1000000000000 w)
 | _=>false
theorem sW {ps:List Int} {d:D} (h:jf ps.length d=true):∃ a,d=bv a∧AskOk ps a:=by
 unfold jf at h
 split at h
 ·rename_i a b s w
  rw [Bool.and_eq_true,Bool.and_eq_true] at h
  obtain ⟨i,j,rfl,rfl,hE⟩:=qp h.1
  obtain ⟨s',rfl,s0,s1⟩:=df h.2.1
  obtain ⟨w',rfl,w0,w1⟩:=df h.2.2
  exact ⟨⟨i,j,s',w'⟩,rfl,hE,s0,s1,w0,w1⟩
 ·cases h
theorem s8 {ps:List Int} {a:Ask} (h:AskOk ps a):jf ps.length (bv a)=true:=by
 show (fD ps.length (.int a.one) (.int a.other)&&(btw 1 1000000 (.int a.size)&&btw 1 1000000000000 (.int a.worth)))=true
 rw [lx h.ends,dC h.s0 h.s1,dC h.w0 h.w1]; rfl
def mD (n:Nat) (_:Nat) (d:D):Bool:=jf n d
def gb (n:Nat):D→Option D
 | .lst ds=>if ds.length≤30 then (aA (mD n) ds 0).map fun (i:Nat)=>D.int i else some .non
 | _=>some .non
theorem fR {ps:List Int} {as:List Ask} (h:AsksOk ps as):gb ps.length (aM as)=none:=by
 show (if (as.map bv).length≤30 then _ else _)=none
 rw [if_pos (by rw [List.length_map]; exact h.len),cN fun i d e=>?_]
 ·rfl
 ·obtain ⟨a,ha,rfl⟩:=jZ e
  exact s8 (h.ok a (List.mem_of_getElem? ha))
def qA:SpD:=fun ds q=>∃ ps rs d,ds=[aw ps rs,d]∧pln d=true∧q (.bl (jf ps.length d)) []
abbrev eA:List Str:=["number"]
def tj (cT cA:Addr):SpX:=fun ds q qx=>∃ t x,ds=[t,x]∧((∃ p n,pln t=true∧cM t=some (p,n)∧qx cT k8 [.str p,n] []) ∨
 ∃ ps rs,t=aw ps rs∧Tree ps rs∧pln x=true∧((∃ n,gb ps.length x=some n∧qx cA eA [n] [])∨(gb ps.length x=none∧q .non [])))
theorem gJ (as:List Ask):pln (aM as)=true:=by
 unfold aM; rw [pln]
 exact fi fun d h=>by obtain ⟨a,_,rfl⟩:=List.mem_map.mp h; rfl
theorem n5 {xs:List D} {k:Int} (h0 : 0≤k):gR xs none (some k)=xs.take k.toNat:=by
 have ek:k=((k.toNat:Nat):Int):=by omega
 unfold gR
 rw [HT.sIx_none,ek,HT.sIx_nat,List.drop_zero,Nat.sub_zero,Int.toNat_natCast]
 by_cases h:k.toNat≤xs.length
 ·rw [show min k.toNat xs.length=k.toNat by omega]
 ·rw [show min k.toNat xs.length=xs.length by omega,List.take_length,List.take_of_length_le (by omega)]
theorem oU {xs:List D} (h:plns xs=true) (k:Nat):plns (xs.take k)=true:=fi fun d hd=>ik h (List.mem_of_mem_take hd)
section
variable {X:Cx}
end
end L2
namespace L2
open PySem
end L2
namespace L2
open PySem PySem.Spec PyProof.Rows
section
variable {X:Cx}
end
section
variable {X:Cx} {M:Md} {e:Expr} {ma:ME} {pos:Pos}
end
section
variable {X:Cx} {M:Md} {i:Nat} {st:Stmt} {rest:List Stmt} {m1 m2:MFl} {me:MFe} {pos pos':Pos} {e:Expr} {ma:ME}
end
section
variable {X:Cx} {M:Md} {elt tg iter:Expr} {ifs:List Expr} {pos:Pos} {mi:MA} {mg:MG} {mt:MT} {me:ME} {scope:Scope} {cl:List (Str×Addr)} {rest:List Stmt} {mf:MFe}
end
section
variable {X:Cx} {ow:List Bool} {e:Expr} {ma:ME} {pos p2:Pos} {lo hi:Option Expr} {ml mh:MO}
end
end L2
namespace L2
open PySem
end L2
namespace L2
open PySem PySem.Spec PyProof.Rows
section
variable {X:Cx} {pins p:List (Addr×Obj)} {σ:St} {H:Hp} {s:Shared} {E:Value→Shared→Prop} {v:Value} {e:Addr} {cls:Value} {dx T:Option Addr}
variable {x:Str} {C D0:Addr} {bm bmD:List Value} {ini iniD:Option Value} {b0:Stmt} {suite:List Stmt} {np npos:Pos} {ts:TS} {D:Ends} {t:Addr}
end
section
variable {X:Cx} {ow:List Bool} {a b:Expr} {mex:MEX} {mb:ME} {pos:Pos}
end
end L2
namespace L2
open PySem
def frB:D→Bool
 | .tup [.int t,.int b]=>decide (1≤b)&&decide (bF t b=1)
 | _=>false
def prB:D→Bool
 | .tup [.int t,.int b]=>(decide (1≤b)&&decide (bF t b=1))&&decide (0≤t)
 | _=>false
def sdFrD:SpD:=fun ds q=>∃ d,ds=[d]∧pln d=true∧q (.bl (frB d)) []
def sdPrD:SpD:=fun ds q=>∃ d,ds=[d]∧pln d=true∧q (.bl (prB d)) []
def fPr (_:Nat) (d:D):Bool:=prB d
def bC (n:Nat):D→Option D
 | .lst ds=>(match aA fPr (ds.take n) 0 with
  | some i=>some (.int i)
  | none=>if ds.length=n then none else some (.int (min ds.length n:Nat)))
 | _=>some .non
def n6 (cT cP:Addr):SpX:=fun ds q qx=>∃ t x,ds=[t,x]∧((∃ p n,pln t=true∧cM t=some (p,n)∧qx cT k8 [.str p,n] []) ∨
 ∃ ps rs,t=aw ps rs∧Tree ps rs∧pln x=true∧(∀ ds,x = .lst ds→ds.length≤10000)∧((∃ n,bC ps.length x=some n∧qx cP eA [n] [])∨(bC ps.length x=none∧q .non [])))
end L2
namespace L2
open PySem PySem.Spec PyProof.Rows
theorem FnOk.calm {P:Program} {w:World} {K:PySem.W.Frag} {mg:Str→Option Value} {base:Heap} {k:Nat} {f:Addr} {fd:FuncData} {ps:List Str} {mu:List Bool} {fr:Bool} {sd:SpD} {sdx:SpX} (F:FnOk P w K mg base (CX1 P w) k f fd ps (cy mu fr sdx))
 (h:∀ ds q,sd ds q→sdx ds q fun _ _ _ _=>False):FnOk P w K mg base CX0 k f fd ps (bb mu fr sd):=by
 have key:∀ vs H Q E,bb mu fr sd vs H Q E→cy mu fr sdx vs H Q fun _ _ _=>False:=by
  rintro vs H Q E ⟨C,G,ds,q,h1,h2,h3,h4,h5,h6⟩
  exact ⟨C,G,ds,q,fun _ _ _ _=>False,h1,h2,h3,h ds q h4,h5,h6,fun _ _ _ _ _ _ _ _ z=>z.elim⟩
 refine ⟨fun vs H Q E q=>F.len vs H Q _ (key vs H Q E q),fun A outer s H args us vs Q E hr he hb hv hs=>?_⟩
 refine codeAny_mono (F.run A outer s H args us vs Q _ hr he hb hv (key vs H Q E hs)) fun r s' z=>?_
 cases r with
 | ok fl=>cases fl <;> exact z
 | error e =>
  obtain ⟨ea,H',cls,dx,T,_,_,_,_,_,_,_,_,z⟩:=z
  exact z.elim
section
variable {X:Cx} {pos p1 q1:Pos} {n1:Nat} {k1:Int} {x:Str} {i:Nat} {ow:List Bool}
end
section
variable {X:Cx} {ow:List Bool} {es:List Expr} {mr:MA} {pos:Pos}
end
end L2
namespace L2
open PySem
end L2
namespace L2
open PySem PySem.Spec PyProof.Rows
section
variable {X:Cx}
end
section
variable {X:Cx} {M:Md} {e e':Expr} {mr:MA} {pos:Pos}
end
end L2
namespace L2
open PySem
end L2
namespace L2
open PySem PySem.Spec PyProof.Rows
section
variable {X:Cx}
end
end L2
namespace L2
open PySem
end L2
namespace L2
open PySem PySem.Spec PyProof.Rows
section
variable {X:Cx}
variable {ow:List Bool} {e e2:Expr} {ma mb:ME}
end
end L2
namespace L2
open PySem
end L2
namespace L2
open PySem PySem.Spec PyProof.Rows
section
variable {X:Cx}
end
end L2
namespace L2
open PySem
end L2
namespace L2
open PySem PySem.Spec PyProof.Rows
section
variable {κ:Type} [DecidableEq κ]
end
section
variable {P:Program} {w:World} {H:Hp} {h:Heap} {a:Addr}
end
section
variable {X:Cx} {pins:List (Addr×Obj)} {σ:St} {H:Hp} {s:Shared} {a:Addr} {y v:V} {u r:Value} {o:Option V} {A:Around} {E:Value→Shared→Prop}
end
section
variable {X:Cx} {pins:List (Addr×Obj)} {σ:St} {H:Hp} {s:Shared} {a:Addr} {kvs:List (Key×V)} {k:Key} {u:Value} {A:Around} {E:Value→Shared→Prop}
end
section
variable {X:Cx} {o i e value:Expr} {pos pos' tpos:Pos} {td ty tv:TE}
end
section
variable {X:Cx} {pos:Pos}
end
section
variable {X:Cx} {pins:List (Addr×Obj)} {σ:St} {H:Hp} {s:Shared} {a:Addr} {y d:V} {u r:Value} {o:Option V} {A:Around} {E:Value→Shared→Prop}
end
section
variable {X:Cx} {o e f:Expr} {apos cpos:Pos} {td ty tx:TE}
end
section
variable {X:Cx} {pins:List (Addr×Obj)} {σ:St} {H:Hp} {s:Shared} {a:Addr} {kvs:List (Key×V)} {A:Around} {E:Value→Shared→Prop}
end
section
variable {X:Cx} {pins:List (Addr×Obj)} {σ:St} {H:Hp} {s:Shared} {a:Addr} {y:V} {u:Value} {A:Around} {E:Value→Shared→Prop}
end
section
variable {C:Ctx} {ow:List Bool} {G:Hp} {ρ:DSt} {σ:St} {H:Hp} {pd:List (D×V)} {O:Own}
end
section
variable {X:Cx} {M:Md} {ow:List Bool} {a b c e:Expr} {ma mb mc:ME} {pos:Pos}
end
section
variable {C:Ctx} {ow:List Bool} {G:Hp} {ρ:DSt} {σ:St} {H:Hp} {pd:List (D×V)} {O:Own}
end
section
variable {X:Cx} {ow:List Bool} {a b e:Expr} {pos:Pos} {ma mb:MN0}
end
section
variable {X:Cx} {M:Md} {ow:List Bool} {i:Nat} {a b e:Expr} {pos:Pos} {mp:MPt} {mz:MN0} {ma:ME}
end
section
variable {X:Cx} {M:Md} {i:Nat} {pos:Pos} {mg:MG} {m:MS}
end
end L2
namespace L2
open PySem
end L2
namespace L2
open PySem PySem.Spec PyProof.Rows
section
variable {X:Cx}
end
section
variable {X:Cx} {pins:List (Addr×Obj)} {σ:St} {H:Hp} {s:Shared}
end
section
variable {X:Cx} {ow:List Bool} {pos:Pos}
end
section
open AutoSeq1 (wpAny_loadPart')
open MeetsSeq MeetsSeq2 MeetsSeq3
end
section
variable {prog:Program} {w:World} {A:Around} {E:Value→Shared→Prop} {s:Shared}
end
section
variable {X:Cx}
end
section
variable {X:Cx} {ow:List Bool} {pos p1 p2 p3 p4:Pos} {j1 j2 j3 j4:Nat}
end
end L2
namespace L2
open PySem
end L2
namespace L2
open PySem PySem.Spec PyProof.Rows
section
variable {X:Cx} {ow:List Bool} {a b:Expr} {ma mb:DSt→(Int→Prop)→Prop} {pos:Pos}
end
section
variable {C:Ctx} {ow:List Bool} {G G':Hp} {ρ:DSt} {σ:St} {H H':Hp} {pd:List (D×V)} {O O':Own}
end
section
variable {X:Cx} {ow:List Bool} {tg iter:Expr} {ifs:List Expr} {pos pos':Pos} {mi:MA} {mg:MG} {scope:Scope} {cl:List (Str×Addr)}
end
section
variable {X:Cx}
variable {a b:Expr} {mr:MA} {pos:Pos}
end
section
variable {X:Cx} {tg:Expr}
variable {ow:List Bool} {a:Expr} {mr:MA} {pos:Pos}
end
section
variable {X:Cx}
open PySem.Builtin.Str (partsBetween occurrences)
variable {ow:List Bool} {e a b:Expr} {ma mb:ME}
end
section
variable {X:Cx} {tg:Expr}
variable {ow:List Bool} {e:Expr} {ma:ME}
end
end L2
namespace L2
open PySem PySem.Spec PyProof.Rows
section
variable {X:Cx}
end
end L2
namespace L2
open PySem
end L2
namespace L2
open PySem PySem.Spec PyProof.Rows
section
variable {prog:Program} {w:World} {A:Around} {E:Value→Shared→Prop} {s:Shared}
end
section
variable {X:Cx}
end
end L2
namespace L2
open PySem
def sdNo:SpD:=fun _ _=>False
theorem uB {P:Program} {w:World} {K:PySem.W.Frag} {mg:Str→Option Value} {base:Heap} {CX:CXT} {k:Nat} {f:Addr} {fd:FuncData} {ps:List Str} {mu:List Bool} {fr:Bool}:FnOk P w K mg base CX k f fd ps (bb mu fr sdNo) :=
 ⟨fun _ _ _ _ h=>by obtain ⟨_,_,_,_,_,_,_,h,_⟩:=h; exact h.elim,fun _ _ _ _ _ _ _ _ _ _ _ _ _ h=>by obtain ⟨_,_,_,_,_,_,_,h,_⟩:=h; exact h.elim⟩
end L2
namespace L2
open PySem PySem.Spec PyProof.Rows
section
variable {X:Cx} {ow:List Bool} {a b:Expr} {mex:MEX} {mb:ME} {pos:Pos}
end
section
variable {X:Cx} {pos p1 q1:Pos} {n1 n2:Nat} {k1 z:Int} {ow:List Bool}
end
section
variable {X:Cx} {ow:List Bool} {a b:Expr} {ma mb:ME} {pos:Pos}
end
section
variable {K:PySem.W.Frag} {mg:Str→Option Value} {n:Str} {st:Stmt} {ps:List Str} {f:Addr} {d:FuncData}
structure FT (K:PySem.W.Frag) (mg:Str→Option Value) (n:Str) (st:Stmt) (ps:List Str) (f:Addr) (d:FuncData):Prop where
 F:Fun K n n st f d
 b:cw K d ps []
 m:mg n=some (.ref f)
structure FH (K:PySem.W.Frag) (n:Str) (st:Stmt) (f:Addr) (d:FuncData):Prop where
 a:PySem.W.nsIn K mainGlobals n=some (some (.ref f))
 F:Fun K n n st f d
theorem aN {oc:Value} {od an:Option Addr} {osl:Array (Option Value)} {kV doc pm cdv ct:Value} (a:PySem.W.nsIn K mainGlobals n=some (some (.ref f))) (l:K.lookup f=some ⟨oc,od,.func (PySem.W.fnOf n n (eu st) (cf st) (ah st) .none kV doc pm an cdv ct),osl⟩)
 (c:PySem.W.codeIn K cdv n=true) (k:PySem.W.keepIn K (.ref f)=true):FH K n st f (PySem.W.fnOf n n (eu st) (cf st) (ah st) .none kV doc pm an cdv ct):=⟨a,iS l c k⟩
theorem FH.ft {h:Heap} (z:FH K n st f d) (X:K.In h) (G:h.Ns mainGlobals mg)
 (hb:∀ (kV doc pm:Value) (an:Option Addr) (cdv ct:Value) (us:List Value),us.length=ps.length→bindArgs (PySem.W.fnOf n n (eu st) (cf st) (ah st) .none kV doc pm an cdv ct) ⟨us,[]⟩=pure (ps.zip us)):FT K mg n st ps f d:=⟨z.F,z.F.binds hb,PySem.W.mg_of X G z.a⟩
theorem aI {N P:List Str} {sc:Scope} (a:sc.kind = .function:=by rfl) (b:sc.isCoroutine=false:=by rfl) (c:sc.isGenerator=false:=by rfl) (d:N.Nodup:=by decide +kernel) (e:N.take P.length=P:=by rfl)
 (g:∀ x∈P,sc.names.lookup x=some .local∨sc.names.lookup x=some .cell:=by decide +kernel) (h:∀ y∈sc.names,y.2≠.free:=by decide +kernel):FnScope N P sc:=⟨a,b,c,d,e,g,h⟩
end
section
variable {X:Cx} {ow:List Bool} {k j:Nat} {f:Addr} {fd:FuncData} {ps:List Str} {mu:List Bool} {sd:SpD} {sx:SpX} {x:Str} {st:Stmt} {ks:List AK} {e:Expr} {es:List Expr} {mr:MA} {pos p':Pos}
theorem aj (F:FnOk X.prog X.w X.K X.mg X.base CX0 k f fd ps (bb mu false sd)) (hr:Room j X.A) (t:FT X.K X.mg x st ps f fd) (ha:QAk X ow ks (e :: es) mr) (hj:k≤j:=by decide) (hg:Gl X x:=by rfl) (hmu:mu=ks.map AK.isM:=by rfl) (nd:(ax ks).Nodup:=by decide) (hw:∀ i∈ax ks,ow[i]? = some true:=by decide) (hdb:(x == ("__debug__":Str))=false:=by decide)
 (he:starEach (e :: es) X.env=(false,eval e X.env) :: starEach es X.env:=by rfl) (hpl:(backTo pos (starEach es X.env)).any (·.1)=false:=by rfl):QE X ow (.Call (.Name x p') (e :: es) [] pos) (m_ ks sd mr):=ul F (hr.mono hj) hg t.m t.F.kp t.b ha hmu nd hw hdb he hpl
theorem aQ (F:FnOk X.prog X.w X.K X.mg X.base CX0 k f fd ps (bb mu true sd)) (hr:Room j X.A) (t:FT X.K X.mg x st ps f fd) (ha:QAk X ow ks (e :: es) mr) (hj:k≤j:=by decide) (hg:Gl X x:=by rfl) (hmu:mu=ks.map AK.isM:=by rfl) (nd:(ax ks).Nodup:=by decide) (hw:∀ i∈ax ks,ow[i]? = some true:=by decide) (hdb:(x == ("__debug__":Str))=false:=by decide)
 (he:starEach (e :: es) X.env=(false,eval e X.env) :: starEach es X.env:=by rfl) (hpl:(backTo pos (starEach es X.env)).any (·.1)=false:=by rfl):QF X ow (.Call (.Name x p') (e :: es) [] pos) (m_ ks sd mr):=s_ F (hr.mono hj) hg t.m t.F.kp t.b ha hmu nd hw hdb he hpl
theorem bI (F:FnOk X.prog X.w X.K X.mg X.base (CX1 X.prog X.w) k f fd ps (cy mu false sx)) (hr:Room j X.A) (t:FT X.K X.mg x st ps f fd) (ha:QAk X.nox ow ks (e :: es) mr) (hj:k≤j:=by decide) (hg:Gl X x:=by rfl) (hex:X.ex=[]:=by rfl) (hmu:mu=ks.map AK.isM:=by rfl) (nd:(ax ks).Nodup:=by decide) (hw:∀ i∈ax ks,ow[i]? = some true:=by decide) (hdb:(x == ("__debug__":Str))=false:=by decide)
 (he:starEach (e :: es) X.env=(false,eval e X.env) :: starEach es X.env:=by rfl) (hpl:(backTo pos (starEach es X.env)).any (·.1)=false:=by rfl):QXE X ow (.Call (.Name x p') (e :: es) [] pos) (jX ks sx mr):=qY F (hr.mono hj) hg t.m t.F.kp t.b ha hex hmu nd hw hdb he hpl
theorem n9 (F:FnOk X.prog X.w X.K X.mg X.base (CX1 X.prog X.w) k f fd ps (cy mu true sx)) (hr:Room j X.A) (t:FT X.K X.mg x st ps f fd) (ha:QAk X.nox ow ks (e :: es) mr) (hj:k≤j:=by decide) (hg:Gl X x:=by rfl) (hex:X.ex=[]:=by rfl) (hmu:mu=ks.map AK.isM:=by rfl) (nd:(ax ks).Nodup:=by decide) (hw:∀ i∈ax ks,ow[i]? = some true:=by decide) (hdb:(x == ("__debug__":Str))=false:=by decide)
 (he:starEach (e :: es) X.env=(false,eval e X.env) :: starEach es X.env:=by rfl) (hpl:(backTo pos (starEach es X.env)).any (·.1)=false:=by rfl):QXF X ow (.Call (.Name x p') (e :: es) [] pos) (jX ks sx mr):=qU F (hr.mono hj) hg t.m t.F.kp t.b ha hex hmu nd hw hdb he hpl
end
section
variable {K:PySem.W.Frag} {C a N:Addr} {dd nd:Option Addr} {nm qn x:Str} {bs bm sub:List Value} {hd ab:Bool} {sn:List Str} {col:Option Bool} {k0 k1 k2 k3 k5 ini:Option Value} {no:Value} {es:Array DictEntry} {np:Nat} {nl:Array (Option Value)}
structure CF (K:PySem.W.Frag) (x:Str) (C:Addr) (bm:List Value) (N:Addr):Prop where
 e:PySem.W.nsIn K mainGlobals x=some (some (.ref C))
 l:∃ (dd:Option Addr) (nm qn:Str) (bs sub:List Value) (hd ab:Bool) (sn:List Str) (col:Option Bool) (k0 k1 k2 k3 k5:Option Value),K.lookup C=some ⟨.type "type",dd,.cls ⟨nm,bs,.ref C :: bm,N,qn,hd,sn,sub,ab,col,false⟩,#[k0,k1,k2,k3,some (.builtin "ValueError.__new__"),k5]⟩
 y:PySem.W.typeIn K (.ref C)=some (.type "type")
theorem jb (e:PySem.W.nsIn K mainGlobals x=some (some (.ref C))) (l:K.lookup C=some ⟨.type "type",dd,.cls ⟨nm,bs,.ref C :: bm,N,qn,hd,sn,sub,ab,col,false⟩,#[k0,k1,k2,k3,some (.builtin "ValueError.__new__"),k5]⟩) (y:PySem.W.typeIn K (.ref C)=some (.type "type")):CF K x C bm N:=⟨e,⟨_,_,_,_,_,_,_,_,_,_,_,_,_,_,l⟩,y⟩
theorem CF.xc (l:CF K x C bm N) (n:PySem.W.nsOkIn K N=true) (t:PySem.W.nsIn K N "__init__" = some ini) (r:PySem.W.tailIn K bmV bm=true):bX K C bm ini=true:=by
 obtain ⟨_,_,_,_,_,_,_,_,_,_,_,_,_,_,l⟩:=l.l
 exact xc_mk l n t r
theorem CF.tail (l:CF K x C bm N) (n:PySem.W.nsOkIn K N=true) (t:PySem.W.nsIn K N "__init__" = some none) (r:PySem.W.tailIn K bmV bm=true):PySem.W.tailIn K bmV (.ref C :: bm)=true:=by
 obtain ⟨_,_,_,_,_,_,_,_,_,_,_,_,_,_,l⟩:=l.l
 exact uk l n t r
structure SNo (K:PySem.W.Frag) (C D:Addr):Prop where
 s:PySem.W.subIn K (.ref C) (.ref D)=some false
 n:(Value.ref C == Value.ref D)=false
theorem CF.own {t:Value} {b:Bool} (l:CF K x C bm N) (s:PySem.W.subIn K t (.ref C)=some b) (ne:b=true∨(t == .ref C)=false):PySem.W.kitOne K t (.ref C)=some b:=by
 obtain ⟨_,_,_,_,_,_,_,_,_,_,_,_,_,_,l'⟩:=l.l
 exact tE l' l.y s ne
theorem CF.nope {D:Addr} (l:CF K x C bm N) (s:SNo K D C):PySem.W.kitOne K (.ref D) (.ref C)=some false:=l.own s.s (.inr s.n)
end
end L2
namespace L2
open PySem PySem.Spec PyProof.Rows PySem.W Att
section
variable {prog:Program} {w:World} {A:Around} {E:Value→Shared→Prop} {s:Shared}
variable {h₀:Heap} {L:Addr} {m:Str→Option Value} {news:List (Addr×Obj)}
end
structure TabB (base:Heap) (mg:Str→Option Value) (c P:Addr) (q:Str):Prop where
 tm:TMk base P q
 code:CodeHd base c P
 blt:base.BuiltinsAt mg P
section
variable {X:Cx} {pins:List (Addr×Obj)} {σ:St} {H:Hp} {s:Shared} {args:Arguments} {body:Expr} {scope:Scope} {pos:Pos} {c P:Addr} {clos:List (Str×Addr)}
end
section
variable {prog:Program} {w:World} {A:Around} {s:Shared} {X:Cx} {args:Arguments} {scope:Scope} {clos:List (Str×Addr)} {cv ctv:Value} {f cc p:Addr} {x y:Str} {p1 p2 p3 p4:Pos}
end
section
variable {X:Cx} {pins:List (Addr×Obj)} {σ:St} {H:Hp} {s:Shared} {args:Arguments} {scope:Scope} {clos:List (Str×Addr)} {cv ctv:Value} {f cc p r:Addr} {x y:Str} {p1 p2 p3 p4:Pos} {n:Nat} {ns:List Int} {t u v:Tok} {Q:Value→Shared→Prop}
end
section
variable {X:Cx} {e:Expr} {te:TE} {x y:Str} {j:Nat} {c P:Addr} {args:Arguments} {scope:Scope} {p1 p2 p3 p4 q1 q2 q3 lp kp pos:Pos}
end
end L2
namespace L2
open PySem PySem.Spec PyProof.Rows PySem.W
section
variable {C:Ctx} {ow:List Bool} {G:Hp} {ρ:DSt} {σ:St} {H H2:Hp} {pd:List (D×V)} {O:Own}
end
section
variable {X:Cx} {ow:List Bool} {e:Expr} {me:ME} {x y:Str} {j:Nat} {c P:Addr} {args:Arguments} {scope:Scope} {p1 p2 p3 p4 q1 q2 q3 lp kp pos:Pos} {k:Nat}
end
def nu (H:Hp):Prop:=∀ b,H b=none∨(∃ o xs,H b=some (.frz o (.lst xs)))∨∃ ps q,H b=some (.tbl ps q)
def lB (H:Hp):Hp:=fun a=>match H a with
 | some (.tbl _ _)=>none
 | o=>o
theorem tu {H:Hp} {a:Addr} {o:HO} (h:H a=some o) (n:NT o):lB H a=some o:=by
 unfold lB; rw [h]
 cases o <;> first | rfl | exact absurd rfl (n _ _)
theorem tM {H:Hp} {a:Addr} {o:HO} (h:lB H a=some o):H a=some o:=by
 unfold lB at h
 split at h
 ·cases h
 ·exact h
def kJ (K:PySem.W.Frag):Sp:=fun vs H Q _=>∃ (a:Addr) (ns:List Int),vs=[.ref a]∧nu H∧SqL K H a (ns.map V.int)∧ns.length≤63∧∀ H',Q (.bl true) H'
theorem om {K:PySem.W.Frag} {vs:List V} {H:Hp} {Q:VK} {E:XK} (h:kJ K vs H Q E):bb [false] false (q9 K) vs H Q E:=by
 obtain ⟨a,ns,rfl,hO,hS,hl,hq⟩:=h
 have main:∀ φ:Addr→Prop,nP K φ ns→Rep (lB H) (.scr φ ns) (.ref a)→bb [false] false (q9 K) [.ref a] H Q E:=fun φ hφ r=>by
  refine ⟨⟨lB H,H,fun _=>none,[none],0⟩,lB H,[.scr φ ns],fun d _=>d = .bl true,rfl,rfl,⟨fun _=>none,rfl,fun _ _ e=>tM e,aJ.refl _,fun _ _ e=>.inl e,fun a l e=>by (first | cases e),fun a l π e=>by (first | cases e),fun _ _ e _ _=>e,(fun a ps q e=>by unfold lB; rw [e]),fun _ e=>e,fun i v e=>?_,?_,trivial,Nat.le_refl _⟩,⟨φ,ns,rfl,hφ,hl,rfl⟩,rfl,?_⟩
  ·cases i with
   | zero=>simp at e
   | succ i=>simp at e
  ·intro i d e
   cases i with
   | zero=>simp at e; subst e; exact ⟨_,rfl,by simpa using r⟩
   | succ i=>simp at e
  ·intro d ρ' σ' v G' H' hd _ _ hr
   subst hd
   unfold Ret at hr
   rw [if_neg (by decide)] at hr
   rw [cH hr.2]
   exact hq H'
 rcases hS with (h1 | ⟨o,h1⟩) | h1
 ·rcases hO a with z | ⟨o,xs,z⟩ | ⟨ps,q,z⟩ <;> (rw [h1] at z; cases z)
 ·exact main (fun _=>False) (fun _ _ z=>z.elim) (by rw [Rep]; exact ⟨a,rfl,.inl ⟨o,tu h1 fun _ _ z=>by cases z⟩⟩)
 ·exact main (fun b=>b=a) (fun b H' z=>by subst z; exact .inr h1) (by rw [Rep]; exact ⟨a,rfl,.inr rfl⟩)
theorem oW {P:Program} {w:World} {K:PySem.W.Frag} {mg mb:Str→Option Value} {CX:CXT} {k:Nat} {fa a c Pt:Addr} {tq:Str} {fd:FuncData} {x:Str} {sp:Sp} {s₁:Shared} {vs:List Value} {ns:List Int}
 (KX:K.In s₁.heap) (hns:s₁.heap.Ns mainGlobals mg) (hb:s₁.heap.Ns builtinsNs mb) (hbb:∀ x:Str,x ≠ "__name__" → mb x=bootBuiltins x) (hlim:s₁.heap.NoLimit) (hg:s₁.gens = #[])
 (ha:s₁.heap.get? a=some { cls:=.type "list",data:=.seq vs.toArray }) (hi:IntsAre vs ns) (hl:ns.length≤sizeLine) (hr:Room k callerA)
 (hT:CodeHd s₁.heap c Pt) (hPt:s₁.heap.get? Pt=some (tabObj #[])) (hblt:s₁.heap.BuiltinsAt mg Pt) (hKP:K.lookup Pt=none)
 (F:∀ base:Heap,K.In base→base.Ns mainGlobals mg→TabB base mg c Pt tq→FnOk P w K mg base CX k fa fd [x] sp) (hbind:∀ (s:Shared) (u:Value),BindsTo s fd ⟨[u],[]⟩ [(x,u)])
 (hsp:∀ H:Hp,nu H→SqL K H a (ns.map V.int)→sp [.ref a] H (fun v _=>v = .bl true) fun _ _ _=>False)
 (hCX:∀ H e s',CX [] H s₁ (fun _ _ _=>False) e s'→False) :
 codeAny (model P w) callerA (.call (.ref fa) ⟨[.ref a],[]⟩) (fun r s'=>r = .ok (.ret (.bool true))∧OldK s₁.heap s'.heap∧s'.os=s₁.os∧AllBare s'.gens) s₁:=by
 have rv:=gN hi
 have lenV:=hi.length
 have hne:Pt≠a:=fun z=>by rw [z,ha] at hPt; cases hPt
 have core:∀ H:Hp,nu H→SqL K H a (ns.map V.int)→HOk P w H s₁.heap→H Pt=some (.tbl #[] tq)→(∀ b,H b≠none→b=a∨b=Pt)→(H a≠none→K.lookup a=none) →
  codeAny (model P w) callerA (.call (.ref fa) ⟨[.ref a],[]⟩) (fun r s'=>r = .ok (.ret (.bool true))∧OldK s₁.heap s'.heap∧s'.os=s₁.os∧AllBare s'.gens) s₁:=by
  intro H hO hS hok hP hA hK
  have base_of:∀ {b:Addr} {o:Obj},s₁.heap.get? b=some o→H b=none→(dZ s₁.heap H).get? b=some o:=fun e n=>pF e n
  have noA:∀ {b:Addr} {o:Obj},s₁.heap.get? b=some o→(∀ xs n,o.data≠.seq xs n)→o.cls≠.none∨(∀ xs,o.data≠.fields xs)→H b=none:=fun {b o} e d1 d2=>by
   cases q:H b with
   | none=>rfl
   | some u =>
    rcases hA b (by rw [q]; simp) with z | z
    ·rw [z,ha] at e; cases e; exact absurd rfl (d1 _ _)
    ·rw [z,hPt] at e; cases e
     rcases d2 with d2 | d2
     ·exact absurd rfl d2
     ·exact absurd rfl (d2 _)
  have nsK:∀ {b:Addr} {m:Str→Option Value},s₁.heap.Ns b m→(dZ s₁.heap H).Ns b m:=fun {b m} ⟨o,es,ep,e,d,r⟩=>⟨o,es,ep,base_of e (noA e (fun _ _ z=>by rw [d] at z; cases z) (.inr fun _ z=>by rw [d] at z; cases z)),d,r⟩
  have hKb:K.In (dZ s₁.heap H):=fun b o e=>base_of (KX b o e) (by
   cases q:H b with
   | none=>rfl
   | some u =>
    rcases hA b (by rw [q]; simp) with z | z
    ·subst z; rw [hK (by rw [q]; simp)] at e; cases e
    ·rw [z,hKP] at e; cases e)
  have hM:Mod K mg (dZ s₁.heap H):=⟨hKb,nsK hns,⟨mb,nsK hb,hbb⟩,let ⟨mc,h1,h2⟩:=hlim; ⟨mc,nsK h1,h2⟩⟩
  have e0:Env0 P w K mg (dZ s₁.heap H) callerA [] s₁ H:=⟨rfl,hM,fun b o e=>tW e,Nat.le_of_eq (fk _ _),trivial,fun b hb=>absurd (show b∈([]:List Addr) from hb) (by simp),hok,.of_eq hg,TbM.hid⟩
  have tab:TabB (dZ s₁.heap H) mg c Pt tq:=by
   refine ⟨TMk.hid (Heap.lt_size hPt) hP,?_,?_⟩
   ·obtain ⟨o,vs,file,tf,flags,tg,inF,text,tt,e,ec,ed,r⟩:=hT
    exact ⟨o,vs,file,tf,flags,tg,inF,text,tt,base_of e (noA e (fun _ _ z=>by rw [ed] at z; cases z) (.inl (by rw [ec]; intro z; cases z))),ec,ed,r⟩
   ·obtain ⟨bm,o,b1,b2,b3,b4,b5,b6,b7,b8⟩:=hblt
    exact ⟨bm,o,b1,b2,b3,b4,base_of b5 (noA b5 (fun _ _ z=>by rw [b8] at z; cases z) (.inl (by rw [b6]; intro z; cases z))),b6,b7,b8⟩
  refine codeAny_mono ((F _ hKb (nsK hns) tab).run callerA [] s₁ H ⟨[.ref a],[]⟩ [.ref a] [.ref a] _ _ hr e0 (hbind s₁ (.ref a)) (.cons rfl .nil) (hsp H hO hS)) fun r s' h=>?_
  cases r with
  | error e=>exact (hCX H e s' h).elim
  | ok fl =>
   cases fl with
   | next=>exact False.elim h
   | brk=>exact False.elim h
   | cont=>exact False.elim h
   | ret u =>
    obtain ⟨v,H',os,bare,un,hok',r',q⟩:=h
    have q':v = .bl true:=q
    subst q'
    obtain rfl:u=Value.bool true:=r'
    refine ⟨rfl,⟨fun b o e=>?_,fun b o e=>un.there b o e (by simp)⟩,os,bare⟩
    cases q:H b with
    | none=>exact .inl (un.keep b o e q (by intro z; exact absurd (show b∈([]:List Addr) from z) (by simp)) (by simp))
    | some u =>
     by_cases zP:b=Pt
     ·subst zP
      obtain ⟨more,z2⟩:=un.tbls b _ _ hP
      obtain ⟨e2,_⟩:=hok' b _ z2
      rw [hPt] at e; cases e
      exact .inr (.inl ⟨(hT.tab hPt).isCodeTable,rfl,#[],more,rfl,e2⟩)
     ·rcases hO b with z | ⟨ob,xs,z⟩ | ⟨ps,q2,z⟩
      ·rw [q] at z; cases z
      ·have z2:=un.frzs b ob _ z
       obtain ⟨e1,_⟩:=hok b _ z
       obtain ⟨e2,_⟩:=hok' b _ z2
       rw [e] at e1; cases e1
       exact .inl e2
      ·rcases hA b (by rw [q]; simp) with y | y
       ·subst y
        obtain ⟨e1,_⟩:=hok b _ z
        rw [ha] at e1; cases e1
       ·exact absurd y zP
 have tok:∀ {H:Hp},TbV H #[] tq:=⟨trivial,fun pos cv e=>by cases e⟩
 cases hk:K.lookup a with
 | some o =>
  have e:=KX a o hk
  rw [ha] at e
  cases e
  refine core (fun b=>if b=Pt then some (.tbl #[] tq) else none) (fun b=>?_) (.inr ⟨_,vs.toArray,_,hk,rfl,rfl,rfl,by rw [List.size_toArray,lenV]; exact hl,by simpa using rv⟩) (fun b u z=>?_) (if_pos rfl) (fun b z=>?_) fun z=>absurd (if_neg (Ne.symm hne)) z
  ·by_cases hb:b=Pt
   ·exact .inr (.inr ⟨_,_,if_pos hb⟩)
   ·exact .inl (if_neg hb)
  ·by_cases hb:b=Pt
   ·have z':=(if_pos hb).symm.trans z
    cases z'
    subst hb
    exact ⟨hPt,tok⟩
   ·have z':=(if_neg hb).symm.trans z
    cases z'
  ·by_cases hb:b=Pt
   ·exact .inr hb
   ·exact absurd (if_neg hb) z
 | none =>
  obtain ⟨H,hH⟩:∃ H:Hp,H=fun b=>if b=Pt then some (.tbl #[] tq) else if b=a then some (.frz { cls:=.type "list",data:=.seq vs.toArray } (.lst (ns.map V.int))) else none:=⟨_,rfl⟩
  have h1:H Pt=some (.tbl #[] tq):=by rw [hH]; exact if_pos rfl
  have h2:H a=some (.frz { cls:=.type "list",data:=.seq vs.toArray } (.lst (ns.map V.int))):=by rw [hH]; show (if a=Pt then _ else _)=_; rw [if_neg (Ne.symm hne),if_pos rfl]
  have h3:∀ b,b≠Pt→b≠a→H b=none:=fun b z1 z2=>by rw [hH]; show (if b=Pt then _ else _)=_; rw [if_neg z1,if_neg z2]
  refine core H (fun b=>?_) (.inl (.inr ⟨{ cls:=.type "list",data:=.seq vs.toArray },h2⟩)) (fun b u z=>?_) h1 (fun b z=>?_) fun _=>hk
  ·by_cases hb:b=Pt
   ·rw [hb]; exact .inr (.inr ⟨_,_,h1⟩)
   ·by_cases hb2:b=a
    ·rw [hb2]; exact .inr (.inl ⟨_,_,h2⟩)
    ·exact .inl (h3 b hb hb2)
  ·by_cases hb:b=Pt
   ·subst hb; rw [h1] at z; cases z; exact ⟨hPt,tok⟩
   ·by_cases hb2:b=a
    ·subst hb2; rw [h2] at z; cases z
     exact ⟨ha,by rw [List.length_map]; exact hl,vs,_,rv,ha⟩
    ·rw [h3 b hb hb2] at z; cases z
  ·by_cases hb:b=Pt
   ·exact .inr hb
   ·by_cases hb2:b=a
    ·exact .inl hb2
    ·exact absurd (h3 b hb hb2) z
theorem qr {l:PySem.W.OpenLaw} {n k:Nat} {q:Program} {loose:List Str} {XP:(Str→Option Value)→Heap→Prop} {YP:World→Heap→Prop} {d:DefRec} {K:Params→PySem.W.Frag} {sp:World→Sp} {x:Str} {c Pt:Addr} {tq:Str}
 (hn:l.most=some n) (hn2:n≤sizeLine) (hdf:d.params.defaults=[]) (hr:Room k callerA)
 (hY:∀ (w:World) (h:Heap),YP w h→(K w.params).In h∧h.get? Pt=some (tabObj #[]))
 (hcd0:∀ w:World,codeHdIn (K w.params) c Pt=true) (hKP:∀ w:World,(K w.params).lookup Pt=none)
 (F:∀ (w:World) (mg:Str→Option Value) (fa:Addr) (h:Heap),(K w.params).In h→h.Ns mainGlobals mg→mg d.name=some (.ref fa) →
  ∃ fd:FuncData,(∀ (s:Shared) (u:Value),BindsTo s fd ⟨[u],[]⟩ [(x,u)]) ∧
   ∀ base:Heap,(K w.params).In base→base.Ns mainGlobals mg→TabB base mg c Pt tq→FnOk l.prog w (K w.params) mg base CX0 k fa fd [x] (sp w))
 (hsp:∀ (w:World) (H:Hp) (a:Addr) (ns:List Int),ns.length≤n→nu H→SqL (K w.params) H a (ns.map V.int)→sp w [.ref a] H (fun v _=>v = .bl true) fun _ _ _=>False)
 (hCX:∀ (H:Hp) (s:Shared) (e:Value) (s':Shared),CX0 [] H s (fun _ _ _=>False) e s'→False) :
 PySem.W.WalkO q loose XP YP l.row.toRowW d [] (fun f vs=>PySem.call f vs):=by
 refine Att.attach_call hn hdf fun w s₀ s₁ mg mb fa o pm cd doc a vs ns G Y ho hd hcd hmg hobj hints hlen hg=>?_
 obtain ⟨KX,t2⟩:=hY w _ Y
 obtain ⟨fd,hb,hF⟩:=F w mg fa _ KX G.T.g hmg
 have t1:=codeHd_of_K KX (hcd0 w)
 have hblt:s₁.heap.BuiltinsAt mg Pt:=by
  obtain ⟨bm,ob,b1,b2,b3,b4,b5,b6⟩:=G.T.bmain
  refine ⟨bm,ob,b1,b2,fun z=>?_,fun z=>?_,b3,b4,b5,b6⟩
  ·obtain ⟨o,es,ep,e,hd,_⟩:=G.T.g
   rw [z,e] at b3; cases b3; rw [hd] at b6; cases b6
  ·rw [z,t2] at b3; cases b3; cases b4
 exact oW KX G.T.g G.T.b G.T.builtins G.T.nolimit hg hobj hints (Nat.le_trans hlen hn2) hr t1 t2 hblt (hKP w) hF hb (fun H hO hS=>hsp w H a ns hlen hO hS) fun H e s'=>hCX H s₁ e s'
end L2
namespace L2
open PySem
def DvM (r:Rat) (M:Nat):Prop:=∃ k:Int,r * ((M:Int):Rat)=(k:Rat)
theorem DvM.add {r s:Rat} {M:Nat}:DvM r M→DvM s M→DvM (r + s) M
 | ⟨k,h⟩,⟨l,g⟩=>⟨k + l,by rw [Rat.add_mul,h,g,Rat.intCast_add]⟩
theorem DvM.sub {r s:Rat} {M:Nat}:DvM r M→DvM s M→DvM (r - s) M
 | ⟨k,h⟩,⟨l,g⟩=>⟨k - l,by rw [Rat.sub_eq_add_neg,Rat.add_mul,Rat.neg_mul,h,g,Rat.intCast_sub,Rat.sub_eq_add_neg]⟩
theorem DvM.mulI {r:Rat} {M:Nat} (i:Int):DvM r M→DvM ((i:Rat) * r) M
 | ⟨k,h⟩=>⟨i * k,by rw [Rat.mul_assoc,h,Rat.intCast_mul]⟩
theorem DvM.int (i:Int) (M:Nat):DvM (i:Rat) M:=⟨i * M,by rw [Rat.intCast_mul]⟩
theorem DvM.zero (M:Nat):DvM 0 M:=⟨0,by rw [Rat.zero_mul]; rfl⟩
theorem DvM.up {r:Rat} {M:Nat} (n:Nat):DvM r M→DvM r (M * n)
 | ⟨k,h⟩=>⟨k * n,by rw [Int.natCast_mul,Rat.intCast_mul,← Rat.mul_assoc,h,Rat.intCast_mul]⟩
theorem DvM.div {r:Rat} {M n:Nat} (hn : 0<n):DvM r M→DvM (r / ((n:Int):Rat)) (M * n)
 | ⟨k,h⟩=>⟨k,by
  have hz:((n:Int):Rat)≠0:=fun z=>by have:=Rat.intCast_eq_zero_iff.mp z; omega
  rw [Int.natCast_mul,Rat.intCast_mul,← h]
  generalize ((n:Int):Rat)=x at hz
  grind⟩
theorem DvM.sum {M:Nat}:∀ {rs:List Rat},(∀ r∈rs,DvM r M)→DvM rs.sum M
 | [],_=>DvM.zero M
 | r :: rs,h=>by rw [List.sum_cons]; exact (h r (.head _)).add (DvM.sum fun x hx=>h x (.tail _ hx))
theorem DvM.den {r:Rat} {M:Nat} (M0 : 0<M):DvM r M→r.den∣M
 | ⟨k,h⟩=>by
  have hz:((M:Int):Rat)≠0:=fun z=>by have:=Rat.intCast_eq_zero_iff.mp z; omega
  have e:r=Rat.divInt k M:=by
   rw [Rat.divInt_eq_div,← h]
   generalize ((M:Int):Rat)=x at hz
   grind
  rw [e,Rat.den_divInt,if_neg (by omega),Int.natAbs_natCast]
  refine Nat.div_dvd_of_dvd ?_
  have:=Int.gcd_dvd_left (M:Int) k
  exact Int.natCast_dvd_natCast.mp this
theorem fF {r:Rat} {M b m x:Nat} (h0 : 0≤r) (h1:r≤((b:Int):Rat)) (h:DvM r M) (M0 : 0<M) (hM:M<2 ^ m) (hb:b≤2 ^ x):Bt r (m + x):=by
 have hd:=Nat.le_of_dvd M0 (h.den M0)
 have hn:=rE h0
 have h2:=(Rat.le_iff r ((b:Int):Rat)).mp h1
 rw [Rat.num_intCast,Rat.den_intCast] at h2
 have h3:r.num.natAbs≤b * r.den:=by
  have:r.num≤((b * r.den:Nat):Int):=by rw [Int.natCast_mul]; omega
  omega
 have hx : 0<2 ^ x:=Nat.pow_pos (by decide)
 refine ⟨?_,?_⟩
 ·have h4:b * r.den≤2 ^ x * r.den:=Nat.mul_le_mul_right _ hb
  have h5 : 2 ^ x * r.den<2 ^ x * 2 ^ m:=Nat.mul_lt_mul_of_pos_left (by omega) hx
  rw [Nat.pow_add,Nat.mul_comm (2 ^ m)]
  omega
 ·rw [Nat.pow_add]
  have : 2 ^ m≤2 ^ m * 2 ^ x:=Nat.le_mul_of_pos_right _ hx
  omega
structure PrM (ps:List Int) (prs:List Rat) (M b:Nat):Prop where
 len:prs.length=ps.length
 ok:∀ r∈prs,0≤r∧r≤((b:Int):Rat)∧DvM r M
theorem PrM.zero (ps:List Int) (M b:Nat):PrM ps (List.replicate ps.length 0) M b:=⟨List.length_replicate,fun r hr=>by
 rw [List.eq_of_mem_replicate hr]
 exact ⟨by decide,Rat.intCast_nonneg.mpr (by omega),DvM.zero M⟩⟩
theorem fK {b:Rat} (hb : 0≤b):∀ {rs:List Rat},(∀ r∈rs,0≤r∧r≤b)→0≤rs.sum∧rs.sum≤(rs.length:Rat) * b
 | [],_=>by rw [List.sum_nil,List.length_nil]; exact ⟨by decide,by rw [show ((0:Nat):Rat)=0 from rfl,Rat.zero_mul]; decide⟩
 | r :: rs,h=>by
  have ih:=fK hb (rs:=rs) fun x hx=>h x (.tail _ hx)
  have h0:=h r (.head _)
  rw [List.sum_cons,List.length_cons]
  have e:((rs.length + 1:Nat):Rat)=(rs.length:Rat) + 1:=by rw [Rat.natCast_add]; rfl
  rw [e,Rat.add_mul,Rat.one_mul]
  constructor <;> grind
theorem rT {ps rs:List Int} {prs:List Rat} {a:Ask} {M b:Nat} (hT:Tree ps rs) (he:Ends2 ps a.one a.other) (hp:PrM ps prs M b):(∀ r∈(bn ps a).map (fun t=>prs.getD (t - 1).toNat 0),r∈prs)∧0≤dA ps a prs∧dA ps a prs≤(((46 * b:Nat):Int):Rat)∧DvM (dA ps a prs) M:=by
 have hm:∀ r∈(bn ps a).map (fun t=>prs.getD (t - 1).toNat 0),r∈prs:=fun r hr=>by
  obtain ⟨t,ht,rfl⟩:=List.mem_map.mp hr
  have:=ic hT he ht
  exact dR (by rw [hp.len]; omega)
 have hb:(0:Rat)≤((b:Int):Rat):=Rat.intCast_nonneg.mpr (by omega)
 have h1:=fK hb fun r hr=>⟨(hp.ok r (hm r hr)).1,(hp.ok r (hm r hr)).2.1⟩
 refine ⟨hm,h1.1,?_,DvM.sum fun r hr=>(hp.ok r (hm r hr)).2.2⟩
 refine Rat.le_trans h1.2 ?_
 have hl:(bn ps a).length≤46:=gB hT he
 rw [List.length_map,Int.natCast_mul,Rat.intCast_mul]
 have hl':((bn ps a).length:Rat)≤((46:Nat):Rat):=Rat.natCast_le_natCast.mpr hl
 exact Rat.mul_le_mul_of_nonneg_right hl' hb
theorem tD {r s:Rat} (h:r≤s) (hs : 0≤s) : 0≤iA r∧iA r≤s:=by
 unfold iA; split
 ·exact ⟨Rat.le_of_lt (by assumption),h⟩
 ·exact ⟨by decide,hs⟩
theorem ie {ps rs:List Int} {prs:List Rat} {a:Ask} {w:Int} {M b:Nat} (hT:Tree ps rs) (ha:AskOk ps a) (hw : 0≤w) (hp:PrM ps prs M b) : 0≤eh ps a w prs∧eh ps a w prs≤(((1000000000000:Nat):Int):Rat)∧DvM (eh ps a w prs) M:=by
 obtain ⟨_,h0,h1,h2⟩:=rT hT ha.ends hp
 have hw':(0:Rat)≤(w:Rat):=Rat.intCast_nonneg.mpr hw
 have hwp:(0:Rat)≤(w:Rat) * dA ps a prs:=Rat.mul_nonneg hw' h0
 have hwo:(a.worth:Rat)≤(((1000000000000:Nat):Int):Rat):=Rat.intCast_le_intCast.mpr (by have:=ha.w1; omega)
 have hb:=tD (r:=(a.worth:Rat) - (w:Rat) * dA ps a prs) (s:=(((1000000000000:Nat):Int):Rat)) (by grind) (by decide)
 refine ⟨hb.1,hb.2,?_⟩
 show DvM (iA _) M
 unfold iA
 split
 ·exact (DvM.int a.worth M).sub (h2.mulI w)
 ·exact DvM.zero M
def qb:SpD:=fun ds q=>∃ ps rs a w prs,∃ M b:Nat,ds=[aw ps rs,bv a,.int w,dQs prs]∧Tree ps rs∧AskOk ps a∧0≤w∧w≤1000000∧PrM ps prs M b∧0<M∧M<2 ^ 400∧b≤2 ^ 60∧q (dQ (eh ps a w prs)) []
theorem vD {r:Rat} {b:Rat} {p:Int} (h0 : 0≤r) (h1:r≤b) (hp : 1≤p) : 0≤r / (p:Rat)∧r / (p:Rat)≤b:=by
 have hq:(1:Rat)≤(p:Rat):=Rat.intCast_le_intCast.mpr hp
 have hq0:(0:Rat)<(p:Rat):=by grind
 have e:=Rat.div_mul_cancel (a:=r) (b:=(p:Rat)) (by grind)
 constructor
 ·exact Rat.le_of_mul_le_mul_right (c:=(p:Rat)) (by rw [e,Rat.zero_mul]; exact h0) hq0
 ·refine Rat.le_of_mul_le_mul_right (c:=(p:Rat)) ?_ hq0
  rw [e]
  have:b * 1≤b * (p:Rat):=Rat.mul_le_mul_of_nonneg_left hq (Rat.le_trans h0 h1)
  grind
theorem RO.swap {C:Ctx} {ow:List Bool} {G:Hp} {ρ:DSt} {σ:St} {H:Hp} {pd:List (D×V)} {O:Own} {x y:D×V} (h:RO C ow G ρ σ H (x :: y :: pd) O) (hn:C.np≤pd.length):R C ow G ρ σ H (y :: x :: pd):=by
 refine ⟨lab (fun l π=>if l=2 * pd.length + 1 then (2 * (pd.length + 1) + 1,π) else if l=2 * (pd.length + 1) + 1 then (2 * pd.length + 1,π) else (l,π)) O,h.len,h.gh,h.g0,h.gn,?_,h.cok,h.fr,h.ft,h.al,h.mp,?_,⟨?_,?_,?_⟩,Nat.le_succ_of_le (Nat.le_succ_of_le hn)⟩
 ·intro a m e
  obtain ⟨l,π,e1,rfl⟩:=gP e
  obtain ⟨q1,q2,q3⟩:=h.og a _ e1
  refine ⟨q1,q2,?_⟩
  try dsimp only
  have key:(l=2 * pd.length + 1∨l=2 * (pd.length + 1) + 1)→C.H a=none:=fun z=>by
   rcases q3 with q3 | ⟨_,q3⟩
   ·exact q3
   ·rcases h.cok _ _ _ q3 with ⟨k,u,q4,q5⟩ | ⟨k,q4,_⟩
    ·simp only at q4; omega
    ·simp only at q4; omega
  split
  ·exact .inl (key (.inl (by assumption)))
  ·split
   ·exact .inl (key (.inr (by assumption)))
   ·exact q3
 ·intro j e q
  obtain ⟨u,h1,h2⟩:=h.sl j e q
  refine ⟨u,h1,?_⟩
  split at h2
  ·rename_i c; rw [if_pos c]; exact h2.keep (fun _ _ z=>z) fun a τ q=>⟨by rw [bB q,if_neg cn,if_neg cn],rfl⟩
  ·rename_i c; rw [if_neg c]; exact h2
 ·exact h.pn.2.1.keep (fun _ _ z=>z) fun a τ q=>⟨by rw [bB q,if_pos rfl]; rfl,rfl⟩
 ·exact h.pn.1.keep (fun _ _ z=>z) fun a τ q=>⟨by rw [bB q,if_neg (by rw [List.length_cons]; omega),if_pos (by rw [List.length_cons])],rfl⟩
 ·exact bN.keep (fun _ _ z=>z) (fun a j π hj q=>⟨by rw [bB q,if_neg (by omega),if_neg (by omega)],rfl⟩) h.pn.2.2
def mLate (i:Nat) (ma:ME):MA:=fun ρ q=>(∃ d,ρ[i]? = some (some d))∧ma ρ fun d2 ρ2=>match ρ2[i]? with
 | some (some d)=>q [d,d2] (ρ2.set i none)
 | _=>False
theorem pH {X:Cx} {M:Md} {e:Expr} {ma:ME} {pos:Pos} (i:Nat) {x:Str} (h:QM X M e ma) (ho:M.ow[i]? = some true:=by decide) (hu:M.mu[i]?≠some true:=by decide) (hN:X.N[i]? = some x:=by rfl) (hv:Vis X.env.scope x:=by first | exact Or.inl rfl | exact Or.inr (Or.inl rfl) | exact Or.inr (Or.inr rfl)) (hd:(x == ("__debug__":Str))=false:=by decide)
 (hcd:(x == ("__classdict__":Str))=false:=by decide) (hs:starEach [.Name x pos,e] X.env=(false,eval (.Name x pos) X.env) :: starEach [e] X.env:=by rfl) (hs2:starEach [e] X.env=[(false,eval e X.env)]:=by rfl):QMs X M [.Name x pos,e] (mLate i ma):=by
 obtain ⟨t2,p2,s2⟩:=h
 refine ⟨_,a6 (eO hN hv hd hcd) (a6 p2 cq hs2) hs,fun C G ρ σ H pd q Q hm r h k=>?_⟩
 obtain ⟨⟨d0,e0⟩,h⟩:=h
 obtain ⟨O,ro⟩:=r
 have hn:=ro.np
 obtain ⟨v,hv',_⟩:=ro.sl i d0 e0
 refine ⟨v,hv',s2 C G ρ σ H pd _ _ hm ⟨O,ro⟩ h fun d2 ρ2 v2 G2 H2 hq z r2=>?_⟩
 split at hq
 ·rename_i d e
  obtain ⟨O2,ro2⟩:=r2
  obtain ⟨v',h1,⟨O3,ro3⟩⟩:=ro2.move e ho (hm.no hu)
  rw [hv'] at h1; cases h1
  exact k [(d,v),(d2,v2)] _ G2 H2 hq z (ro3.swap hn) rfl
 ·exact hq.elim
def g8 (k:Int) (a:Ask):Bool:=decide (k<2 * a.size)
def ck (ps:List Int) (k:Int) (P U:List Rat) (a:Ask):Rat:=if g8 k a=true then eh ps a 1 P else eh ps a a.size U
def fV (ps:List Int) (k:Int) (as:List Ask) (P U:List Rat):Rat:=P.sum + (k:Rat) * U.sum + (as.map (ck ps k P U)).sum
end L2
namespace L2
open PySem PySem.Spec PyProof.Rows PySem.W
end L2
namespace L2
open PySem
theorem iB {n j:Nat} {k:Int} (hj:j<n):(List.replicate n k).getD j 0=k:=by rw [List.getD_eq_getElem?_getD,List.getElem?_replicate,if_pos hj]; rfl
structure PrK (ps:List Int) (prs:List Rat):Prop where
 ex:∃ M b:Nat,PrM ps prs M b∧0<M∧M<2 ^ 400∧b≤2 ^ 60
theorem PrK.len {ps:List Int} {prs:List Rat}:PrK ps prs→prs.length=ps.length
 | ⟨_,_,h,_⟩=>h.len
theorem PrK.nn {ps:List Int} {prs:List Rat}:PrK ps prs→∀ r∈prs,0≤r
 | ⟨_,_,h,_⟩=>fun r hr=>(h.ok r hr).1
end L2
namespace L2
open PySem PySem.Spec PyProof.Rows
section
variable {X:Cx} {M:Md} {a b c e:Expr} {ma mb mc:ME} {pos pos':Pos}
end
end L2
namespace L2
open PySem
end L2
namespace L2
open PySem PySem.Spec PyProof.Rows
section
variable {X:Cx}
end
section
variable {X:Cx} {o e:Expr} {apos cpos:Pos} {te:TE} {a:Addr} {kv:List (Str×Int)}
end
section
variable {X:Cx} {ow:List Bool} {b:Expr} {mb:ME} {pos apos cpos:Pos}
end
section
variable {X:Cx}
end
section
variable {X:Cx} {M:Md} {e:Expr} {ma:ME} {pos:Pos}
end
section
variable {X:Cx}
end
end L2
namespace K35
open PySem L2
def top (i:Nat):Stmt:=PySem.Challenge.pw_treeasks_k35_bound_of_two_prices.main.body.getD i (.Pass ⟨0,0,0,0⟩)
abbrev qv:Stmt:=top 9
abbrev qk:Stmt:=top 10
abbrev s_q0:Stmt:=top 11
abbrev pA:Stmt:=top 12
abbrev s_q4:Stmt:=top 16
abbrev s_q8:Stmt:=top 17
abbrev qF:Stmt:=top 18
abbrev rP:Stmt:=top 19
abbrev qs:Stmt:=top 20
abbrev rC:Stmt:=top 25
abbrev s_q5:Stmt:=top 26
abbrev rQ:Stmt:=top 28
abbrev o_:Stmt:=top 29
abbrev sv:Stmt:=top 30
abbrev qZ:Stmt:=top 31
abbrev rj:Stmt:=top 32
abbrev pI:Stmt:=top 33
abbrev pR:Stmt:=top 34
abbrev s_q6:Stmt:=top 36
abbrev rH:Stmt:=top 37
abbrev r9:Stmt:=top 38
abbrev qG:Stmt:=top 39
abbrev re:Stmt:=top 40
abbrev qS:Stmt:=top 41
abbrev qc:Stmt:=top 43
abbrev s_q2:Stmt:=top 44
abbrev pG:Stmt:=top 45
abbrev pO:Stmt:=top 47
abbrev rD:Stmt:=top 48
abbrev rJ:Stmt:=top 49
abbrev pZ:Stmt:=top 50
abbrev qd:Stmt:=top 53
abbrev s_q7:Stmt:=top 54
abbrev s_q3:Stmt:=top 55
abbrev pz:Stmt:=top 56
abbrev qo:Stmt:=top 57
abbrev s_q1:Stmt:=top 58
abbrev s_q9:Stmt:=top 60
abbrev rR:Stmt:=top 61
abbrev qP:Stmt:=top 62
abbrev su:Stmt:=top 63
abbrev rA:Stmt:=top 64
abbrev qg:Stmt:=top 66
abbrev pf:Stmt:=top 67
abbrev qC:Stmt:=top 68
abbrev rd:Stmt:=top 69
abbrev qH:Stmt:=top 70
abbrev rk:Stmt:=top 71
abbrev pK:Stmt:=top 72
abbrev qM:Stmt:=top 73
abbrev rN:Stmt:=top 74
abbrev rg:Stmt:=top 75
abbrev qh:Stmt:=top 76
abbrev pr:Stmt:=top 78
abbrev rm:Stmt:=top 79
abbrev pC:Stmt:=top 80
abbrev p8:Stmt:=top 81
abbrev qR:Stmt:=top 82
abbrev sw:Stmt:=top 83
abbrev qB:Stmt:=top 84
abbrev pN:Stmt:=top 85
set_option genInjectivity false in
structure Adr where
 f_q35:Addr
 d_q35:FuncData
 f_q16:Addr
 d_q16:FuncData
 f_q0:Addr
 d_q0:FuncData
 f_q12:Addr
 d_q12:FuncData
 f_q4:Addr
 d_q4:FuncData
 f_q8:Addr
 d_q8:FuncData
 f_q50:Addr
 d_q50:FuncData
 f_q33:Addr
 d_q33:FuncData
 f_q31:Addr
 d_q31:FuncData
 f_q51:Addr
 d_q51:FuncData
 f_q5:Addr
 d_q5:FuncData
 f_q32:Addr
 d_q32:FuncData
 f_q67:Addr
 d_q67:FuncData
 f_q63:Addr
 d_q63:FuncData
 f_q64:Addr
 d_q64:FuncData
 f_q57:Addr
 d_q57:FuncData
 f_q58:Addr
 d_q58:FuncData
 f_q65:Addr
 d_q65:FuncData
 f_q6:Addr
 d_q6:FuncData
 f_q60:Addr
 d_q60:FuncData
 f_q15:Addr
 d_q15:FuncData
 f_q59:Addr
 d_q59:FuncData
 f_q19:Addr
 d_q19:FuncData
 f_q10:Addr
 d_q10:FuncData
 f_q34:Addr
 d_q34:FuncData
 f_q2:Addr
 d_q2:FuncData
 f_q37:Addr
 d_q37:FuncData
 f_q56:Addr
 d_q56:FuncData
 f_q26:Addr
 d_q26:FuncData
 f_q46:Addr
 d_q46:FuncData
 f_q27:Addr
 d_q27:FuncData
 f_q11:Addr
 d_q11:FuncData
 f_q7:Addr
 d_q7:FuncData
 f_q3:Addr
 d_q3:FuncData
 f_q20:Addr
 d_q20:FuncData
 f_q47:Addr
 d_q47:FuncData
 f_q1:Addr
 d_q1:FuncData
 f_q9:Addr
 d_q9:FuncData
 f_q40:Addr
 d_q40:FuncData
 f_q17:Addr
 d_q17:FuncData
 f_q14:Addr
 d_q14:FuncData
 f_q13:Addr
 d_q13:FuncData
 f_q21:Addr
 d_q21:FuncData
 f_q54:Addr
 d_q54:FuncData
 f_q55:Addr
 d_q55:FuncData
 f_q41:Addr
 d_q41:FuncData
 f_q52:Addr
 d_q52:FuncData
 f_q66:Addr
 d_q66:FuncData
 f_q24:Addr
 d_q24:FuncData
 f_q62:Addr
 d_q62:FuncData
 f_q22:Addr
 d_q22:FuncData
 f_q61:Addr
 d_q61:FuncData
 f_q53:Addr
 d_q53:FuncData
 f_q23:Addr
 d_q23:FuncData
 f_q36:Addr
 d_q36:FuncData
 f_q44:Addr
 d_q44:FuncData
 f_q43:Addr
 d_q43:FuncData
 f_q42:Addr
 d_q42:FuncData
 f_q18:Addr
 d_q18:FuncData
 f_q25:Addr
 d_q25:FuncData
 f_law:Addr
 d_law:FuncData
 c_q28:Addr
 c_q48:Addr
 c_q29:Addr
 c_q38:Addr
 c_q30:Addr
 c_q39:Addr
 c_q49:Addr
 n_q48:Addr
 n_q30:Addr
 n_q39:Addr
 n_q49:Addr
 nd_q48:FuncData
 nd_q30:FuncData
 nd_q39:FuncData
 nd_q49:FuncData
 tc:Addr
 tP:Addr
abbrev tqS:Str:=("deepest_first" ++ ".<locals>.") ++ "<lambda>"
set_option genInjectivity false in
structure Txt (K:PySem.W.Frag) (mg:Str→Option Value) (A:Adr):Prop where
 t_q35:FT K mg "is_whole" qv ["thing"] A.f_q35 A.d_q35
 t_q16:FT K mg "is_between" qk ["thing","least","most"] A.f_q16 A.d_q16
 t_q0:FT K mg "greatest_common" s_q0 ["number","bottom"] A.f_q0 A.d_q0
 t_q12:FT K mg "is_fraction" pA ["thing"] A.f_q12 A.d_q12
 t_q4:FT K mg "has_two_lists" s_q4 ["thing"] A.f_q4 A.d_q4
 t_q8:FT K mg "look_at_tree" s_q8 ["thing"] A.f_q8 A.d_q8
 t_q50:FT K mg "depths" qF ["tree"] A.f_q50 A.d_q50
 t_q33:FT K mg "is_place" rP ["tree","thing"] A.f_q33 A.d_q33
 t_q31:FT K mg "are_ends" qs ["tree","one","other"] A.f_q31 A.d_q31
 t_q51:FT K mg "is_ask" rC ["tree","thing"] A.f_q51 A.d_q51
 t_q5:FT K mg "look_at_asks" s_q5 ["tree","thing"] A.f_q5 A.d_q5
 t_q32:FT K mg "fraction" rQ ["top","bottom"] A.f_q32 A.d_q32
 t_q67:FT K mg "plus" o_ ["one","other"] A.f_q67 A.d_q67
 t_q63:FT K mg "minus" sv ["one","other"] A.f_q63 A.d_q63
 t_q64:FT K mg "times" qZ ["one","other"] A.f_q64 A.d_q64
 t_q57:FT K mg "parted" rj ["one","other"] A.f_q57 A.d_q57
 t_q58:FT K mg "sum_of" pI ["some"] A.f_q58 A.d_q58
 t_q65:FT K mg "under" pR ["one","other"] A.f_q65 A.d_q65
 t_q6:FT K mg "look_at_ends" s_q6 ["tree","one","other"] A.f_q6 A.d_q6
 t_q60:FT K mg "climb" rH ["tree","one","other"] A.f_q60 A.d_q60
 t_q15:FT K mg "way_between" r9 ["tree","one","other"] A.f_q15 A.d_q15
 t_q59:FT K mg "way_of" qG ["tree","ask"] A.f_q59 A.d_q59
 t_q19:FT K mg "meeting_of" re ["tree","one","other"] A.f_q19 A.d_q19
 t_q10:FT K mg "tops_between" qS ["tree","one","other"] A.f_q10 A.d_q10
 t_q34:FT K mg "is_price" qc ["thing"] A.f_q34 A.d_q34
 t_q2:FT K mg "look_at_prices" s_q2 ["tree","thing"] A.f_q2 A.d_q2
 t_q37:FT K mg "spare_of" pG ["tree","ask","weight","prices"] A.f_q37 A.d_q37
 t_q56:FT K mg "lay_on" pO ["ask","way","load"] A.f_q56 A.d_q56
 t_q26:FT K mg "load_with" rD ["tree","ask","load"] A.f_q26 A.d_q26
 t_q46:FT K mg "over_on" rJ ["tree","ask","way","load"] A.f_q46 A.d_q46
 t_q27:FT K mg "over_with" pZ ["tree","ask","load"] A.f_q27 A.d_q27
 t_q11:FT K mg "common_room" qd ["tree"] A.f_q11 A.d_q11
 t_q7:FT K mg "look_at_most" s_q7 ["asks","most"] A.f_q7 A.d_q7
 t_q3:FT K mg "deepest_first" s_q3 ["tree","asks"] A.f_q3 A.d_q3
 t_q20:FT K mg "raise_tops" pz ["tree","ask","prices","step"] A.f_q20 A.d_q20
 t_q47:FT K mg "pile_up" qo ["tree","asks","terms"] A.f_q47 A.d_q47
 t_q1:FT K mg "keep_from_last" s_q1 ["tree","asks","pile"] A.f_q1 A.d_q1
 t_q9:FT K mg "room_for_all" s_q9 ["tree","asks"] A.f_q9 A.d_q9
 t_q40:FT K mg "is_wide" rR ["room","ask"] A.f_q40 A.d_q40
 t_q17:FT K mg "keep_mixed" qP ["tree","asks"] A.f_q17 A.d_q17
 t_q14:FT K mg "mixed_spare" su ["tree","room","ask","pieces","units"] A.f_q14 A.d_q14
 t_q13:FT K mg "mixed_bound" rA ["tree","asks","pieces","units"] A.f_q13 A.d_q13
 t_q21:FT K mg "_law_cell_at" qg ["_law_script","_law_k"] A.f_q21 A.d_q21
 t_q54:FT K mg "_law_pool" pf ["_law_script","_law_k"] A.f_q54 A.d_q54
 t_q55:FT K mg "_law_take" qC ["_law_pool_here","_law_many"] A.f_q55 A.d_q55
 t_q41:FT K mg "_law_alike" rd ["_law_pool_here","_law_most"] A.f_q41 A.d_q41
 t_q52:FT K mg "_law_asks" qH ["_law_pool_here","_law_tree","_law_least","_law_most","_law_sizes"] A.f_q52 A.d_q52
 t_q66:FT K mg "_law_up" rk ["_law_tree","_law_place"] A.f_q66 A.d_q66
 t_q24:FT K mg "_law_meeting" pK ["_law_tree","_law_one","_law_other"] A.f_q24 A.d_q24
 t_q62:FT K mg "_law_way" qM ["_law_tree","_law_one","_law_other"] A.f_q62 A.d_q62
 t_q22:FT K mg "_law_divisor" rN ["_law_one","_law_other"] A.f_q22 A.d_q22
 t_q61:FT K mg "_law_low" rg ["_law_top","_law_bottom"] A.f_q61 A.d_q61
 t_q53:FT K mg "_law_plus" qh ["_law_one","_law_other"] A.f_q53 A.d_q53
 t_q23:FT K mg "_law_fitting" pr ["_law_tree","_law_asks_here"] A.f_q23 A.d_q23
 t_q36:FT K mg "_law_prices" rm ["_law_pool_here","_law_tree"] A.f_q36 A.d_q36
 t_q44:FT K mg "_law_spare" pC ["_law_tree","_law_ask","_law_pieces","_law_units"] A.f_q44 A.d_q44
 t_q43:FT K mg "_law_bound" p8 ["_law_tree","_law_asks_here","_law_pieces","_law_units"] A.f_q43 A.d_q43
 t_q42:FT K mg "_law_asked" qR ["_law_tree","_law_asks_here","_law_pieces","_law_units"] A.f_q42 A.d_q42
 t_q18:FT K mg "_law_no_share" sw ["_law_tree","_law_asks_here"] A.f_q18 A.d_q18
 t_q25:FT K mg "_law_refused" qB ["_law_pool_here","_law_tree","_law_asks_here","_law_prices_here"] A.f_q25 A.d_q25
 t_law:FT K mg "law" pN ["_law_script"] A.f_law A.d_law
 z_ValueError:mg "ValueError" = none
 z_abs:mg "abs" = none
 z_bool:mg "bool" = none
 z_enumerate:mg "enumerate" = none
 z_int:mg "int" = none
 z_isinstance:mg "isinstance" = none
 z_len:mg "len" = none
 z_list:mg "list" = none
 z_max:mg "max" = none
 z_min:mg "min" = none
 z_range:mg "range" = none
 z_reversed:mg "reversed" = none
 z_sorted:mg "sorted" = none
 z_sum:mg "sum" = none
 z_tuple:mg "tuple" = none
 c_MOST_TIES:∃ t,mg "MOST_TIES" = some (.int 23 t)
 c_MOST_ROOM:∃ t,mg "MOST_ROOM" = some (.int 1000000 t)
 c_MOST_ASKS:∃ t,mg "MOST_ASKS" = some (.int 30 t)
 c_MOST_SIZE:∃ t,mg "MOST_SIZE" = some (.int 1000000 t)
 c_MOST_WORTH:∃ t,mg "MOST_WORTH" = some (.int 1000000000000 t)
 c_MOST_COMMON_ROOM:∃ t,mg "MOST_COMMON_ROOM" = some (.int 60 t)
 m_q28:mg "AskError" = some (.ref A.c_q28)
 m_q48:mg "NoAsks" = some (.ref A.c_q48)
 m_q29:mg "NoNumber" = some (.ref A.c_q29)
 m_q38:mg "NoPlace" = some (.ref A.c_q38)
 m_q30:mg "NoPrices" = some (.ref A.c_q30)
 m_q39:mg "NoShare" = some (.ref A.c_q39)
 m_q49:mg "NoTree" = some (.ref A.c_q49)
 x_q28:bX K A.c_q28 bmV none=true
 x_q48:bX K A.c_q48 ([.ref A.c_q28]++bmV) (some (.ref A.n_q48))=true
 x_q29:bX K A.c_q29 ([.ref A.c_q28]++bmV) none=true
 x_q38:bX K A.c_q38 ([.ref A.c_q28]++bmV) none=true
 x_q30:bX K A.c_q30 ([.ref A.c_q28]++bmV) (some (.ref A.n_q30))=true
 x_q39:bX K A.c_q39 ([.ref A.c_q28]++bmV) (some (.ref A.n_q39))=true
 x_q49:bX K A.c_q49 ([.ref A.c_q28]++bmV) (some (.ref A.n_q49))=true
 o_q48:cU K A.c_q48=true
 v_q48:PySem.W.kitOne K (.ref A.c_q48) (.type "ValueError")=some true
 i_q48_NoPrices:PySem.W.kitOne K (.ref A.c_q48) (.ref A.c_q30)=some false
 i_q48_NoShare:PySem.W.kitOne K (.ref A.c_q48) (.ref A.c_q39)=some false
 i_q48_NoTree:PySem.W.kitOne K (.ref A.c_q48) (.ref A.c_q49)=some false
 o_q29:cU K A.c_q29=true
 v_q29:PySem.W.kitOne K (.ref A.c_q29) (.type "ValueError")=some true
 i_q29_NoAsks:PySem.W.kitOne K (.ref A.c_q29) (.ref A.c_q48)=some false
 i_q29_NoPrices:PySem.W.kitOne K (.ref A.c_q29) (.ref A.c_q30)=some false
 i_q29_NoShare:PySem.W.kitOne K (.ref A.c_q29) (.ref A.c_q39)=some false
 i_q29_NoTree:PySem.W.kitOne K (.ref A.c_q29) (.ref A.c_q49)=some false
 o_q38:cU K A.c_q38=true
 v_q38:PySem.W.kitOne K (.ref A.c_q38) (.type "ValueError")=some true
 i_q38_NoAsks:PySem.W.kitOne K (.ref A.c_q38) (.ref A.c_q48)=some false
 i_q38_NoPrices:PySem.W.kitOne K (.ref A.c_q38) (.ref A.c_q30)=some false
 i_q38_NoShare:PySem.W.kitOne K (.ref A.c_q38) (.ref A.c_q39)=some false
 i_q38_NoTree:PySem.W.kitOne K (.ref A.c_q38) (.ref A.c_q49)=some false
 o_q30:cU K A.c_q30=true
 v_q30:PySem.W.kitOne K (.ref A.c_q30) (.type "ValueError")=some true
 i_q30_NoAsks:PySem.W.kitOne K (.ref A.c_q30) (.ref A.c_q48)=some false
 i_q30_NoShare:PySem.W.kitOne K (.ref A.c_q30) (.ref A.c_q39)=some false
 i_q30_NoTree:PySem.W.kitOne K (.ref A.c_q30) (.ref A.c_q49)=some false
 o_q39:cU K A.c_q39=true
 v_q39:PySem.W.kitOne K (.ref A.c_q39) (.type "ValueError")=some true
 i_q39_NoAsks:PySem.W.kitOne K (.ref A.c_q39) (.ref A.c_q48)=some false
 i_q39_NoPrices:PySem.W.kitOne K (.ref A.c_q39) (.ref A.c_q30)=some false
 i_q39_NoTree:PySem.W.kitOne K (.ref A.c_q39) (.ref A.c_q49)=some false
 o_q49:cU K A.c_q49=true
 v_q49:PySem.W.kitOne K (.ref A.c_q49) (.type "ValueError")=some true
 i_q49_NoAsks:PySem.W.kitOne K (.ref A.c_q49) (.ref A.c_q48)=some false
 i_q49_NoPrices:PySem.W.kitOne K (.ref A.c_q49) (.ref A.c_q30)=some false
 i_q49_NoShare:PySem.W.kitOne K (.ref A.c_q49) (.ref A.c_q39)=some false
 n_q48:PySem.W.kitOne K (.type "NoneType") (.ref A.c_q48)=some false
 n_q30:PySem.W.kitOne K (.type "NoneType") (.ref A.c_q30)=some false
 n_q39:PySem.W.kitOne K (.type "NoneType") (.ref A.c_q39)=some false
 n_q49:PySem.W.kitOne K (.type "NoneType") (.ref A.c_q49)=some false
 I_q48:Fun K "__init__" "NoAsks.__init__" (ci (top 3) 0) A.n_q48 A.nd_q48
 bi_q48:cw K A.nd_q48 ["self","number"] []
 fi_q48:PySem.W.typeIn K (.ref A.n_q48)=some (.type "function")
 kc_q48:PySem.W.keepIn K (.ref A.c_q48)=true
 xa_q48_number:iy K A.c_q48 "number"
 I_q30:Fun K "__init__" "NoPrices.__init__" (ci (top 4) 0) A.n_q30 A.nd_q30
 bi_q30:cw K A.nd_q30 ["self","number"] []
 fi_q30:PySem.W.typeIn K (.ref A.n_q30)=some (.type "function")
 kc_q30:PySem.W.keepIn K (.ref A.c_q30)=true
 xa_q30_number:iy K A.c_q30 "number"
 I_q39:Fun K "__init__" "NoShare.__init__" (ci (top 5) 0) A.n_q39 A.nd_q39
 bi_q39:cw K A.nd_q39 ["self","number"] []
 fi_q39:PySem.W.typeIn K (.ref A.n_q39)=some (.type "function")
 kc_q39:PySem.W.keepIn K (.ref A.c_q39)=true
 xa_q39_number:iy K A.c_q39 "number"
 I_q49:Fun K "__init__" "NoTree.__init__" (ci (top 2) 0) A.n_q49 A.nd_q49
 bi_q49:cw K A.nd_q49 ["self","part","number"] []
 fi_q49:PySem.W.typeIn K (.ref A.n_q49)=some (.type "function")
 kc_q49:PySem.W.keepIn K (.ref A.c_q49)=true
 xa_q49_part:iy K A.c_q49 "part"
 xa_q49_number:iy K A.c_q49 "number"
 B_q28:BaseIn K A.c_q28
 hc:A.d_q3.code = .ref A.tc
theorem v_:FnScope ["thing"] ["thing"] (ah qv):=aI
theorem u8:FnScope ["thing","least","most"] ["thing","least","most"] (ah qk):=aI
theorem sc_q0:FnScope ["number","bottom"] ["number","bottom"] (ah s_q0):=aI
theorem wu:FnScope ["thing","top","bottom"] ["thing"] (ah pA):=aI
theorem sc_q4:FnScope ["thing","parents","rooms"] ["thing"] (ah s_q4):=aI
theorem uO:FnScope ["thing","parents","rooms","number","parent","room"] ["thing"] (ah s_q8):=aI
theorem sc_q50:FnScope ["tree","found","parent"] ["tree"] (ah qF):=aI
theorem wF:FnScope ["tree","thing"] ["tree","thing"] (ah rP):=aI
theorem vx:FnScope ["tree","one","other"] ["tree","one","other"] (ah qs):=aI
theorem u5:FnScope ["tree","thing","one","other","size","worth"] ["tree","thing"] (ah rC):=aI
theorem sc_q5:FnScope ["tree","thing","number","ask"] ["tree","thing"] (ah s_q5):=aI
theorem wt:FnScope ["top","bottom","common"] ["top","bottom"] (ah rQ):=aI
theorem sc_q67:FnScope ["one","other"] ["one","other"] (ah o_):=aI
theorem vc:FnScope ["one","other"] ["one","other"] (ah sv):=aI
theorem wM:FnScope ["one","other"] ["one","other"] (ah qZ):=aI
theorem sc_q57:FnScope ["one","other"] ["one","other"] (ah rj):=aI
theorem vp:FnScope ["some","bottom","one"] ["some"] (ah pI):=aI
theorem wO:FnScope ["one","other"] ["one","other"] (ah pR):=aI
theorem sc_q6:FnScope ["tree","one","other"] ["tree","one","other"] (ah s_q6):=aI
theorem wS:FnScope ["tree","one","other","way","low"] ["tree","one","other"] (ah rH):=aI
theorem wE:FnScope ["tree","one","other","way","meeting"] ["tree","one","other"] (ah r9):=aI
theorem wd:FnScope ["tree","ask"] ["tree","ask"] (ah qG):=aI
theorem sc_q19:FnScope ["tree","one","other","way","meeting"] ["tree","one","other"] (ah re):=aI
theorem sc_q10:FnScope ["tree","one","other","way","meeting"] ["tree","one","other"] (ah qS):=aI
theorem wv:FnScope ["thing"] ["thing"] (ah qc):=aI
theorem sc_q2:FnScope ["tree","thing","ties","number","price"] ["tree","thing"] (ah s_q2):=aI
theorem wm:FnScope ["tree","ask","weight","prices","paid","spare"] ["tree","ask","weight","prices"] (ah pG):=aI
theorem sc_q56:FnScope ["ask","way","load","tie"] ["ask","way","load"] (ah pO):=aI
theorem sc_q26:FnScope ["tree","ask","load","found"] ["tree","ask","load"] (ah rD):=aI
theorem sc_q46:FnScope ["tree","ask","way","load"] ["tree","ask","way","load"] (ah rJ):=aI
theorem sc_q27:FnScope ["tree","ask","load"] ["tree","ask","load"] (ah pZ):=aI
theorem wT:FnScope ["tree","room"] ["tree"] (ah qd):=aI
theorem sc_q7:FnScope ["asks","most","number","ask"] ["asks","most"] (ah s_q7):=aI
theorem sc_q3:FnScope ["tree","asks","deep","met"] ["tree","asks"] (ah s_q3):=aI
theorem sc_q20:FnScope ["tree","ask","prices","step","tie"] ["tree","ask","prices","step"] (ah pz):=aI
theorem sc_q47:FnScope ["tree","asks","terms","prices","rests","pile","number","weight","part"] ["tree","asks","terms"] (ah qo):=aI
theorem sc_q1:FnScope ["tree","asks","pile","load","keep","number"] ["tree","asks","pile"] (ah s_q1):=aI
theorem sc_q9:FnScope ["tree","asks","room"] ["tree","asks"] (ah s_q9):=aI
theorem vN:FnScope ["room","ask"] ["room","ask"] (ah rR):=aI
theorem vE:FnScope ["tree","asks","room","wide_terms","narrow_terms","wide","pieces","wide_rests","narrow","units","narrow_rests"] ["tree","asks"] (ah qP):=aI
theorem vk:FnScope ["tree","room","ask","pieces","units"] ["tree","room","ask","pieces","units"] (ah su):=aI
theorem wA:FnScope ["tree","asks","pieces","units","room","spared"] ["tree","asks","pieces","units"] (ah rA):=aI
theorem vS:FnScope ["_law_script","_law_k"] ["_law_script","_law_k"] (ah qg):=aI
theorem vF:FnScope ["_law_script","_law_k","_law_cell","_law_mixed"] ["_law_script","_law_k"] (ah pf):=aI
theorem xr:FnScope ["_law_pool_here","_law_many","_law_found","_law_made","_law_turn"] ["_law_pool_here","_law_many"] (ah qC):=aI
theorem vy:FnScope ["_law_pool_here","_law_most","_law_way_here","_law_parents","_law_k"] ["_law_pool_here","_law_most"] (ah rd):=aI
theorem ve:FnScope ["_law_pool_here","_law_tree","_law_least","_law_most","_law_sizes","_law_places","_law_asks_here","_law_k","_law_one","_law_other","_law_size","_law_worth"] ["_law_pool_here","_law_tree","_law_least","_law_most","_law_sizes"] (ah qH):=aI
theorem wc:FnScope ["_law_tree","_law_place","_law_found"] ["_law_tree","_law_place"] (ah rk):=aI
theorem vb:FnScope ["_law_tree","_law_one","_law_other","_law_there"] ["_law_tree","_law_one","_law_other"] (ah pK):=aI
theorem vX:FnScope ["_law_tree","_law_one","_law_other","_law_above","_law_both"] ["_law_tree","_law_one","_law_other"] (ah qM):=aI
theorem wQ:FnScope ["_law_one","_law_other"] ["_law_one","_law_other"] (ah rN):=aI
theorem vg:FnScope ["_law_top","_law_bottom","_law_share"] ["_law_top","_law_bottom"] (ah rg):=aI
theorem uW:FnScope ["_law_one","_law_other"] ["_law_one","_law_other"] (ah qh):=aI
theorem wG:FnScope ["_law_tree","_law_asks_here"] ["_law_tree","_law_asks_here"] (ah pr):=aI
theorem wf:FnScope ["_law_pool_here","_law_tree","_law_prices_here","_law_way_here","_law_room","_law_top"] ["_law_pool_here","_law_tree"] (ah rm):=aI
theorem xo:FnScope ["_law_tree","_law_ask","_law_pieces","_law_units","_law_wide","_law_spare_here","_law_tie","_law_price"] ["_law_tree","_law_ask","_law_pieces","_law_units"] (ah pC):=aI
theorem xq:FnScope ["_law_tree","_law_asks_here","_law_pieces","_law_units","_law_found","_law_k","_law_ask"] ["_law_tree","_law_asks_here","_law_pieces","_law_units"] (ah p8):=aI
theorem vf:FnScope ["_law_tree","_law_asks_here","_law_pieces","_law_units","_law_error","e","_law_kinds"] ["_law_tree","_law_asks_here","_law_pieces","_law_units"] (ah qR):=aI
theorem xm:FnScope ["_law_tree","_law_asks_here","_law_number","e"] ["_law_tree","_law_asks_here"] (ah sw):=aI
theorem xg:FnScope ["_law_pool_here","_law_tree","_law_asks_here","_law_prices_here","_law_bad","_law_at","_law_one","_law_many","_law_far","_law_first","_law_more"] ["_law_pool_here","_law_tree","_law_asks_here","_law_prices_here"] (ah qB):=aI
theorem w_:FnScope ["_law_script","_law_k","_law_pool_here","_law_tree","_law_asks_here","_law_pieces","_law_units","_law_kept","_law_found"] ["_law_script"] (ah pN):=aI
theorem sT:FnScope ["self","number"] ["self","number"] (ah (ci (top 3) 0)):=aI
theorem tw:FnScope ["self","number"] ["self","number"] (ah (ci (top 4) 0)):=aI
theorem sO:FnScope ["self","number"] ["self","number"] (ah (ci (top 5) 0)):=aI
theorem tT:FnScope ["self","part","number"] ["self","part","number"] (ah (ci (top 2) 0)):=aI
section
variable {P:Program} {w:World} {K:PySem.W.Frag} {mg:Str→Option Value} {base:Heap} {A:Adr}
theorem mY (T:Txt K mg A):FnOk P w K mg base CX0 1 A.n_q48 A.nd_q48 ["self","number"] (fQ A.c_q48 ["number"]):=by
 refine T.I_q48.ok (k:=0) sT (fun vs H Q E h=>by obtain ⟨e,xs,rfl,h,_⟩:=h; rw [List.length_cons,h]; rfl) (fun cdv Ar outer s H vs Q E hr h=>?_)
 obtain ⟨e,xs,rfl,hl,hv,hH,q⟩:=h
 obtain ⟨x1,rfl⟩:∃ x1,xs=[x1]:=match xs,hl with | [x1],_=>⟨x1,rfl⟩
 refine ⟨_,cz (dD (fY T.B_q28 T.x_q48 rfl T.m_q28 (a6 (pv 0) (a6 (h9 (i8 (iO (pv 1) j7))) cq)))) (fu (nh T.x_q48 T.o_q48 T.xa_q48_number (pv 0) (pv 1))),?_⟩
 refine ⟨_,rfl,⟨trivial,⟨⟨x1,rfl,hv x1 (by simp)⟩,trivial⟩⟩,fun y=>?_⟩
 refine ⟨e,y,none,rfl,hH,?_⟩
 refine ⟨_,rfl,_,rfl,e,rfl,av,fun d hd=>?_⟩
 have hde:d≠e:=fun z=>by rw [z,av] at hd; cases hd
 have hd0:H d=none:=by rw [aq hde] at hd; exact hd
 have:=q d hd0
 simp only [gx]
 exact this
theorem jU (T:Txt K mg A):FnOk P w K mg base CX0 1 A.n_q30 A.nd_q30 ["self","number"] (fQ A.c_q30 ["number"]):=by
 refine T.I_q30.ok (k:=0) tw (fun vs H Q E h=>by obtain ⟨e,xs,rfl,h,_⟩:=h; rw [List.length_cons,h]; rfl) (fun cdv Ar outer s H vs Q E hr h=>?_)
 obtain ⟨e,xs,rfl,hl,hv,hH,q⟩:=h
 obtain ⟨x1,rfl⟩:∃ x1,xs=[x1]:=match xs,hl with | [x1],_=>⟨x1,rfl⟩
 refine ⟨_,cz (dD (fY T.B_q28 T.x_q30 rfl T.m_q28 (a6 (pv 0) (a6 (h9 (i8 (iO (pv 1) j7))) cq)))) (fu (nh T.x_q30 T.o_q30 T.xa_q30_number (pv 0) (pv 1))),?_⟩
 refine ⟨_,rfl,⟨trivial,⟨⟨x1,rfl,hv x1 (by simp)⟩,trivial⟩⟩,fun y=>?_⟩
 refine ⟨e,y,none,rfl,hH,?_⟩
 refine ⟨_,rfl,_,rfl,e,rfl,av,fun d hd=>?_⟩
 have hde:d≠e:=fun z=>by rw [z,av] at hd; cases hd
 have hd0:H d=none:=by rw [aq hde] at hd; exact hd
 have:=q d hd0
 simp only [gx]
 exact this
theorem nz (T:Txt K mg A):FnOk P w K mg base CX0 1 A.n_q39 A.nd_q39 ["self","number"] (fQ A.c_q39 ["number"]):=by
 refine T.I_q39.ok (k:=0) sO (fun vs H Q E h=>by obtain ⟨e,xs,rfl,h,_⟩:=h; rw [List.length_cons,h]; rfl) (fun cdv Ar outer s H vs Q E hr h=>?_)
 obtain ⟨e,xs,rfl,hl,hv,hH,q⟩:=h
 obtain ⟨x1,rfl⟩:∃ x1,xs=[x1]:=match xs,hl with | [x1],_=>⟨x1,rfl⟩
 refine ⟨_,cz (dD (fY T.B_q28 T.x_q39 rfl T.m_q28 (a6 (pv 0) (a6 (h9 (i8 (iO (pv 1) j7))) cq)))) (fu (nh T.x_q39 T.o_q39 T.xa_q39_number (pv 0) (pv 1))),?_⟩
 refine ⟨_,rfl,⟨trivial,⟨⟨x1,rfl,hv x1 (by simp)⟩,trivial⟩⟩,fun y=>?_⟩
 refine ⟨e,y,none,rfl,hH,?_⟩
 refine ⟨_,rfl,_,rfl,e,rfl,av,fun d hd=>?_⟩
 have hde:d≠e:=fun z=>by rw [z,av] at hd; cases hd
 have hd0:H d=none:=by rw [aq hde] at hd; exact hd
 have:=q d hd0
 simp only [gx]
 exact this
theorem jY (T:Txt K mg A):FnOk P w K mg base CX0 1 A.n_q49 A.nd_q49 ["self","part","number"] (fQ A.c_q49 ["part","number"]):=by
 refine T.I_q49.ok (k:=0) tT (fun vs H Q E h=>by obtain ⟨e,xs,rfl,h,_⟩:=h; rw [List.length_cons,h]; rfl) (fun cdv Ar outer s H vs Q E hr h=>?_)
 obtain ⟨e,xs,rfl,hl,hv,hH,q⟩:=h
 obtain ⟨x1,x2,rfl⟩:∃ x1 x2,xs=[x1,x2]:=match xs,hl with | [x1,x2],_=>⟨x1,x2,rfl⟩
 refine ⟨_,cz (dD (fY T.B_q28 T.x_q49 rfl T.m_q28 (a6 (pv 0) (a6 (h9 (i8 (iO (pv 1) (i8 (iO (pv 2) j7))))) cq)))) (cz (nh T.x_q49 T.o_q49 T.xa_q49_part (pv 0) (pv 1)) (fu (ps_x1 T.x_q49 T.o_q49 T.xa_q49_number (pv 0) (pv 2)))),?_⟩
 refine ⟨_,rfl,⟨trivial,⟨⟨x1,rfl,hv x1 (by simp)⟩,⟨trivial,⟨⟨x2,rfl,hv x2 (by simp)⟩,trivial⟩⟩⟩⟩,fun y=>?_⟩
 refine ⟨e,y,none,rfl,hH,?_⟩
 refine ⟨_,rfl,_,rfl,e,rfl,av,fun d hd=>?_⟩
 have hde:d≠e:=fun z=>by rw [z,av] at hd; cases hd
 have hd0:H d=none:=by rw [aq hde] at hd; exact hd
 refine ⟨_,rfl,_,rfl,e,d,_,rfl,by rw [aq (Ne.symm hde),av],av,hde,by simp,rfl,?_⟩
 have:=q d hd0
 simp only [gx]
 exact this
theorem iN (T:Txt K mg A) (hB:TabB base mg A.tc A.tP tqS):FnOk P w K mg base CX0 1 A.f_q35 A.d_q35 ["thing"] (bb [false] false (sN)):=by
 have S:=v_
 refine fnD T.t_q35.F S ⟨[false],[false],false⟩ _ ?hl rfl rfl fun cdv Ar outer s H E hr=>⟨_,(am (aE (eC (dL rfl T.z_isinstance aP (aa 0) (cE (v:=.ty "int") rfl T.z_int gE rfl)) (fL (wW (dL rfl T.z_isinstance aP (aa 0) (cE (v:=.ty "bool") rfl T.z_bool tR rfl))))))),fun ds q h=>?_⟩
 case hl=>intro ds q h; obtain ⟨d,rfl,_⟩:=h; rfl
 obtain ⟨d,rfl,hs,q0⟩:=h
 cases d <;> first | exact q0 | cases hs
theorem fJ (T:Txt K mg A) (hB:TabB base mg A.tc A.tP tqS):FnOk P w K mg base CX0 2 A.f_q16 A.d_q16 ["thing","least","most"] (bb [false,false,false] false (oV)):=by
 have S:=u8
 refine fnD T.t_q16.F S ⟨[false,false,false],[false,false,false],false⟩ _ ?hl rfl rfl fun cdv Ar outer s H E hr=>⟨_,(am (aE (eC (aj (iN T hB) hr T.t_q35 (ai (aa 0) ak)) (fL (ll m9 m9 dB dB (aa 1) (aa 0) (aa 2)))))),fun ds q h=>?_⟩
 case hl=>intro ds q h; obtain ⟨d,lo,hi,rfl,_⟩:=h; rfl
 obtain ⟨d,lo,hi,rfl,hs,q0⟩:=h
 refine ⟨d,rfl,hs,?_⟩
 cases d
 case int i =>
  refine (bQ (c:=decide (lo≤i)=true) (fun c=>?_) (fun c=>?_))
  ·have:btw lo hi (.int i)=decide (i≤hi):=by show (decide (lo≤i)&&decide (i≤hi))=_; rw [c,Bool.true_and]
   rw [this] at q0; exact q0
  ·have:btw lo hi (.int i)=false:=by show (decide (lo≤i)&&decide (i≤hi))=_; rw [Bool.eq_false_iff.mpr c,Bool.false_and]
   rw [this] at q0; exact q0
 all_goals first | exact q0 | cases hs
theorem uT (T:Txt K mg A) (hB:TabB base mg A.tc A.tP tqS):FnOk P w K mg base CX0 1 A.f_q4 A.d_q4 ["thing"] (bb [false] false (xt)):=by
 have S:=sc_q4
 refine fnD T.t_q4.F S ⟨[false],[false,false,false],false⟩ _ ?hl rfl rfl fun cdv Ar outer s H E hr=>⟨_,(ag (bj (QW.qt (d6 (bi (a9 (dL rfl T.z_isinstance aP (aa 0) (cE (v:=.ty "tuple") rfl T.z_tuple eM rfl)))) (cK (aY (bo hr.units) dNe (aK az dl rfl T.z_len bh (ad (aa 0) af)) ae (aR _))))) (am (aE cG)) aT)
  (ag (i7 (aa 0) (cX rfl (aS (aO (i:=1) S.nd rfl (Or.inl rfl)) (aS (aO (i:=2) S.nd rfl (Or.inl rfl)) ce)) (au (au bc))))
  (ag (bj (QW.qt (d6 (bi (a9 (dL rfl T.z_isinstance aP (aa 1) (cE (v:=.ty "list") rfl T.z_list cO rfl)))) (cK (bi (a9 (dL rfl T.z_isinstance aP (aa 2) (cE (v:=.ty "list") rfl T.z_list cO rfl))))))) (am (aE cG)) aT)
  (am (aE (eC (dJ (kD hr.units) dEq (aK az dl rfl T.z_len bh (ad (aa 1) af)) (aK az dl rfl T.z_len bh (ad (aa 2) af)) (aR _)) (fL (ll m9 m9 dB dB ae (aK az dl rfl T.z_len bh (ad (aa 1) af)) (dq (i:=23) rfl T.c_MOST_TIES))))))))),fun ds q h=>?_⟩
 case hl=>intro ds q h; obtain ⟨d,rfl,_⟩:=h; rfl
 obtain ⟨d,rfl,hp,q0⟩:=h
 cases d with
 | tup ds =>
  refine (bQ (c:=(!decide ((ds.length:Int)=2))=true) (fun c=>?_) (fun c=>?_))
  ·have:gz (.tup ds)=false:=by
    cases h:gz (.tup ds) with
    | false=>rfl
    | true =>
     obtain ⟨ps,rs,e,_⟩:=iT h
     cases e; simp at c
   rw [this] at q0; exact q0
  ·obtain ⟨a,b,rfl⟩:∃ a b,ds=[a,b]:=by
    have hl:ds.length=2:=by simp at c; omega
    match ds,hl with
    | [a,b],_=>exact ⟨a,b,rfl⟩
   rw [pln,aX,aX] at hp
   have ha:=cL hp.1
   have hb:=cL hp.2.1
   cases a with
   | lst ps =>
    cases b with
    | lst rs =>
     refine (bQ (c:=decide ((ps.length:Int)=(rs.length:Int))=true) (fun c1=>?_) (fun c1=>?_))
     ·refine (bQ (c:=decide ((1:Int)≤(ps.length:Int))=true) (fun c2=>?_) (fun c2=>?_))
      ·have e:gz (.tup [.lst ps,.lst rs])=decide ((ps.length:Int)≤23):=by
        have c1':ps.length=rs.length:=by have:=of_decide_eq_true c1; omega
        have c2' : 1≤ps.length:=by simp at c2; omega
        show (decide (ps.length=rs.length)&&(decide (1≤ps.length)&&decide (ps.length≤23)))=_
        rw [decide_eq_true c1',decide_eq_true c2',Bool.true_and,Bool.true_and]
        exact decide_eq_decide.mpr (by omega)
       rw [e] at q0; exact q0
      ·have e:gz (.tup [.lst ps,.lst rs])=false:=by
        have c2' : ¬ 1≤ps.length:=by simp at c2; omega
        show (decide (ps.length=rs.length)&&(decide (1≤ps.length)&&decide (ps.length≤23)))=_
        rw [decide_eq_false c2',Bool.false_and,Bool.and_false]
       rw [e] at q0; exact q0
     ·have e:gz (.tup [.lst ps,.lst rs])=false:=by
       have c1' : ¬ ps.length=rs.length:=fun z=>c1 (decide_eq_true (by omega))
       show (decide (ps.length=rs.length)&&(decide (1≤ps.length)&&decide (ps.length≤23)))=_
       rw [decide_eq_false c1',Bool.false_and]
      rw [e] at q0; exact q0
    | _=>first | exact q0 | cases hb
   | _=>first | exact q0 | cases ha
 | _=>first | exact q0 | (rw [pln] at hp; cases hp)
theorem rq (T:Txt K mg A) (hB:TabB base mg A.tc A.tP tqS):FnOk P w K mg base (CX1 P w) 3 A.f_q8 A.d_q8 ["thing"] (cy [false] false ((sL A.c_q49))):=by
 have S:=uO
 refine fnX T.t_q8.F S ⟨[false],[false,false,false,false,false,false],false⟩ _ ?hl rfl rfl fun cdv Ar outer s H E hr=>⟨_,(aL (fG (bi (a9 (aj (uT T hB) hr T.t_q4 (ai (aa 0) ak)))) (aW (bH (jY T) (hr.mono (by decide)) T.bi_q49 T.x_q49 T.fi_q49 T.kc_q49 rfl T.m_q49 (ad bR (ad bE af)))) cR)
  (aL (bZ (i7 (aa 0) (cX rfl (aS (aO (i:=1) S.nd rfl (Or.inl rfl)) (aS (aO (i:=2) S.nd rfl (Or.inl rfl)) ce)) (au (au bc)))))
  (aL (iJ rfl (et rfl T.z_enumerate (ad (aa 1) af)) (cX rfl (aS (aO (i:=3) S.nd rfl (Or.inl rfl)) (aS (aO (i:=4) S.nd rfl (Or.inl rfl)) ce)) (au (au bc))) (aW (fG (bi (a9 (aj (fJ T hB) hr T.t_q16 (ai (aa 4) (ai ae (ai (aa 3) ak)))))) (aW (bH (jY T) (hr.mono (by decide)) T.bi_q49 T.x_q49 T.fi_q49 T.kc_q49 rfl T.m_q49 (ad bR (ad (aa 3) af)))) cR)))
  (aW (iJ rfl (et rfl T.z_enumerate (ad (aa 2) af)) (cX rfl (aS (aO (i:=3) S.nd rfl (Or.inl rfl)) (aS (aO (i:=5) S.nd rfl (Or.inl rfl)) ce)) (au (au bc))) (aW (fG (bi (a9 (aj (fJ T hB) hr T.t_q16 (ai (aa 5) (ai ae (ai (dq (i:=1000000) rfl T.c_MOST_ROOM) ak)))))) (aW (bH (jY T) (hr.mono (by decide)) T.bi_q49 T.x_q49 T.fi_q49 T.kc_q49 rfl T.m_q49 (ad bR (ad (aa 3) af)))) cR))))))),fun ds q qx h=>?_⟩
 case hl=>intro ds q qx h; obtain ⟨d,rfl,_⟩:=h; rfl
 obtain ⟨d,rfl,hp,q0,x0⟩:=h
 refine ⟨d,rfl,hp,?_⟩
 cases hT:gz d with
 | false=>exact ⟨rfl,fmt2 (kr (by decide)) fc,x0 _ _ (il hT)⟩
 | true =>
  obtain ⟨ps,rs,rfl,hl,h1,h2⟩:=iT hT
  rw [g9 hT] at q0 x0
  rw [pln,aX,aX,pln,pln] at hp
  refine ⟨fun i ρ=>∃ v1 v2 v3,ρ=[some (.tup [.lst ps,.lst rs]),some (.lst ps),some (.lst rs),v1,v2,v3]∧aA lH ps 0=aA lH (ps.drop i) i,⟨_,_,_,rfl,rfl⟩,?_,?_⟩
  ·rintro i d ρ hd ⟨v1,v2,v3,rfl,hf⟩
   obtain ⟨d',hd',rfl⟩:=dG hd
   have hi:i<ps.length:=(List.getElem?_eq_some_iff.mp hd').1
   refine ⟨d',0,(i:Int),rfl,cL (gi hp.1 hd'),?_⟩
   rw [cQ hd'] at hf
   cases hb:btw 0 (i:Int) d' with
   | true =>
    rw [if_pos (show lH i d'=true from hb)] at hf
    exact ⟨_,_,_,rfl,hf⟩
   | false =>
    rw [if_neg (show ¬ lH i d'=true by show ¬ btw 0 (i:Int) d'=true; rw [hb]; decide)] at hf
    exact ⟨rfl,fmt2 (kr (by decide)) (fq (Nat.lt_trans (show i<23 by omega) (by decide))),x0 _ _ (by rw [hf])⟩
  ·rintro ρ ⟨v1,v2,v3,rfl,hf⟩
   rw [show (eP ps).length=ps.length by simp [eP],List.drop_length] at hf
   have hf:aA lH ps 0=none:=hf
   rw [hf] at q0 x0
   refine ⟨fun i ρ=>∃ v1 v2 v3,ρ=[some (.tup [.lst ps,.lst rs]),some (.lst ps),some (.lst rs),v1,v2,v3]∧aA gX rs 0=aA gX (rs.drop i) i,⟨_,_,_,rfl,rfl⟩,?_,?_⟩
   ·rintro i d ρ hd ⟨v1,v2,v3,rfl,hg⟩
    obtain ⟨d',hd',rfl⟩:=dG hd
    have hi:i<rs.length:=(List.getElem?_eq_some_iff.mp hd').1
    refine ⟨d',1,1000000,rfl,cL (gi hp.2.1 hd'),?_⟩
    rw [cQ hd'] at hg
    cases hb:btw 1 1000000 d' with
    | true =>
     rw [if_pos (show gX i d'=true from hb)] at hg
     exact ⟨_,_,_,rfl,hg⟩
    | false =>
     rw [if_neg (show ¬ gX i d'=true by show ¬ btw 1 1000000 d'=true; rw [hb]; decide)] at hg
     exact ⟨rfl,fmt2 (kr (by decide)) (fq (Nat.lt_trans (show i<23 by omega) (by decide))),x0 _ _ (by rw [hg])⟩
   ·rintro ρ ⟨v1,v2,v3,rfl,hg⟩
    rw [show (eP rs).length=rs.length by simp [eP],List.drop_length] at hg
    have hg:aA gX rs 0=none:=hg
    rw [hg] at q0
    exact q0 rfl
theorem ok_q8 (T:Txt K mg A) (hB:TabB base mg A.tc A.tP tqS):FnOk P w K mg base CX0 3 A.f_q8 A.d_q8 ["thing"] (bb [false] false (wj)):=by
 have S:=uO
 refine fnD T.t_q8.F S ⟨[false],[false,false,false,false,false,false],false⟩ _ ?hl rfl rfl fun cdv Ar outer s H E hr=>⟨_,(ag (bj (bi (a9 (aj (uT T hB) hr T.t_q4 (ai (aa 0) ak)))) (am d5) aT)
  (ag (i7 (aa 0) (cX rfl (aS (aO (i:=1) S.nd rfl (Or.inl rfl)) (aS (aO (i:=2) S.nd rfl (Or.inl rfl)) ce)) (au (au bc))))
  (ag (cY PassesOwn.never rfl (et rfl T.z_enumerate (ad (aa 1) af)) (cX rfl (aS (aO (i:=3) S.nd rfl (Or.inl rfl)) (aS (aO (i:=4) S.nd rfl (Or.inl rfl)) ce)) (au (au bc))) (am (bj (bi (a9 (aj (fJ T hB) hr T.t_q16 (ai (aa 4) (ai ae (ai (aa 3) ak)))))) (am d5) aT)))
  (am (cY PassesOwn.never rfl (et rfl T.z_enumerate (ad (aa 2) af)) (cX rfl (aS (aO (i:=3) S.nd rfl (Or.inl rfl)) (aS (aO (i:=5) S.nd rfl (Or.inl rfl)) ce)) (au (au bc))) (am (bj (bi (a9 (aj (fJ T hB) hr T.t_q16 (ai (aa 5) (ai ae (ai (dq (i:=1000000) rfl T.c_MOST_ROOM) ak)))))) (am d5) aT))))))),fun ds q h=>?_⟩
 case hl=>intro ds q h; obtain ⟨ps,rs,rfl,_⟩:=h; rfl
 obtain ⟨ps,rs,rfl,hT,q0⟩:=h
 refine ⟨aw ps rs,rfl,iD ps rs,?_⟩
 rw [jO hT]
 refine ⟨fun _ ρ=>∃ v1 v2 v3,ρ=[some (aw ps rs),some (aF ps),some (aF rs),v1,v2,v3],⟨_,_,_,rfl⟩,?_,?_⟩
 ·rintro i d ρ hd ⟨v1,v2,v3,rfl⟩
  obtain ⟨d',h1,rfl⟩:=dG hd
  obtain ⟨z,hz,rfl⟩:=gD h1
  have hb:=hT.par i z hz
  refine ⟨.int z,0,(i:Int),rfl,rfl,?_⟩
  rw [dC hb.1 hb.2]
  exact ⟨_,_,_,rfl⟩
 ·rintro ρ ⟨v1,v2,v3,rfl⟩
  refine ⟨fun _ ρ=>∃ v1 v2 v3,ρ=[some (aw ps rs),some (aF ps),some (aF rs),v1,v2,v3],⟨_,_,_,rfl⟩,?_,?_⟩
  ·rintro i d ρ hd ⟨v1,v2,v3,rfl⟩
   obtain ⟨d',h1,rfl⟩:=dG hd
   obtain ⟨z,hz,rfl⟩:=gD h1
   have hb:=hT.room i z hz
   refine ⟨.int z,1,1000000,rfl,rfl,?_⟩
   rw [dC hb.1 hb.2]
   exact ⟨_,_,_,rfl⟩
  ·rintro ρ ⟨v1,v2,v3,rfl⟩
   exact q0
theorem pw (T:Txt K mg A) (hB:TabB base mg A.tc A.tP tqS):FnOk P w K mg base CX0 3 A.f_q33 A.d_q33 ["tree","thing"] (bb [false,false] false (sH)):=by
 have S:=wF
 refine fnD T.t_q33.F S ⟨[false,false],[false,false],false⟩ _ ?hl rfl rfl fun cdv Ar outer s H E hr=>⟨_,(am (aE (aj (fJ T hB) hr T.t_q16 (ai (aa 1) (ai ae (ai (aK az dl rfl T.z_len bh (ad (ar ao dIx (aa 0) ae (fun _ _=>rfl)) af)) ak)))))),fun ds q h=>?_⟩
 case hl=>intro ds q h; obtain ⟨ps,rs,d,rfl,_⟩:=h; rfl
 obtain ⟨ps,rs,d,rfl,hs,q0⟩:=h
 refine ⟨d,0,((ps.map D.int).length:Int),rfl,hs,?_⟩
 rw [List.length_map]; exact q0
theorem pE (T:Txt K mg A) (hB:TabB base mg A.tc A.tP tqS):FnOk P w K mg base CX0 4 A.f_q31 A.d_q31 ["tree","one","other"] (bb [false,false,false] false (tV)):=by
 have S:=vx
 refine fnD T.t_q31.F S ⟨[false,false,false],[false,false,false],false⟩ _ ?hl rfl rfl fun cdv Ar outer s H E hr=>⟨_,(am (aE (eC (aj (pw T hB) hr T.t_q33 (ai (aa 0) (ai (aa 1) ak))) (eC (aj (pw T hB) hr T.t_q33 (ai (aa 0) (ai (aa 2) ak))) (fL (dJ (bo hr.units) dNe (aa 1) (aa 2) (aR _))))))),fun ds q h=>?_⟩
 case hl=>intro ds q h; obtain ⟨ps,rs,a,b,rfl,_⟩:=h; rfl
 obtain ⟨ps,rs,a,b,rfl,ha,hb,q0⟩:=h
 refine ⟨ps,rs,a,rfl,cL ha,?_⟩
 unfold fD at q0
 cases h1:btw 0 ps.length a with
 | false=>rw [h1,Bool.false_and] at q0; exact q0
 | true =>
  rw [h1,Bool.true_and] at q0
  refine ⟨ps,rs,b,rfl,cL hb,?_⟩
  cases h2:btw 0 ps.length b with
  | false=>rw [h2,Bool.false_and] at q0; exact q0
  | true =>
   rw [h2,Bool.true_and] at q0
   obtain ⟨i,rfl,_⟩:=df h1
   obtain ⟨j,rfl,_⟩:=df h2
   exact q0
theorem ok_q6 (T:Txt K mg A) (hB:TabB base mg A.tc A.tP tqS):FnOk P w K mg base CX0 5 A.f_q6 A.d_q6 ["tree","one","other"] (bb [false,false,false] false (mQ)):=by
 have S:=sc_q6
 refine fnD T.t_q6.F S ⟨[false,false,false],[false,false,false],false⟩ _ ?hl rfl rfl fun cdv Ar outer s H E hr=>⟨_,(ag (ni (aj (ok_q8 T hB) hr T.t_q8 (ai (aa 0) ak)))
  (am (bj (bi (a9 (aj (pE T hB) hr T.t_q31 (ai (aa 0) (ai (aa 1) (ai (aa 2) ak)))))) (am d5) aT))),fun ds q h=>?_⟩
 case hl=>intro ds q h; obtain ⟨ps,rs,a,b,rfl,_⟩:=h; rfl
 obtain ⟨ps,rs,a,b,rfl,hT,he,q0⟩:=h
 refine ⟨ps,rs,rfl,hT,?_⟩
 refine ⟨ps,rs,.int a,.int b,rfl,rfl,rfl,?_⟩
 rw [lx he]
 exact q0
theorem wb (T:Txt K mg A) (hB:TabB base mg A.tc A.tP tqS):FnOk P w K mg base CX0 1 A.f_q60 A.d_q60 ["tree","one","other"] (bb [false,false,false] true (ug)):=by
 have S:=wS
 refine fnD T.t_q60.F S ⟨[false,false,false],[false,false,false,true,false],true⟩ _ ?hl rfl rfl fun cdv Ar outer s H E hr=>⟨_,(ag (ey (i:=3) S.nd rfl (Or.inl rfl) (dH af))
  (ag (gq PassesOwn.never (aY (bo hr.units) dNe (aa 1) (aa 2) (aR _)) (ag (aH (i:=4) S.nd rfl (Or.inl rfl) (aK (fz rfl) dMax rfl T.z_max kO (ad (aa 1) (ad (aa 2) af))))
  (ag (dS (i:=3) rfl (QE.qf (aa 4)))
  (am (kI (i:=1) (j:=2) rfl S.nd rfl rfl (by decide) rfl rfl (aK (gF rfl) dMin rfl T.z_min lW (ad (aa 1) (ad (aa 2) af))) (ar ao dIx (ar ao dIx (aa 0) ae (fun _ _=>rfl)) (ay bW dI (aa 4) ae) (fun _ _=>rfl)) rfl)))))
  (am (bD (jW (bG (QF.qm (QF.bor [3] (ld gc pB rfl T.z_sorted jP (ad (aa 3) af)))) (bG (QF.qm (QE.qf (aa 1))) ig))))))),fun ds q h=>?_⟩
 case hl=>intro ds q h; obtain ⟨ps,rs,a,b,rfl,_⟩:=h; rfl
 obtain ⟨ps,rs,a,b,rfl,hT,a0,a1,b0,b1,q0⟩:=h
 refine ⟨rfl,?_⟩
 refine ⟨fun k ρ=>∃ a' b' acc v,ρ=[some (aw ps rs),some (.int a'),some (.int b'),some (aF acc),v]∧0≤a'∧a'≤ps.length∧0≤b'∧b'≤ps.length∧k=(a' + b').toNat∧acc.length + (a' + b').toNat≤46∧(∀ w m,Climb ps a' b' w m→Climb ps a b (acc++w) m),⟨_,a,b,[],_,rfl,a0,a1,b0,b1,rfl,by have:=hT.hi; simp; omega,fun w m h=>h⟩,?_⟩
 rintro k ρ ⟨a',b',acc,v,rfl,a0',a1',b0',b1',rfl,hl,hc⟩
 have hi:=hT.hi
 refine (bQ (c:=(!decide (a'=b'))=true) (fun c=>?_) (fun c=>?_))
 ·have hne:a'≠b':=by simpa using c
  have key:∀ (low hig:Int),low=(if b' > a' then b' else a')→hig=(if b'<a' then b' else a')→0<low∧low≤ps.length∧0≤hig∧hig≤ps.length∧low + hig=a' + b'∧(∀ w m,Climb ps hig (dr ps low) w m→Climb ps a' b' (low :: w) m):=by
   intro low hig e1 e2
   by_cases hlt:b'<a'
   ·rw [if_neg (by omega)] at e1; rw [if_pos hlt] at e2; subst e1; subst e2
    exact ⟨by omega,a1',b0',b1',by omega,fun w m h=>.left hlt h⟩
   ·rw [if_pos (by omega)] at e1; rw [if_neg hlt] at e2; subst e1; subst e2
    exact ⟨by omega,b1',a0',a1',by omega,fun w m h=>.right (by omega) h⟩
  obtain ⟨L,hL⟩:∃ L,L=(if b' > a' then b' else a'):=⟨_,rfl⟩
  obtain ⟨J,hJ⟩:∃ J,J=(if b'<a' then b' else a'):=⟨_,rfl⟩
  obtain ⟨k1,k2,k3,k4,k5,k6⟩:=key L J hL hJ
  have hp:=hT.up k1 k2
  refine ⟨rfl,?_⟩
  refine ⟨by show (acc.map D.int).length<1000; rw [List.length_map]; omega,?_⟩
  refine be (cW (by rw [← hL]; omega) (by rw [← hL]; omega)) ?_
  refine ⟨(J + dr ps L).toNat,by omega,J,dr ps L,acc++[L],some (.int L),?_,k3,k4,hp.1,by omega,rfl,by rw [List.length_append]; show acc.length + 1 + _≤46; omega,fun w m h=>by rw [List.append_assoc]; exact hc _ _ (k6 _ _ h)⟩
  show [some (aw ps rs),some (.int (if b'<a' then b' else a')),some (.int (dr ps (if b' > a' then b' else a'))),some (D.lst (acc.map D.int++[D.int (if b' > a' then b' else a')])),some (.int (if b' > a' then b' else a'))]=_
  rw [← hL,← hJ,aF,List.map_append]; rfl
 ·have:a'=b':=by simpa using c
  subst this
  have hw:=hc [] a' (.same a')
  rw [List.append_nil] at hw
  have hln:=hw.len hT a0 b0 a1 b1
  refine ⟨acc,rfl,by omega,d3 _,rfl,?_⟩
  exact q0 acc a' hw
theorem uZ (T:Txt K mg A) (hB:TabB base mg A.tc A.tP tqS):FnOk P w K mg base CX0 6 A.f_q15 A.d_q15 ["tree","one","other"] (bb [false,false,false] true (sdWay)):=by
 have S:=wE
 refine fnD T.t_q15.F S ⟨[false,false,false],[false,false,false,true,false],true⟩ _ ?hl rfl rfl fun cdv Ar outer s H E hr=>⟨_,(ag (ni (aj (ok_q6 T hB) hr T.t_q6 (ai (aa 0) (ai (aa 1) (ai (aa 2) ak)))))
  (ag (kB rfl (QF.qm (aQ (wb T hB) hr T.t_q60 (ai (aa 0) (ai (aa 1) (ai (aa 2) ak))))) (kN (i:=3) S.nd rfl (Or.inl rfl) (iL (i:=4) S.nd rfl (Or.inl rfl) kq)) (au (au bc)))
  (am (bD (fj 3))))),fun ds q h=>?_⟩
 case hl=>intro ds q h; obtain ⟨ps,rs,a,b,rfl,_⟩:=h; rfl
 obtain ⟨ps,rs,a,b,rfl,hT,he,q0⟩:=h
 refine ⟨ps,rs,a,b,rfl,hT,he,?_⟩
 refine ⟨ps,rs,a,b,rfl,hT,he.a0,he.a1,he.b0,he.b1,fun w m hw=>?_⟩
 exact q0 w m hw
theorem vR (T:Txt K mg A) (hB:TabB base mg A.tc A.tP tqS):FnOk P w K mg base CX0 7 A.f_q59 A.d_q59 ["tree","ask"] (bb [false,false] true (tG)):=by
 have S:=wd
 refine fnD T.t_q59.F S ⟨[false,false],[false,false],true⟩ _ ?hl rfl rfl fun cdv Ar outer s H E hr=>⟨_,(am (bD (QF.qm (aQ (uZ T hB) hr T.t_q15 (ai (aa 0) (ai (ar ao dIx (aa 1) ae (fun _ _=>rfl)) (ai (ar ao dIx (aa 1) ae (fun _ _=>rfl)) ak))))))),fun ds q h=>?_⟩
 case hl=>intro ds q h; obtain ⟨ps,rs,a,rfl,_⟩:=h; rfl
 obtain ⟨ps,rs,a,rfl,hT,he,q0⟩:=h
 refine ⟨ps,rs,a.one,a.other,rfl,hT,he,fun w m hw=>?_⟩
 rw [(hw.way hT he.a0 he.b0 he.a1 he.b1).1]
 exact q0
theorem u6 (T:Txt K mg A) (hB:TabB base mg A.tc A.tP tqS):FnOk P w K mg base CX0 5 A.f_q51 A.d_q51 ["tree","thing"] (bb [false,false] false (qA)):=by
 have S:=u5
 refine fnD T.t_q51.F S ⟨[false,false],[false,false,false,false,false,false],false⟩ _ ?hl rfl rfl fun cdv Ar outer s H E hr=>⟨_,(ag (bj (QW.qt (d6 (bi (a9 (dL rfl T.z_isinstance aP (aa 1) (cE (v:=.ty "tuple") rfl T.z_tuple eM rfl)))) (cK (aY (bo hr.units) dNe (aK az dl rfl T.z_len bh (ad (aa 1) af)) ae (aR _))))) (am (aE cG)) aT)
  (ag (i7 (aa 1) (cX rfl (aS (aO (i:=2) S.nd rfl (Or.inl rfl)) (aS (aO (i:=3) S.nd rfl (Or.inl rfl)) (aS (aO (i:=4) S.nd rfl (Or.inl rfl)) (aS (aO (i:=5) S.nd rfl (Or.inl rfl)) ce)))) (au (au (au (au bc))))))
  (am (aE (eC (aj (pE T hB) hr T.t_q31 (ai (aa 0) (ai (aa 2) (ai (aa 3) ak)))) (eC (aj (fJ T hB) hr T.t_q16 (ai (aa 4) (ai ae (ai (dq (i:=1000000) rfl T.c_MOST_SIZE) ak)))) (fL (aj (fJ T hB) hr T.t_q16 (ai (aa 5) (ai ae (ai (dq (i:=1000000000000) rfl T.c_MOST_WORTH) ak))))))))))),fun ds q h=>?_⟩
 case hl=>intro ds q h; obtain ⟨ps,rs,d,rfl,_⟩:=h; rfl
 obtain ⟨ps,rs,d,rfl,hp,q0⟩:=h
 cases d with
 | tup ds =>
  refine (bQ (c:=(!decide ((ds.length:Int)=4))=true) (fun c=>?_) (fun c=>?_))
  ·have:jf ps.length (.tup ds)=false:=by
    cases h:jf ps.length (.tup ds) with
    | false=>rfl
    | true =>
     obtain ⟨a,e,_⟩:=sW h
     unfold bv at e; cases e; simp at c
   rw [this] at q0; exact q0
  ·obtain ⟨a,b,s',w',rfl⟩:∃ a b s w,ds=[a,b,s,w]:=by
    have hl:ds.length=4:=by simp at c; omega
    match ds,hl with
    | [a,b,s,w],_=>exact ⟨a,b,s,w,rfl⟩
   rw [pln,aX,aX,aX,aX] at hp
   have e:jf ps.length (.tup [a,b,s',w'])=(fD ps.length a b&&(btw 1 1000000 s'&&btw 1 1000000000000 w')):=rfl
   rw [e] at q0
   refine ⟨ps,rs,a,b,rfl,hp.1,hp.2.1,?_⟩
   cases h1:fD ps.length a b with
   | false=>rw [h1,Bool.false_and] at q0; exact q0
   | true =>
    rw [h1,Bool.true_and] at q0
    refine ⟨s',1,1000000,rfl,cL hp.2.2.1,?_⟩
    cases h2:btw 1 1000000 s' with
    | false=>rw [h2,Bool.false_and] at q0; exact q0
    | true =>
     rw [h2,Bool.true_and] at q0
     exact ⟨w',1,1000000000000,rfl,cL hp.2.2.2.1,q0⟩
 | _=>first | exact q0 | (rw [pln] at hp; cases hp)
theorem vY (T:Txt K mg A) (hB:TabB base mg A.tc A.tP tqS):FnOk P w K mg base (CX1 P w) 6 A.f_q5 A.d_q5 ["tree","thing"] (cy [false,false] false ((tj A.c_q49 A.c_q48))):=by
 have S:=sc_q5
 refine fnX T.t_q5.F S ⟨[false,false],[false,false,false,false],false⟩ _ ?hl rfl rfl fun cdv Ar outer s H E hr=>⟨_,(aL (eB (bI (rq T hB) hr T.t_q8 (ai (aa 0) ak)))
  (aL (fG (QW.qt (d6 (bi (a9 (dL rfl T.z_isinstance aP (aa 1) (cE (v:=.ty "list") rfl T.z_list cO rfl)))) (cK (aY gZ dB (aK az dl rfl T.z_len bh (ad (aa 1) af)) (dq (i:=30) rfl T.c_MOST_ASKS) (aR _))))) (aW (bH (mY T) (hr.mono (by decide)) T.bi_q48 T.x_q48 T.fi_q48 T.kc_q48 rfl T.m_q48 (ad bE af))) cR)
  (aW (iJ rfl (et rfl T.z_enumerate (ad (aa 1) af)) (cX rfl (aS (aO (i:=2) S.nd rfl (Or.inl rfl)) (aS (aO (i:=3) S.nd rfl (Or.inl rfl)) ce)) (au (au bc))) (aW (fG (bi (a9 (aj (u6 T hB) hr T.t_q51 (ai (aa 0) (ai (aa 3) ak))))) (aW (bH (mY T) (hr.mono (by decide)) T.bi_q48 T.x_q48 T.fi_q48 T.kc_q48 rfl T.m_q48 (ad (aa 2) af))) cR)))))),fun ds q qx h=>?_⟩
 case hl=>intro ds q qx h; obtain ⟨t,x,rfl,_⟩:=h; rfl
 obtain ⟨t,x,rfl,h⟩:=h
 rcases h with ⟨p,n,hp,he,x0⟩ | ⟨ps,rs,rfl,hT,hx,h⟩
 ·refine ⟨t,rfl,hp,fun z=>?_,fun p' n' z=>?_⟩
  ·rw [he] at z; cases z
  ·rw [he] at z; cases z; exact x0
 ·refine ⟨aw ps rs,rfl,iD ps rs,fun _=>?_,fun p' n' z=>by rw [f9 hT] at z; cases z⟩
  have no:(∃ n,some D.non=some n∧qx A.c_q48 eA [n] [])∨(some D.non=none∧q .non [])→qx A.c_q48 eA [.non] []:=fun h=>by
   rcases h with ⟨n,e,z⟩ | ⟨e,_⟩
   ·cases e; exact z
   ·cases e
  cases x with
  | lst ds =>
   have e:gb ps.length (.lst ds)=if ds.length≤30 then (aA (mD ps.length) ds 0).map (fun (i:Nat)=>D.int i) else some .non:=rfl
   rw [e] at h
   refine (bQ (c:=decide ((30:Int)<(ds.length:Int))=true) (fun c=>?_) (fun c=>?_))
   ·have c' : ¬ ds.length≤30:=by have:=of_decide_eq_true c; omega
    rw [if_neg c'] at h
    exact ⟨rfl,kd fc,no h⟩
   ·have c':ds.length≤30:=by have : ¬ ((30:Int)<(ds.length:Int)):=fun z=>c (decide_eq_true z); omega
    rw [if_pos c'] at h
    rw [pln] at hx
    refine ⟨fun i ρ=>∃ v1 v2,ρ=[some (aw ps rs),some (.lst ds),v1,v2]∧aA (mD ps.length) ds 0=aA (mD ps.length) (ds.drop i) i,⟨_,_,rfl,rfl⟩,?_,?_⟩
    ·rintro i d ρ hd ⟨v1,v2,rfl,hf⟩
     obtain ⟨d',hd',rfl⟩:=dG hd
     have hi:i<ds.length:=(List.getElem?_eq_some_iff.mp hd').1
     refine ⟨ps,rs,d',rfl,gi hx hd',?_⟩
     rw [cQ hd'] at hf
     cases hb:jf ps.length d' with
     | true =>
      rw [if_pos (show mD ps.length i d'=true from hb)] at hf
      exact ⟨_,_,rfl,hf⟩
     | false =>
      rw [if_neg (show ¬ mD ps.length i d'=true by show ¬ jf ps.length d'=true; rw [hb]; decide)] at hf
      rw [hf] at h
      refine ⟨rfl,kd (fq (Nat.lt_trans (show i<31 by omega) (by decide))),?_⟩
      rcases h with ⟨n,e,z⟩ | ⟨e,_⟩
      ·cases e; exact z
      ·cases e
    ·rintro ρ ⟨v1,v2,rfl,hf⟩
     rw [show (eP ds).length=ds.length by simp [eP],List.drop_length] at hf
     have hf:aA (mD ps.length) ds 0=none:=hf
     rw [hf] at h
     rcases h with ⟨n,e,z⟩ | ⟨_,z⟩
     ·cases e
     ·exact z
  | _=>first | exact ⟨rfl,kd fc,no h⟩ | (rw [pln] at hx; cases hx)
end
end K35
namespace K35
open PySem L2
section
variable {P:Program} {w:World} {K:PySem.W.Frag} {mg:Str→Option Value} {base:Heap} {A:Adr}
theorem pq (T:Txt K mg A) (hB:TabB base mg A.tc A.tP tqS):FnOk P w K mg base CX0 1 A.f_q0 A.d_q0 ["number","bottom"] (bb [false,false] false (sdGcd)):=by
 have S:=sc_q0
 refine fnD T.t_q0.F S ⟨[false,false],[false,false],false⟩ _ ?hl rfl rfl fun cdv Ar outer s H E hr=>⟨_,(ag (gq PassesOwn.never (aY (bo hr.units) dNe (aa 1) ae (aR _)) (am (kI (i:=0) (j:=1) rfl S.nd rfl rfl (by decide) rfl rfl (aa 1) (ay di dIC (aa 0) (aa 1)) rfl)))
  (am (aE (aa 0)))),fun ds q h=>?_⟩
 case hl=>intro ds q h; obtain ⟨n,b,rfl,_⟩:=h; rfl
 obtain ⟨n,b,rfl,hb,q0⟩:=h
 refine ⟨fun k ρ=>∃ n' b':Int,ρ=[some (.int n'),some (.int b')]∧0≤b'∧b'.toNat=k∧bF n' b'=bF n b,⟨_,n,b,rfl,hb,rfl,rfl⟩,?_⟩
 rintro k ρ ⟨n',b',rfl,hb',hk,hg⟩
 refine (bQ (c:=(!decide (b'=0))=true) (fun c=>?_) (fun c=>?_))
 ·have c':b'≠0:=by simpa using c
  have hp : 0<b':=by omega
  refine ⟨hp,?_⟩
  have:=Int.emod_lt_of_pos n' hp
  have:=Int.emod_nonneg n' (show b'≠0 by omega)
  exact ⟨_,by omega,b',n' % b',rfl,by omega,rfl,by rw [jK hp]; exact hg⟩
 ·have c':b'=0:=by simpa using c
  subst c'
  have e:bF n b=n':=by rw [← hg]; unfold bF; rw [if_pos rfl]
  rw [e] at q0; exact q0
theorem mG (T:Txt K mg A) (hB:TabB base mg A.tc A.tP tqS):FnOk P w K mg base CX0 2 A.f_q32 A.d_q32 ["top","bottom"] (bb [false,false] false (wa)):=by
 have S:=wt
 refine fnD T.t_q32.F S ⟨[false,false],[false,false,false],false⟩ _ ?hl rfl rfl fun cdv Ar outer s H E hr=>⟨_,(ag (bj (QW.qt (d6 (bi (a9 (aj (iN T hB) hr T.t_q35 (ai (aa 0) ak)))) (cK (bi (a9 (aj (iN T hB) hr T.t_q35 (ai (aa 1) ak))))))) (am d5) aT)
  (ag (bj (aY (kD hr.units) dEq (aa 1) ae (aR _)) (am d5) aT)
  (ag (bV (bj (aY nK dB (aa 1) ae (aR _)) (am (kI (i:=0) (j:=1) rfl S.nd rfl rfl (by decide) rfl rfl (i4 (aa 0)) (i4 (aa 1)) rfl)) aT))
  (ag (aH (i:=2) S.nd rfl (Or.inl rfl) (aj (pq T hB) hr T.t_q0 (ai (aa 0) (ai (aa 1) ak))))
  (am (aE (bf (ad (ay dg dIC (aa 0) (aa 2)) (ad (ay dg dIC (aa 1) (aa 2)) af))))))))),fun ds q h=>?_⟩
 case hl=>intro ds q h; obtain ⟨t,b,rfl,_⟩:=h; rfl
 obtain ⟨t,b,rfl,hb,hs,q0⟩:=h
 refine ⟨.int t,rfl,rfl,?_⟩
 refine ⟨.int b,rfl,rfl,?_⟩
 refine (bQ (c:=decide (b=0)=true) (fun c=>absurd (of_decide_eq_true c) hb) (fun _=>?_))
 refine ⟨fun ρ=>∃ t' b':Int,ρ=[some (.int t'),some (.int b'),none]∧0<b'∧Sm b'∧Rat.divInt t' b'=Rat.divInt t b,?_,?_⟩
 ·refine (bQ (c:=decide (b<0)=true) (fun c=>?_) (fun c=>?_))
  ·have c':b<0:=by simpa using c
   exact ⟨-t,-b,rfl,by omega,by show (-b).natAbs<_; rw [Int.natAbs_neg]; exact hs,Rat.neg_divInt_neg t b⟩
  ·have c' : ¬ b<0:=by simpa using c
   exact ⟨t,b,rfl,by omega,hs,rfl⟩
 ·rintro ρ ⟨t',b',rfl,hp,hs',he⟩
  refine ⟨t',b',rfl,Int.le_of_lt hp,?_⟩
  have g:=d9 (n:=t') hp
  have gl:=ko (n:=t') hp
  have gs:Sm (bF t' b'):=by show (bF t' b').natAbs<_; exact Nat.lt_of_le_of_lt (by omega) hs'
  refine ⟨⟨g,gs⟩,⟨g,gs⟩,?_⟩
  rw [kA hp,ku hp,he]
  exact q0
theorem wy (T:Txt K mg A) (hB:TabB base mg A.tc A.tP tqS):FnOk P w K mg base CX0 3 A.f_q63 A.d_q63 ["one","other"] (bb [false,false] false (uc)):=by
 have S:=vc
 refine fnD T.t_q63.F S ⟨[false,false],[false,false],false⟩ _ ?hl rfl rfl fun cdv Ar outer s H E hr=>⟨_,(am (aE (aj (mG T hB) hr T.t_q32 (ai (ay bW dI (ay bM dIC (ar ao dIx (aa 0) ae (fun _ _=>rfl)) (ar ao dIx (aa 1) ae (fun _ _=>rfl))) (ay bM dIC (ar ao dIx (aa 1) ae (fun _ _=>rfl)) (ar ao dIx (aa 0) ae (fun _ _=>rfl)))) (ai (ay bM dIC (ar ao dIx (aa 0) ae (fun _ _=>rfl)) (ar ao dIx (aa 1) ae (fun _ _=>rfl))) ak))))),fun ds q h=>?_⟩
 case hl=>intro ds q h; obtain ⟨r,s,rfl,_⟩:=h; rfl
 obtain ⟨r,s,rfl,hr,hs,q0⟩:=h
 refine ⟨⟨hr.smN (by decide),hs.smD (by decide)⟩,⟨hs.smN (by decide),hr.smD (by decide)⟩,⟨hr.smD (by decide),hs.smD (by decide)⟩,?_⟩
 refine ⟨_,_,rfl,Int.ne_of_gt (cV r s),Sm.of (n:=7900) (by rw [b9,Int.natAbs_natCast,Int.natAbs_natCast]; exact a7 (m:=3950) (n:=3950) hr.den hs.den) (by decide),?_⟩
 rw [← so]; exact q0
theorem pS (T:Txt K mg A) (hB:TabB base mg A.tc A.tP tqS):FnOk P w K mg base CX0 3 A.f_q64 A.d_q64 ["one","other"] (bb [false,false] false (tz)):=by
 have S:=wM
 refine fnD T.t_q64.F S ⟨[false,false],[false,false],false⟩ _ ?hl rfl rfl fun cdv Ar outer s H E hr=>⟨_,(am (aE (aj (mG T hB) hr T.t_q32 (ai (ay bM dIC (ar ao dIx (aa 0) ae (fun _ _=>rfl)) (ar ao dIx (aa 1) ae (fun _ _=>rfl))) (ai (ay bM dIC (ar ao dIx (aa 0) ae (fun _ _=>rfl)) (ar ao dIx (aa 1) ae (fun _ _=>rfl))) ak))))),fun ds q h=>?_⟩
 case hl=>intro ds q h; obtain ⟨r,s,rfl,_⟩:=h; rfl
 obtain ⟨r,s,rfl,hr,hs,q0⟩:=h
 refine ⟨⟨hr.smN (by decide),hs.smN (by decide)⟩,⟨hr.smD (by decide),hs.smD (by decide)⟩,?_⟩
 refine ⟨_,_,rfl,Int.ne_of_gt (cV r s),Sm.of (n:=7900) (by rw [b9,Int.natAbs_natCast,Int.natAbs_natCast]; exact a7 (m:=3950) (n:=3950) hr.den hs.den) (by decide),?_⟩
 rw [← o8]; exact q0
theorem l_ (T:Txt K mg A) (hB:TabB base mg A.tc A.tP tqS):FnOk P w K mg base CX0 3 A.f_q58 A.d_q58 ["some"] (bb [false] false (we)):=by
 have S:=vp
 refine fnD T.t_q58.F S ⟨[false],[false,false,false],false⟩ _ ?hl rfl rfl fun cdv Ar outer s H E hr=>⟨_,(ag (aH (i:=1) S.nd rfl (Or.inr rfl) ae)
  (ag (cY PassesOwn.never rfl (bS (aa 0)) (aO (i:=2) S.nd rfl (Or.inl rfl)) (am (aH (i:=1) S.nd rfl (Or.inr rfl) (ay bM dIC (ay dg dIC (aa 1) (aj (pq T hB) hr T.t_q0 (ai (aa 1) (ai (ar ao dIx (aa 2) ae (fun _ _=>rfl)) ak)))) (ar ao dIx (aa 2) ae (fun _ _=>rfl))))))
  (am (aE (aj (mG T hB) hr T.t_q32 (ai (aK (oK rfl) dSum rfl T.z_sum vV (ad (h_ ["one"] [1] ⟨rfl,rfl,by decide +kernel,rfl,rfl,(by first | exact trivial | exact ⟨rfl,trivial⟩ | exact ⟨rfl,rfl,trivial⟩ | exact ⟨rfl,rfl,rfl,trivial⟩ | exact ⟨rfl,rfl,rfl,rfl,trivial⟩),rfl⟩ rfl (bS (aa 0)) (dF 0) (fun _ _ _ _=>⟨(cB (i:=0) (show List.Nodup (["one","bottom"]:List Str) by decide +kernel) rfl (Or.inl rfl)),fh,(ay bM dIC (ar ao dIx (aa 0) ae (fun _ _=>rfl)) (ay dg dIC (aa 1) (ar ao dIx (aa 0) ae (fun _ _=>rfl))))⟩)) af)) (ai (aa 1) ak))))))),fun ds q h=>?_⟩
 case hl=>intro ds q h; obtain ⟨rs,M,rfl,_⟩:=h; rfl
 obtain ⟨rs,M,rfl,hl,hn,hM,hp,q0⟩:=h
 refine ⟨fun i ρ=>∃ (B:Int) (v:Option D),ρ=[some (dQs rs),some (.int B),v]∧Com (rs.take i) M B,⟨1,_,rfl,ue M⟩,?_,?_⟩
 ·rintro i d ρ hd ⟨B,v,rfl,hB⟩
  obtain ⟨r,hr,rfl⟩:∃ r,rs[i]? = some r∧dQ r=d:=by rw [List.getElem?_map,Option.map_eq_some_iff] at hd; exact hd
  have hd:=a8 r
  have hmem:=List.mem_of_getElem? hr
  have hdp:=Nat.le_of_dvd hM (hn r hmem).2
  have hle:=hB.le hM
  have hB0:=hB.pos
  have g:=d9 (n:=B) hd
  have gl:=ko (n:=B) hd
  refine ⟨B,r.den,rfl,Int.le_of_lt hd,?_⟩
  refine ⟨⟨g,Sm.of (n:=3900) (by omega) (by decide)⟩,⟨Sm.of (n:=3900) (Nat.lt_of_le_of_lt (gw g) (by omega)) (by decide),Sm.of (n:=3900) (by omega) (by decide)⟩,?_⟩
  refine ⟨_,_,rfl,?_⟩
  rw [List.take_add_one,hr]
  exact pL hB (hn r hmem).2
 ·rintro ρ ⟨B,v,rfl,hB⟩
  have el:(rs.map dQ).length=rs.length:=List.length_map _
  rw [el,List.take_length] at hB
  have hle:=hB.le hM
  have hB0:=hB.pos
  refine ⟨by rw [el]; omega,?_⟩
  refine fw (sumF B) ?_ ?_
  ·intro d hd k hk
   obtain ⟨r,hr,rfl⟩:=List.mem_map.mp hd
   have hd:=a8 r
   have hdp:=Nat.le_of_dvd hM (hn r hr).2
   refine ⟨⟨hd,Sm.of (n:=3900) (by omega) (by decide)⟩,⟨Sm.of (hn r hr).1 (by decide),Sm.of (n:=3900) (Nat.lt_of_le_of_lt (gw hd) (by omega)) (by decide)⟩,?_⟩
   exact hk
  ·rw [sf]
   refine ⟨_,rfl,?_⟩
   refine ⟨_,B,rfl,by omega,Sm.of (n:=3900) (by omega) (by decide),?_⟩
   rw [kW hB0 hB.dv]
   exact q0
theorem wK (T:Txt K mg A) (hB:TabB base mg A.tc A.tP tqS):FnOk P w K mg base CX0 1 A.f_q65 A.d_q65 ["one","other"] (bb [false,false] false (sC)):=by
 have S:=wO
 refine fnD T.t_q65.F S ⟨[false,false],[false,false],false⟩ _ ?hl rfl rfl fun cdv Ar outer s H E hr=>⟨_,(am (aE (dJ nK dB (ay bM dIC (ar ao dIx (aa 0) ae (fun _ _=>rfl)) (ar ao dIx (aa 1) ae (fun _ _=>rfl))) (ay bM dIC (ar ao dIx (aa 1) ae (fun _ _=>rfl)) (ar ao dIx (aa 0) ae (fun _ _=>rfl))) (aR _)))),fun ds q h=>?_⟩
 case hl=>intro ds q h; obtain ⟨r,s,rfl,_⟩:=h; rfl
 obtain ⟨r,s,rfl,hr,hs,q0⟩:=h
 refine ⟨⟨hr.smN (by decide),hs.smD (by decide)⟩,⟨hs.smN (by decide),hr.smD (by decide)⟩,?_⟩
 have e:decide (r<s)=decide (r.num * (s.den:Int)<s.num * (r.den:Int)):=decide_eq_decide.mpr (Rat.lt_iff r s)
 rw [e] at q0; exact q0
theorem wg (T:Txt K mg A) (hB:TabB base mg A.tc A.tP tqS):FnOk P w K mg base CX0 2 A.f_q12 A.d_q12 ["thing"] (bb [false] false (sdFrD)):=by
 have S:=wu
 refine fnD T.t_q12.F S ⟨[false],[false,false,false],false⟩ _ ?hl rfl rfl fun cdv Ar outer s H E hr=>⟨_,(ag (bj (QW.qt (d6 (bi (a9 (dL rfl T.z_isinstance aP (aa 0) (cE (v:=.ty "tuple") rfl T.z_tuple eM rfl)))) (cK (aY (bo hr.units) dNe (aK az dl rfl T.z_len bh (ad (aa 0) af)) ae (aR _))))) (am (aE cG)) aT)
  (ag (i7 (aa 0) (cX rfl (aS (aO (i:=1) S.nd rfl (Or.inl rfl)) (aS (aO (i:=2) S.nd rfl (Or.inl rfl)) ce)) (au (au bc))))
  (ag (bj (QW.qt (d6 (bi (a9 (aj (iN T hB) hr T.t_q35 (ai (aa 1) ak)))) (cK (bi (a9 (aj (iN T hB) hr T.t_q35 (ai (aa 2) ak))))))) (am (aE cG)) aT)
  (am (aE (eC (dJ uQ dB (aa 2) ae (aR _)) (fL (dJ (kD hr.units) dEq (aj (pq T hB) hr T.t_q0 (ai (aa 1) (ai (aa 2) ak))) ae (aR _))))))))),fun ds q h=>?_⟩
 case hl=>intro ds q h; obtain ⟨d,rfl,_⟩:=h; rfl
 obtain ⟨d,rfl,hp,q0⟩:=h
 cases d with
 | tup ds =>
  refine (bQ (c:=(!decide ((ds.length:Int)=2))=true) (fun c=>?_) (fun c=>?_))
  ·have:frB (.tup ds)=false:=by
    unfold frB; split
    ·rename_i e; cases e; simp at c
    ·rfl
   rw [this] at q0; exact q0
  ·obtain ⟨x,y,rfl⟩:∃ x y,ds=[x,y]:=by
    have hl:ds.length=2:=by simp at c; omega
    match ds,hl with
    | [a,b],_=>exact ⟨a,b,rfl⟩
   rw [pln,aX,aX] at hp
   refine ⟨x,rfl,cL hp.1,?_⟩
   cases x with
   | int t =>
    refine ⟨y,rfl,cL hp.2.1,?_⟩
    cases y with
    | int b =>
     have e:frB (.tup [.int t,.int b])=(decide (1≤b)&&decide (bF t b=1)):=rfl
     rw [e] at q0
     refine (bQ (c:=decide (1≤b)=true) (fun c=>?_) (fun c=>?_))
     ·have hb : 1≤b:=of_decide_eq_true c
      refine ⟨t,b,rfl,by omega,?_⟩
      rw [c,Bool.true_and] at q0; exact q0
     ·rw [Bool.eq_false_iff.mpr c,Bool.false_and] at q0; exact q0
    | _=>first | exact q0 | (have:=hp.2.1; rw [pln] at this; cases this)
   | _=>first | exact q0 | (have:=hp.1; rw [pln] at this; cases this)
 | _=>first | exact q0 | (rw [pln] at hp; cases hp)
theorem wl (T:Txt K mg A) (hB:TabB base mg A.tc A.tP tqS):FnOk P w K mg base CX0 3 A.f_q34 A.d_q34 ["thing"] (bb [false] false (sdPrD)):=by
 have S:=wv
 refine fnD T.t_q34.F S ⟨[false],[false],false⟩ _ ?hl rfl rfl fun cdv Ar outer s H E hr=>⟨_,(am (aE (eC (aj (wg T hB) hr T.t_q12 (ai (aa 0) ak)) (fL (dJ uQ dB (ar ao dIx (aa 0) ae (fun _ _=>rfl)) ae (aR _)))))),fun ds q h=>?_⟩
 case hl=>intro ds q h; obtain ⟨d,rfl,_⟩:=h; rfl
 obtain ⟨d,rfl,hp,q0⟩:=h
 refine ⟨d,rfl,hp,?_⟩
 cases hf:frB d with
 | false =>
  have:prB d=false:=by
   unfold prB frB at *; split at hf
   ·rename_i t b; show ((decide (1≤b)&&decide (bF t b=1))&&decide (0≤t))=false; rw [hf]; rfl
   ·rfl
  rw [this] at q0; exact q0
 | true =>
  obtain ⟨t,b,rfl⟩:∃ t b,d = .tup [.int t,.int b]:=by
   unfold frB at hf; split at hf
   ·exact ⟨_,_,rfl⟩
   ·cases hf
  have e:prB (.tup [.int t,.int b])=(frB (.tup [.int t,.int b])&&decide (0≤t)):=rfl
  rw [e,hf,Bool.true_and] at q0
  exact q0
theorem q8 (T:Txt K mg A) (hB:TabB base mg A.tc A.tP tqS):FnOk P w K mg base (CX1 P w) 4 A.f_q2 A.d_q2 ["tree","thing"] (cy [false,false] false ((n6 A.c_q49 A.c_q30))):=by
 have S:=sc_q2
 refine fnX T.t_q2.F S ⟨[false,false],[false,false,false,false,false],false⟩ _ ?hl rfl rfl fun cdv Ar outer s H E hr=>⟨_,(aL (eB (bI (rq T hB) hr T.t_q8 (ai (aa 0) ak)))
  (aL (fG (bi (a9 (dL rfl T.z_isinstance aP (aa 1) (cE (v:=.ty "list") rfl T.z_list cO rfl)))) (aW (bH (jU T) (hr.mono (by decide)) T.bi_q30 T.x_q30 T.fi_q30 T.kc_q30 rfl T.m_q30 (ad bE af))) cR)
  (aL (bZ (aH (i:=2) S.nd rfl (Or.inl rfl) (aK az dl rfl T.z_len bh (ad (ar ao dIx (aa 0) ae (fun _ _=>rfl)) af))))
  (aL (iJ rfl (et rfl T.z_enumerate (ad (iF (aa 1) jS (kc (aa 2))) af)) (cX rfl (aS (aO (i:=3) S.nd rfl (Or.inl rfl)) (aS (aO (i:=4) S.nd rfl (Or.inl rfl)) ce)) (au (au bc))) (aW (fG (bi (a9 (aj (wl T hB) hr T.t_q34 (ai (aa 4) ak)))) (aW (bH (jU T) (hr.mono (by decide)) T.bi_q30 T.x_q30 T.fi_q30 T.kc_q30 rfl T.m_q30 (ad (aa 3) af))) cR)))
  (aW (fG (aY (bo hr.units) dNe (aK az dl rfl T.z_len bh (ad (aa 1) af)) (aa 2) (aR _)) (aW (bH (jU T) (hr.mono (by decide)) T.bi_q30 T.x_q30 T.fi_q30 T.kc_q30 rfl T.m_q30 (ad (aK (gF rfl) dMin rfl T.z_min lW (ad (aK az dl rfl T.z_len bh (ad (aa 1) af)) (ad (aa 2) af))) af))) cR)))))),fun ds q qx h=>?_⟩
 case hl=>intro ds q qx h; obtain ⟨t,x,rfl,_⟩:=h; rfl
 obtain ⟨t,x,rfl,h⟩:=h
 rcases h with ⟨p,n,hp,he,x0⟩ | ⟨ps,rs,rfl,hT,hx,hlen,h⟩
 ·refine ⟨t,rfl,hp,fun z=>?_,fun p' n' z=>?_⟩
  ·rw [he] at z; cases z
  ·rw [he] at z; cases z; exact x0
 ·refine ⟨aw ps rs,rfl,iD ps rs,fun _=>?_,fun p' n' z=>by rw [f9 hT] at z; cases z⟩
  have hti:=hT.hi
  cases x with
  | lst ds =>
   have hl:=hlen ds rfl
   rw [pln] at hx
   have e:bC ps.length (.lst ds)=(match aA fPr (ds.take ps.length) 0 with | some i=>some (.int i) | none=>if ds.length=ps.length then none else some (.int (min ds.length ps.length:Nat))):=rfl
   rw [e] at h
   have ec:gR ds none (some ((ps.map D.int).length:Int))=ds.take ps.length:=by rw [n5 (by omega),Int.toNat_natCast,List.length_map]
   show ∃ I:Nat→DSt→Prop,_
   rw [ec]
   have htl:(ds.take ps.length).length≤23:=Nat.le_trans (List.length_take_le ..) hti
   refine ⟨fun i ρ=>∃ v1 v2,ρ=[some (aw ps rs),some (.lst ds),some (.int ((ps.map D.int).length:Int)),v1,v2]∧aA fPr (ds.take ps.length) 0=aA fPr ((ds.take ps.length).drop i) i,⟨_,_,rfl,rfl⟩,?_,?_⟩
   ·rintro i d ρ hd ⟨v1,v2,rfl,hf⟩
    obtain ⟨d',hd',rfl⟩:=dG hd
    have hi:i<(ds.take ps.length).length:=(List.getElem?_eq_some_iff.mp hd').1
    refine ⟨d',rfl,gi (oU hx ps.length) hd',?_⟩
    rw [cQ hd'] at hf
    cases hb:prB d' with
    | true =>
     rw [if_pos (show fPr i d'=true from hb)] at hf
     exact ⟨_,_,rfl,hf⟩
    | false =>
     rw [if_neg (show ¬ fPr i d'=true by show ¬ prB d'=true; rw [hb]; decide)] at hf
     rw [hf] at h
     refine ⟨rfl,kd (fq (Nat.lt_trans (show i<31 by omega) (by decide))),?_⟩
     rcases h with ⟨n,e,z⟩ | ⟨e,_⟩
     ·cases e; exact z
     ·cases e
   ·rintro ρ ⟨v1,v2,rfl,hf⟩
    rw [show (eP (ds.take ps.length)).length=(ds.take ps.length).length by simp [eP],List.drop_length] at hf
    have hf:aA fPr (ds.take ps.length) 0=none:=hf
    rw [hf] at h
    have h:(∃ n,(if ds.length=ps.length then none else some (D.int (min ds.length ps.length:Nat)))=some n∧qx A.c_q30 eA [n] [])∨((if ds.length=ps.length then none else some (D.int (min ds.length ps.length:Nat)))=none∧q .non []):=h
    refine (bQ (c:=(!decide ((ds.length:Int)=((ps.map D.int).length:Int)))=true) (fun c=>?_) (fun c=>?_))
    ·have c' : ¬ ds.length=ps.length:=by rw [aB] at c; simp at c; omega
     rw [if_neg c'] at h
     have em:(if ((ps.map D.int).length:Int)<(ds.length:Int) then ((ps.map D.int).length:Int) else (ds.length:Int))=((min ds.length ps.length:Nat):Int):=by
      rw [aB]; split <;> omega
     have hx:qx A.c_q30 eA [.int (min ds.length ps.length:Nat)] []:=by
      rcases h with ⟨n,e,z⟩ | ⟨e,_⟩
      ·cases e; exact z
      ·cases e
     have hfm:(min ds.length ps.length:Nat)<31:=Nat.lt_of_le_of_lt (Nat.min_le_right _ _) (Nat.lt_of_le_of_lt hti (by decide))
     generalize (min ds.length ps.length:Nat)=mm at em hx hfm
     have hx':qx A.c_q30 eA [.int (if ((ps.map D.int).length:Int)<(ds.length:Int) then ((ps.map D.int).length:Int) else (ds.length:Int))] []:=by rw [em]; exact hx
     exact ⟨rfl,kd (em ▸ fq (Nat.lt_trans hfm (by decide))),hx'⟩
    ·have c':ds.length=ps.length:=by rw [aB] at c; simp at c; omega
     rw [if_pos c'] at h
     rcases h with ⟨n,e,z⟩ | ⟨_,z⟩
     ·cases e
     ·exact z
  | _ =>
   first
   | (refine ⟨rfl,kd fc,?_⟩
      rcases h with ⟨n,e,z⟩ | ⟨e,_⟩
      ·cases e; exact z
      ·cases e)
   | (rw [pln] at hx; cases hx)
theorem qy (T:Txt K mg A) (hB:TabB base mg A.tc A.tP tqS):FnOk P w K mg base CX0 8 A.f_q37 A.d_q37 ["tree","ask","weight","prices"] (bb [false,false,false,false] false (qb)):=by
 have S:=wm
 refine fnD T.t_q37.F S ⟨[false,false,false,false],[false,false,false,false,false,false],false⟩ _ ?hl rfl rfl fun cdv Ar outer s H E hr=>⟨_,(ag (aH (i:=4) S.nd rfl (Or.inl rfl) (aj (l_ T hB) hr T.t_q58 (ai (h_ ["tie"] [3] ⟨rfl,rfl,by decide +kernel,rfl,rfl,(by first | exact trivial | exact ⟨rfl,trivial⟩ | exact ⟨rfl,rfl,trivial⟩ | exact ⟨rfl,rfl,rfl,trivial⟩ | exact ⟨rfl,rfl,rfl,rfl,trivial⟩),rfl⟩ rfl (bS (QF.qe (aQ (vR T hB) hr T.t_q59 (ai (aa 0) (ai (aa 1) ak))))) (dF 0) (fun _ _ _ _=>⟨(cB (i:=0) (show List.Nodup (["tie","prices"]:List Str) by decide +kernel) rfl (Or.inl rfl)),fh,(ar ao dIx (aa 1) (ay bW dI (aa 0) ae) (fun _ _=>rfl))⟩)) ak)))
  (ag (aH (i:=5) S.nd rfl (Or.inl rfl) (aj (wy T hB) hr T.t_q63 (ai (bf (ad (ar ao dIx (aa 1) ae (fun _ _=>rfl)) (ad ae af))) (ai (aj (pS T hB) hr T.t_q64 (ai (bf (ad (aa 2) (ad ae af))) (ai (aa 4) ak))) ak))))
  (am (aE (iq (a9 (aj (wK T hB) hr T.t_q65 (ai (bf (ad ae (ad ae af))) (ai (aa 5) ak)))) (aa 5) (bf (ad ae (ad ae af)))))))),fun ds q h=>?_⟩
 case hl=>intro ds q h; obtain ⟨ps,rs,a,w,prs,M,b,rfl,_⟩:=h; rfl
 obtain ⟨ps,rs,a,w,prs,M,b,rfl,hT,ha,hw0,hw1,hp,M0,hM,hb,q0⟩:=h
 have hwl:=gB hT ha.ends
 have hpl:=hp.len
 obtain ⟨hpa,p0,p1,pd⟩:=rT hT ha.ends hp
 have hpb:Bt (dA ps a prs) (400 + 66):=fF p0 p1 pd M0 hM (Nat.le_trans (Nat.mul_le_mul_left _ hb) (by decide))
 refine ⟨ps,rs,a,rfl,hT,ha.ends,?_⟩
 refine ⟨by rw [aB]; exact Nat.le_trans hwl (by decide),?_⟩
 refine fw (p_ prs) ?_ ?_
 ·intro d hd k hk
  obtain ⟨t,ht,rfl⟩:=fT hd
  have hm:=ic hT ha.ends ht
  refine be (jc (by omega) (by omega)) ?_
  exact hk
 ·rw [l7]
  refine ⟨_,M,rfl,by rw [List.length_map]; exact Nat.le_trans hwl (by decide),fun r hr=>?_,M0,Nat.lt_of_lt_of_le hM (cC (by decide)),?_⟩
  ·obtain ⟨r0,r1,r2⟩:=hp.ok r (hpa r hr)
   exact ⟨(Bt.mono (fF r0 r1 r2 M0 hM hb) (by decide)).num,r2.den M0⟩
  have e1:D.tup [.int w,.int 1]=dQ (w:Rat):=j9 w
  have e2:D.tup [.int a.worth,.int 1]=dQ (a.worth:Rat):=j9 a.worth
  have bw:Bt (w:Rat) 20:=jB 1000000 (by omega) (by decide) (by decide)
  have ba:Bt (a.worth:Rat) 40:=jB 1000000000000 (by have:=ha.w0; have:=ha.w1; omega) (by decide) (by decide)
  have bt:Bt ((w:Rat) * dA ps a prs) 500:=(bw.mul hpb).mono (by decide)
  have bm:Bt ((a.worth:Rat) - (w:Rat) * dA ps a prs) 600:=(ba.sub bt).mono (by decide)
  refine ⟨(w:Rat),dA ps a prs,by rw [← e1]; rfl,bw.mono (by decide),hpb.mono (by decide),?_⟩
  refine ⟨(a.worth:Rat),(w:Rat) * dA ps a prs,by rw [← e2],ba.mono (by decide),bt.mono (by decide),?_⟩
  refine ⟨0,(a.worth:Rat) - (w:Rat) * dA ps a prs,rfl,bt0 (by decide),bm.mono (by decide),?_⟩
  have eq:eh ps a w prs=iA ((a.worth:Rat) - (w:Rat) * dA ps a prs):=rfl
  rw [eq] at q0
  unfold iA at q0
  refine (bQ (c:=decide ((0:Rat)<(a.worth:Rat) - (w:Rat) * dA ps a prs)=true) (fun c=>?_) (fun c=>?_))
  ·rw [if_pos (of_decide_eq_true c)] at q0; exact q0
  ·rw [if_neg (fun z=>c (decide_eq_true z))] at q0; exact q0
end
end K35
namespace K35
open PySem L2
section
variable {P:Program} {w:World} {K:PySem.W.Frag} {mg:Str→Option Value} {base:Heap} {A:Adr}
structure RoomK (ps:List Int) (k:Int) (as:List Ask):Prop where
 t:Tree ps (List.replicate ps.length k)
 k0 : 1≤k
 k60:k≤60
 a:AsksOk ps as
 s:∀ a∈as,a.size≤k
def eR (rs:List Int):Prop:=rs.getD 0 0≤60∧rs=List.replicate rs.length (rs.getD 0 0)
def t4 (c:Addr):SpX:=fun ds q qx=>∃ ps rs,ds=[aw ps rs]∧Tree ps rs∧((¬ eR rs∧qx c eA [.non] [])∨(eR rs∧q (.int (rs.getD 0 0)) []))
theorem tF (T:Txt K mg A) (hB:TabB base mg A.tc A.tP tqS):FnOk P w K mg base (CX1 P w) 3 A.f_q11 A.d_q11 ["tree"] (cy [false] false ((t4 A.c_q39))):=by
 have S:=wT
 refine fnX T.t_q11.F S ⟨[false],[false,false],false⟩ _ ?hl rfl rfl fun cdv Ar outer s H E hr=>⟨_,(aL (bZ (aH (i:=1) S.nd rfl (Or.inl rfl) (ar ao dIx (ar ao dIx (aa 0) ae (fun _ _=>rfl)) ae (fun _ _=>rfl))))
  (aL (fG (QW.qt (d6 (aY gZ dB (aa 1) (dq (i:=60) rfl T.c_MOST_COMMON_ROOM) (aR _)) (cK (aY (bo hr.units) dNe (ar ao dIx (aa 0) ae (fun _ _=>rfl)) (gY lQ dRep (aU (ad (aa 1) af)) (aK az dl rfl T.z_len bh (ad (ar ao dIx (aa 0) ae (fun _ _=>rfl)) af))) (aR _))))) (aW (bH (nz T) (hr.mono (by decide)) T.bi_q39 T.x_q39 T.fi_q39 T.kc_q39 rfl T.m_q39 (ad bE af))) cR)
  (aW (bZ (aE (aa 1)))))),fun ds q qx h=>?_⟩
 case hl=>intro ds q qx h; obtain ⟨ps,rs,rfl,_⟩:=h; rfl
 obtain ⟨ps,rs,rfl,hT,h⟩:=h
 have hl:=hT.len
 have h1:=hT.lo
 have h2:=hT.hi
 refine be (cW (ns:=rs) (k:=0) (by decide) (by omega)) ?_
 rw [show (0:Int).toNat=0 from rfl]
 have no : ¬ eR rs→qx A.c_q39 eA [.non] []:=fun n=>(h.resolve_right fun z=>n z.1).2
 refine (bQ (c:=decide (60<rs.getD 0 0)=true) (fun c=>?_) (fun c=>?_))
 ·have c':=of_decide_eq_true c
  exact ⟨rfl,kd fc,no fun z=>by have:=z.1; omega⟩
 have c' : ¬ 60<rs.getD 0 0:=by simpa using c
 refine ⟨⟨by rw [aB]; omega,by rw [aB]; omega,by rw [aB]; simp; omega⟩,?_⟩
 rw [aB,i3,Int.toNat_natCast]
 rw [show List.replicate rs.length (D.int (rs.getD 0 0))=(List.replicate rs.length (rs.getD 0 0)).map D.int by rw [List.map_replicate]]
 refine ⟨lf _,lf _,?_⟩
 have en:(!eqD (aF rs) (aF (List.replicate rs.length (rs.getD 0 0)))) = !decide (rs=List.replicate rs.length (rs.getD 0 0)):=by rw [eqDi]
 refine (bQ (c:=(!eqD (aF rs) (aF (List.replicate rs.length (rs.getD 0 0))))=true) (fun c=>?_) (fun c=>?_))
 ·rw [en] at c
  have c2:rs≠List.replicate rs.length (rs.getD 0 0):=by simpa using c
  exact ⟨rfl,kd fc,no fun z=>c2 z.2⟩
 ·rw [en] at c
  have c2:rs=List.replicate rs.length (rs.getD 0 0):=by simpa using c
  exact (h.resolve_left fun z=>z.1 ⟨by omega,c2⟩).2
def BigM (m:Int) (as:List Ask) (i:Nat):Prop:=i<as.length∧m<(as.getD i kU).size∧∀ j<i,(as.getD j kU).size≤m
def t_ (c:Addr):SpX:=fun ds q qx=>∃ ps as m,ds=[aM as,.int m]∧AsksOk ps as∧((∃ i:Nat,BigM m as i∧qx c eA [.int i] [])∨((∀ a∈as,a.size≤m)∧q .non []))
theorem wV (T:Txt K mg A) (hB:TabB base mg A.tc A.tP tqS):FnOk P w K mg base (CX1 P w) 3 A.f_q7 A.d_q7 ["asks","most"] (cy [false,false] false ((t_ A.c_q39))):=by
 have S:=sc_q7
 refine fnX T.t_q7.F S ⟨[false,false],[false,false,false,false],false⟩ _ ?hl rfl rfl fun cdv Ar outer s H E hr=>⟨_,(aW (iJ rfl (et rfl T.z_enumerate (ad (aa 0) af)) (cX rfl (aS (aO (i:=2) S.nd rfl (Or.inl rfl)) (aS (aO (i:=3) S.nd rfl (Or.inl rfl)) ce)) (au (au bc))) (aW (fG (aY gZ dB (ar ao dIx (aa 3) ae (fun _ _=>rfl)) (aa 1) (aR _)) (aW (bH (nz T) (hr.mono (by decide)) T.bi_q39 T.x_q39 T.fi_q39 T.kc_q39 rfl T.m_q39 (ad (aa 2) af))) cR)))),fun ds q qx h=>?_⟩
 case hl=>intro ds q qx h; obtain ⟨ps,as,m,rfl,_⟩:=h; rfl
 obtain ⟨ps,as,m,rfl,ha,h⟩:=h
 refine ⟨fun i ρ=>∃ v1 v2,ρ=[some (aM as),some (.int m),v1,v2]∧∀ j<i,(as.getD j kU).size≤m,⟨_,_,rfl,fun j hj=>absurd hj (Nat.not_lt_zero _)⟩,?_,?_⟩
 ·rintro i d ρ hd ⟨v1,v2,rfl,hf⟩
  obtain ⟨d',hd',rfl⟩:=dG hd
  obtain ⟨a,hr,rfl⟩:=jZ hd'
  have hi:i<as.length:=(List.getElem?_eq_some_iff.mp hr).1
  have ea:as.getD i kU=a:=by rw [List.getD_eq_getElem?_getD,hr]; rfl
  refine (bQ (c:=decide (m<a.size)=true) (fun c=>?_) (fun c=>?_))
  ·have c':m<a.size:=of_decide_eq_true c
   have hal:=ha.len
   refine ⟨rfl,kd (fq (Nat.lt_trans (show i<31 by omega) (by decide))),?_⟩
   rcases h with ⟨k,hk,hq⟩ | ⟨ho,_⟩
   ·have:k=i:=by
     rcases Nat.lt_trichotomy k i with z | z | z
     ·have:=hf k z; have:=hk.2.1; omega
     ·exact z
     ·have:=hk.2.2 i z; rw [ea] at this; omega
    rw [this] at hq
    exact hq
   ·have:=ho a (List.mem_of_getElem? hr); omega
  ·have c':a.size≤m:=by
    have : ¬ m<a.size:=fun z=>c (decide_eq_true z)
    omega
   refine ⟨some (.int i),some (bv a),rfl,fun j hj=>?_⟩
   rcases Nat.lt_or_ge j i with z | z
   ·exact hf j z
   ·rw [show j=i by omega,ea]; exact c'
 ·rintro ρ ⟨v1,v2,rfl,hf⟩
  rcases h with ⟨k,hk,hq⟩ | ⟨_,q0⟩
  ·have:=hf k (by rw [show (eP (as.map bv)).length=as.length by simp [eP]]; exact hk.1)
   have:=hk.2.1; omega
  ·exact q0
inductive Res
 | ok (r:Rat)
 | tree (p:Str) (n:D)
 | asks (n:D)
 | share (n:D)
 | prices (n:D)
inductive RmO:D→D→Option Res→Int→Prop
 | tree {t a:D} {p:Str} {n:D}:pln t=true→cM t=some (p,n)→RmO t a (some (.tree p n)) 0
 | asks {ps rs:List Int} {a n:D}:Tree ps rs→pln a=true→gb ps.length a=some n→RmO (aw ps rs) a (some (.asks n)) 0
 | room {ps rs:List Int} {as:List Ask}:Tree ps rs→AsksOk ps as→¬ eR rs→RmO (aw ps rs) (aM as) (some (.share .non)) 0
 | most {ps rs:List Int} {as:List Ask} {i:Nat}:Tree ps rs→AsksOk ps as→eR rs→BigM (rs.getD 0 0) as i→RmO (aw ps rs) (aM as) (some (.share (.int i))) 0
 | ok {ps rs:List Int} {as:List Ask}:Tree ps rs→AsksOk ps as→eR rs→(∀ a∈as,a.size≤rs.getD 0 0)→RmO (aw ps rs) (aM as) none (rs.getD 0 0)
def outX (cT cA cS cP:Addr) (qx:Addr→List Str→List D→DSt→Prop):Res→Prop
 | .ok _=>False
 | .tree p n=>qx cT k8 [.str p,n] []
 | .asks n=>qx cA eA [n] []
 | .share n=>qx cS eA [n] []
 | .prices n=>qx cP eA [n] []
def sdRmX (cT cA cS cP:Addr):SpX:=fun ds q qx=>∃ t a o k,ds=[t,a]∧RmO t a o k∧match o with
 | some r=>outX cT cA cS cP qx r
 | none=>q (.int k) []
theorem qJ (T:Txt K mg A) (hB:TabB base mg A.tc A.tP tqS):FnOk P w K mg base (CX1 P w) 7 A.f_q9 A.d_q9 ["tree","asks"] (cy [false,false] false ((sdRmX A.c_q49 A.c_q48 A.c_q39 A.c_q30))):=by
 have S:=sc_q9
 refine fnX T.t_q9.F S ⟨[false,false],[false,false,false],false⟩ _ ?hl rfl rfl fun cdv Ar outer s H E hr=>⟨_,(aL (eB (bI (vY T hB) hr T.t_q5 (ai (aa 0) (ai (aa 1) ak))))
  (aL (mH (i:=2) S.nd rfl (Or.inl rfl) (bI (tF T hB) hr T.t_q11 (ai (aa 0) ak)))
  (aL (eB (bI (wV T hB) hr T.t_q7 (ai (aa 1) (ai (aa 2) ak))))
  (aW (bZ (aE (aa 2))))))),fun ds q qx h=>?_⟩
 case hl=>intro ds q qx h; obtain ⟨t,a,o,k,rfl,_⟩:=h; rfl
 obtain ⟨t,a,o,k,rfl,ho,h⟩:=h
 refine ⟨t,a,rfl,?_⟩
 cases ho with
 | tree h1 h2=>exact .inl ⟨_,_,h1,h2,h⟩
 | @asks ps rs a n hT hp he=>exact .inr ⟨ps,rs,rfl,hT,hp,.inl ⟨n,he,h⟩⟩
 | @room ps rs as hT ha hA =>
  refine .inr ⟨ps,rs,rfl,hT,gJ as,.inr ⟨fR ha,?_⟩⟩
  exact ⟨ps,rs,rfl,hT,.inl ⟨hA,h⟩⟩
 | @most ps rs as i hT ha hA hi =>
  refine .inr ⟨ps,rs,rfl,hT,gJ as,.inr ⟨fR ha,?_⟩⟩
  refine ⟨ps,rs,rfl,hT,.inr ⟨hA,?_⟩⟩
  exact ⟨ps,as,_,rfl,ha,.inl ⟨i,hi,h⟩⟩
 | @ok ps rs as hT ha hA hs =>
  refine .inr ⟨ps,rs,rfl,hT,gJ as,.inr ⟨fR ha,?_⟩⟩
  refine ⟨ps,rs,rfl,hT,.inr ⟨hA,?_⟩⟩
  exact ⟨ps,as,_,rfl,ha,.inr ⟨hs,h⟩⟩
end
end K35
namespace K35
open PySem L2
section
variable {P:Program} {w:World} {K:PySem.W.Frag} {mg:Str→Option Value} {base:Heap} {A:Adr}
def vI:SpD:=fun ds q=>∃ (k:Int) (a:Ask),ds=[.int k,bv a]∧q (.bl (g8 k a)) []
theorem mw (T:Txt K mg A) (hB:TabB base mg A.tc A.tP tqS):FnOk P w K mg base CX0 1 A.f_q40 A.d_q40 ["room","ask"] (bb [false,false] false (vI)):=by
 have S:=vN
 refine fnD T.t_q40.F S ⟨[false,false],[false,false],false⟩ _ ?hl rfl rfl fun cdv Ar outer s H E hr=>⟨_,(am (aE (dJ gZ dB (ay dM dIC ae (ar ao dIx (aa 1) ae (fun _ _=>rfl))) (aa 0) (aR _)))),fun ds q h=>?_⟩
 case hl=>intro ds q h; obtain ⟨k,a,rfl,_⟩:=h; rfl
 obtain ⟨k,a,rfl,q0⟩:=h
 refine ⟨Or.inl ⟨by decide,by decide⟩,?_⟩
 exact q0
def tJ:SpD:=fun ds q=>∃ ps rs k a P U,ds=[aw ps rs,.int k,bv a,dQs P,dQs U]∧Tree ps rs∧AskOk ps a∧PrK ps P∧PrK ps U∧q (dQ (ck ps k P U a)) []
theorem w6 (T:Txt K mg A) (hB:TabB base mg A.tc A.tP tqS):FnOk P w K mg base CX0 9 A.f_q14 A.d_q14 ["tree","room","ask","pieces","units"] (bb [false,false,false,false,false] false (tJ)):=by
 have S:=vk
 refine fnD T.t_q14.F S ⟨[false,false,false,false,false],[false,false,false,false,false],false⟩ _ ?hl rfl rfl fun cdv Ar outer s H E hr=>⟨_,(ag (bj (a9 (aj (mw T hB) hr T.t_q40 (ai (aa 1) (ai (aa 2) ak)))) (am (aE (aj (qy T hB) hr T.t_q37 (ai (aa 0) (ai (aa 2) (ai ae (ai (aa 3) ak))))))) aT)
  (am (aE (aj (qy T hB) hr T.t_q37 (ai (aa 0) (ai (aa 2) (ai (ar ao dIx (aa 2) ae (fun _ _=>rfl)) (ai (aa 4) ak)))))))),fun ds q h=>?_⟩
 case hl=>intro ds q h; obtain ⟨ps,rs,k,a,P,U,rfl,_⟩:=h; rfl
 obtain ⟨ps,rs,k,a,P,U,rfl,hT,ha,⟨M1,b1,p1,p2,p3,p4⟩,⟨M2,b2,u1,u2,u3,u4⟩,q0⟩:=h
 refine ⟨k,a,rfl,?_⟩
 unfold ck at q0
 refine (bQ (c:=g8 k a=true) (fun c=>?_) (fun c=>?_))
 ·rw [if_pos c] at q0
  exact ⟨ps,rs,a,1,P,M1,b1,rfl,hT,ha,by decide,by decide,p1,p2,p3,p4,q0⟩
 ·rw [if_neg c] at q0
  exact ⟨ps,rs,a,a.size,U,M2,b2,rfl,hT,ha,by have:=ha.s0; omega,ha.s1,u1,u2,u3,u4,q0⟩
def mixF (ps:List Int) (k:Int) (P U:List Rat):D→D
 | .tup [.int o,.int p,.int s,.int w]=>dQ (ck ps k P U ⟨o,p,s,w⟩)
 | d=>d
theorem o7 (ps:List Int) (k:Int) (P U:List Rat) (as:List Ask):(as.map bv).map (mixF ps k P U)=(as.map (ck ps k P U)).map dQ:=by rw [List.map_map,List.map_map]; rfl
theorem sum_M {ps:List Int} {U:List Rat} {M b:Nat} (h:PrM ps U M b) (hl:ps.length≤23) : 0≤U.sum∧U.sum≤(((23 * b:Nat):Int):Rat)∧DvM U.sum M:=by
 have hb:(0:Rat)≤((b:Int):Rat):=Rat.intCast_nonneg.mpr (by omega)
 have h1:=fK hb fun r hr=>⟨(h.ok r hr).1,(h.ok r hr).2.1⟩
 refine ⟨h1.1,Rat.le_trans h1.2 ?_,DvM.sum fun r hr=>(h.ok r hr).2.2⟩
 rw [Int.natCast_mul,Rat.intCast_mul]
 exact Rat.mul_le_mul_of_nonneg_right (Rat.natCast_le_natCast.mpr (by rw [h.len]; exact hl)) hb
theorem qO (T:Txt K mg A) (hB:TabB base mg A.tc A.tP tqS):FnOk P w K mg base CX0 1 A.f_q47 A.d_q47 ["tree","asks","terms"] (bb [false,false,false] true sdNo):=uB
theorem uR (T:Txt K mg A) (hB:TabB base mg A.tc A.tP tqS):FnOk P w K mg base CX0 1 A.f_q1 A.d_q1 ["tree","asks","pile"] (bb [false,false,false] true sdNo):=uB
def sy (cT cA cS cP:Addr):SpX:=fun ds q qx=>∃ t a r,ds=[t,a]∧RmO t a (some r) 0∧outX cT cA cS cP qx r
theorem sX (T:Txt K mg A) (hB:TabB base mg A.tc A.tP tqS):FnOk P w K mg base (CX1 P w) 10 A.f_q17 A.d_q17 ["tree","asks"] (cy [false,false] true ((sy A.c_q49 A.c_q48 A.c_q39 A.c_q30))):=by
 have S:=vE
 refine fnX T.t_q17.F S ⟨[false,false],[false,false,false,false,false,false,true,false,false,true,false],true⟩ _ ?hl rfl rfl fun cdv Ar outer s H E hr=>⟨_,(aL (mH (i:=2) S.nd rfl (Or.inr rfl) (bI (qJ T hB) hr T.t_q9 (ai (aa 0) (ai (aa 1) ak))))
  (aL (bZ (fH (i:=3) ["ask"] [2] ⟨rfl,rfl,by decide +kernel,rfl,rfl,(by first | exact trivial | exact ⟨rfl,trivial⟩ | exact ⟨rfl,rfl,trivial⟩ | exact ⟨rfl,rfl,rfl,trivial⟩ | exact ⟨rfl,rfl,rfl,rfl,trivial⟩),rfl⟩ rfl S.nd rfl (Or.inl rfl) (bS (aa 1)) (dF 0) (fun _ _ _ _=>⟨(cB (i:=0) (show List.Nodup (["ask","room"]:List Str) by decide +kernel) rfl (Or.inl rfl)),fh,(iq (a9 (aj (mw T hB) hr T.t_q40 (ai (aa 1) (ai (aa 0) ak)))) (bf (ad ae (ad ae af))) bE)⟩)))
  (aL (bZ (fH (i:=4) ["ask"] [2] ⟨rfl,rfl,by decide +kernel,rfl,rfl,(by first | exact trivial | exact ⟨rfl,trivial⟩ | exact ⟨rfl,rfl,trivial⟩ | exact ⟨rfl,rfl,rfl,trivial⟩ | exact ⟨rfl,rfl,rfl,rfl,trivial⟩),rfl⟩ rfl S.nd rfl (Or.inl rfl) (bS (aa 1)) (dF 0) (fun _ _ _ _=>⟨(cB (i:=0) (show List.Nodup (["ask","room"]:List Str) by decide +kernel) rfl (Or.inl rfl)),fh,(iq (a9 (aj (mw T hB) hr T.t_q40 (ai (aa 1) (ai (aa 0) ak)))) bE (bf (ad (ar ao dIx (aa 0) ae (fun _ _=>rfl)) (ad (ay bW dI (aa 1) (ar ao dIx (aa 0) ae (fun _ _=>rfl))) af))))⟩)))
  (aL (bZ (kB rfl (QF.qm (aQ (qO T hB) hr T.t_q47 (ai (aa 0) (ai (aa 1) (ai (aa 3) ak))))) (iL (i:=5) S.nd rfl (Or.inl rfl) (kN (i:=6) S.nd rfl (Or.inl rfl) (iL (i:=7) S.nd rfl (Or.inl rfl) kq))) (au (au (au bc)))))
  (aL (bZ (kB rfl (QF.qm (aQ (qO T hB) hr T.t_q47 (ai (aa 0) (ai (aa 1) (ai (aa 4) ak))))) (iL (i:=8) S.nd rfl (Or.inl rfl) (kN (i:=9) S.nd rfl (Or.inl rfl) (iL (i:=10) S.nd rfl (Or.inl rfl) kq))) (au (au (au bc)))))
  (aW (bZ (bD (jW (bG (QF.qm (aQ (uR T hB) hr T.t_q1 (ai (aa 0) (ai (aa 1) (ai (aa 5) ak))))) (bG (QF.qm (aQ (uR T hB) hr T.t_q1 (ai (aa 0) (ai (aa 1) (ai (aa 8) ak))))) (bG (fj 6) (bG (fj 9) ig))))))))))))),fun ds q qx h=>?_⟩
 case hl=>intro ds q qx h; obtain ⟨t,a,r,rfl,_⟩:=h; rfl
 obtain ⟨t,a,r,rfl,ho,h⟩:=h
 exact ⟨t,a,some r,0,rfl,ho,h⟩
inductive MixO:D→D→D→D→Res→Prop
 | room {t a P U:D} {r:Res}:RmO t a (some r) 0→MixO t a P U r
 | p1 {ps rs:List Int} {as:List Ask} {P U n:D}:RmO (aw ps rs) (aM as) none (rs.getD 0 0)→Tree ps rs→pln P=true→(∀ ds,P = .lst ds→ds.length≤10000)→bC ps.length P=some n→MixO (aw ps rs) (aM as) P U (.prices n)
 | p2 {ps rs:List Int} {as:List Ask} {P U n:D}:RmO (aw ps rs) (aM as) none (rs.getD 0 0)→Tree ps rs→pln P=true→(∀ ds,P = .lst ds→ds.length≤10000)→bC ps.length P=none→pln U=true→(∀ ds,U = .lst ds→ds.length≤10000)→bC ps.length U=some n→MixO (aw ps rs) (aM as) P U (.prices n)
 | ok {ps:List Int} {k:Int} {as:List Ask} {P U:List Rat}:RoomK ps k as→PrK ps P→PrK ps U→MixO (aw ps (List.replicate ps.length k)) (aM as) (dQs P) (dQs U) (.ok (fV ps k as P U))
def uX (cT cA cS cP:Addr):SpX:=fun ds q qx=>∃ t a P U r,ds=[t,a,P,U]∧MixO t a P U r∧match r with
 | .ok x=>q (dQ x) []
 | r=>outX cT cA cS cP qx r
end
end K35
namespace K35
open PySem L2
section
variable {P:Program} {w:World} {K:PySem.W.Frag} {mg:Str→Option Value} {base:Heap} {A:Adr}
theorem de (prs:List Rat):pln (dQs prs)=true:=by
 unfold dQs; rw [pln]
 exact fi fun d h=>by obtain ⟨a,_,rfl⟩:=List.mem_map.mp h; rfl
theorem lN {r:Rat} (h : 0≤r):prB (dQ r)=true:=by
 show ((decide (1≤(r.den:Int))&&decide (bF r.num r.den=1))&&decide (0≤r.num))=true
 have hd:=a8 r
 rw [decide_eq_true (by omega),decide_eq_true (ur r),decide_eq_true (rE h)]; rfl
theorem iz (f:Nat→D→Bool):∀ (ds:List D) (i:Nat),(∀ d∈ds,∀ j,f j d=true)→aA f ds i=none
 | [],_,_=>rfl
 | d :: ds,i,h=>by
  rw [aA,if_pos (h d (.head _) i)]
  exact iz f ds (i + 1) fun x hx=>h x (.tail _ hx)
theorem i9 {ps:List Int} {prs:List Rat} (h:PrK ps prs):bC ps.length (dQs prs)=none:=by
 have hl:=h.len
 have hb:aA fPr ((prs.map dQ).take ps.length) 0=none:=iz _ _ _ fun d hd j=>by
  obtain ⟨r,hr,rfl⟩:=List.mem_map.mp (List.mem_of_mem_take hd)
  exact lN (h.nn r hr)
 show (match aA fPr ((prs.map dQ).take ps.length) 0 with | some i=>some (D.int i) | none=>if (prs.map dQ).length=ps.length then none else some (.int (min (prs.map dQ).length ps.length:Nat)))=none
 rw [hb]
 show (if (prs.map dQ).length=ps.length then none else _)=none
 rw [if_pos (by rw [List.length_map]; exact hl)]
theorem g6 {ps:List Int} {k:Int} {as:List Ask} (hk:RoomK ps k as):(List.replicate ps.length k).getD 0 0=k∧eR (List.replicate ps.length k):=by
 have h1:=hk.t.lo
 have e:(List.replicate ps.length k).getD 0 0=k:=iB (by omega)
 exact ⟨e,by rw [e]; exact hk.k60,by rw [e,List.length_replicate]⟩
theorem nC (T:Txt K mg A) (hB:TabB base mg A.tc A.tP tqS):FnOk P w K mg base (CX1 P w) 10 A.f_q13 A.d_q13 ["tree","asks","pieces","units"] (cy [false,false,false,false] false ((uX A.c_q49 A.c_q48 A.c_q39 A.c_q30))):=by
 have S:=wA
 refine fnX T.t_q13.F S ⟨[false,false,false,false],[false,false,false,false,false,false],false⟩ _ ?hl rfl rfl fun cdv Ar outer s H E hr=>⟨_,(aL (mH (i:=4) S.nd rfl (Or.inr rfl) (bI (qJ T hB) hr T.t_q9 (ai (aa 0) (ai (aa 1) ak))))
  (aL (eB (bI (q8 T hB) hr T.t_q2 (ai (aa 0) (ai (aa 2) ak))))
  (aL (eB (bI (q8 T hB) hr T.t_q2 (ai (aa 0) (ai (aa 3) ak))))
  (aL (bZ (fH (i:=5) ["ask"] [0,4,2,3] ⟨rfl,rfl,by decide +kernel,rfl,rfl,(by first | exact trivial | exact ⟨rfl,trivial⟩ | exact ⟨rfl,rfl,trivial⟩ | exact ⟨rfl,rfl,rfl,trivial⟩ | exact ⟨rfl,rfl,rfl,rfl,trivial⟩),rfl⟩ rfl S.nd rfl (Or.inl rfl) (bS (aa 1)) (dF 0) (fun _ _ _ _=>⟨(cB (i:=0) (show List.Nodup (["ask","tree","room","pieces","units"]:List Str) by decide +kernel) rfl (Or.inl rfl)),fh,(aj (w6 T hB) hr T.t_q14 (ai (aa 1) (ai (aa 2) (ai (aa 0) (ai (aa 3) (ai (aa 4) ak))))))⟩)))
  (aW (bZ (aE (aj (l_ T hB) hr T.t_q58 (ai (gY gA oP (gY gA oP (aa 2) (aU (ad (aj (pS T hB) hr T.t_q64 (ai (bf (ad (aa 4) (ad ae af))) (ai (aj (l_ T hB) hr T.t_q58 (ai (aa 3) ak)) ak))) af))) (aa 5)) ak))))))))),fun ds q qx h=>?_⟩
 case hl=>intro ds q qx h; obtain ⟨t,a,P,U,r,rfl,_⟩:=h; rfl
 obtain ⟨t,a,P,U,r,rfl,ho,h⟩:=h
 cases ho with
 | @room _ _ _ _ r hr =>
  refine ⟨t,a,some r,0,rfl,hr,?_⟩
  cases r with
  | ok _=>cases hr
  | _=>exact h
 | @p1 ps rs as P U n hr hT hp hlen he =>
  refine ⟨_,_,none,_,rfl,hr,?_⟩
  exact ⟨_,_,rfl,.inr ⟨ps,rs,rfl,hT,hp,hlen,.inl ⟨n,he,h⟩⟩⟩
 | @p2 ps rs as P U n hr hT hp hlen he hpu hlu heu =>
  refine ⟨_,_,none,_,rfl,hr,?_⟩
  refine ⟨_,_,rfl,.inr ⟨ps,rs,rfl,hT,hp,hlen,.inr ⟨he,?_⟩⟩⟩
  exact ⟨_,_,rfl,.inr ⟨ps,rs,rfl,hT,hpu,hlu,.inl ⟨n,heu,h⟩⟩⟩
 | @ok ps k as P U hk hP hU =>
  have q0:q (dQ (fV ps k as P U)) []:=h
  have hal:=hk.a.len
  have hti:=hk.t.hi
  obtain ⟨e0,hA⟩:=g6 hk
  have hlp:∀ {prs:List Rat},PrK ps prs→∀ ds,dQs prs = .lst ds→ds.length≤10000:=fun hp ds e=>by cases e; rw [List.length_map,hp.len]; omega
  refine ⟨_,_,none,_,rfl,.ok hk.t hk.a hA (by rw [e0]; exact hk.s),?_⟩
  rw [e0]
  refine ⟨_,_,rfl,.inr ⟨ps,_,rfl,hk.t,de P,hlp hP,.inr ⟨i9 hP,?_⟩⟩⟩
  refine ⟨_,_,rfl,.inr ⟨ps,_,rfl,hk.t,de U,hlp hU,.inr ⟨i9 hU,?_⟩⟩⟩
  refine ⟨by rw [dW]; omega,?_⟩
  refine fw (mixF ps k P U) ?_ ?_
  ·intro d hd q hq
   obtain ⟨a,hm,rfl⟩:=List.mem_map.mp hd
   exact ⟨ps,_,k,a,P,U,rfl,hk.t,hk.a.ok a hm,hP,hU,hq⟩
  rw [o7]
  have hPl:=hP.len
  obtain ⟨M1,b1,p1,p2,p3,p4⟩:=hP
  have hUl:=hU.len
  obtain ⟨M2,b2,u1,u2,u3,u4⟩:=hU
  obtain ⟨v0,v1,v2⟩:=sum_M u1 hti
  have bU:Bt U.sum (400 + 65):=fF v0 v1 v2 u2 u3 (Nat.le_trans (Nat.mul_le_mul_left _ u4) (by decide))
  have ek:D.tup [.int k,.int 1]=dQ (k:Rat):=j9 k
  have hk1:=hk.k0; have hk2:=hk.k60
  refine ⟨U,M2,rfl,by omega,fun r hr=>?_,u2,Nat.lt_of_lt_of_le u3 (cC (by decide)),?_⟩
  ·obtain ⟨r0,r1,r2⟩:=u1.ok r hr
   exact ⟨(Bt.mono (fF r0 r1 r2 u2 u3 u4) (by decide)).num,r2.den u2⟩
  refine ⟨(k:Rat),U.sum,by rw [← ek],(jB (n:=10) 60 (by omega) (by decide) (by decide)).mono (by decide),bU.mono (by decide),?_⟩
  have hk0:(0:Rat)≤(k:Rat):=Rat.intCast_nonneg.mpr (by omega)
  have z0 : 0≤(k:Rat) * U.sum:=Rat.mul_nonneg hk0 v0
  have bk:Bt ((k:Rat) * U.sum) 500:=((jB (i:=k) (n:=10) 60 (by omega) (by decide) (by decide)).mul bU).mono (by decide)
  refine ⟨by rw [List.length_map]; show P.length + 1≤1000; omega,?_⟩
  refine ⟨by rw [List.length_append,List.length_map,List.length_map,List.length_map]; show P.length + 1 + as.length≤1000; omega,?_⟩
  have el:P.map dQ++[dQ ((k:Rat) * U.sum)]++(as.map (ck ps k P U)).map dQ=(P++[(k:Rat) * U.sum]++as.map (ck ps k P U)).map dQ:=by rw [List.map_append,List.map_append]; rfl
  have hM:M1 * M2<2 ^ 800:=a7 (m:=400) (n:=400) p3 u3
  refine ⟨P++[(k:Rat) * U.sum]++as.map (ck ps k P U),M1 * M2,congrArg (fun z=>[D.lst z]) el,?_,fun r hr=>?_,Nat.mul_pos p2 u2,Nat.lt_of_lt_of_le hM (cC (by decide)),?_⟩
  ·rw [List.length_append,List.length_append,List.length_map]; show P.length + 1 + as.length≤200; omega
  ·have d1:M1∣M1 * M2:=Nat.dvd_mul_right _ _
   have d2:M2∣M1 * M2:=Nat.dvd_mul_left _ _
   rcases List.mem_append.mp hr with hr | hr
   ·rcases List.mem_append.mp hr with hr | hr
    ·obtain ⟨r0,r1,r2⟩:=p1.ok r hr
     exact ⟨(Bt.mono (fF r0 r1 r2 p2 p3 p4) (by decide)).num,Nat.dvd_trans (r2.den p2) d1⟩
    ·rw [List.mem_singleton.mp hr]
     exact ⟨(bk.mono (by decide)).num,Nat.dvd_trans ((v2.mulI k).den u2) d2⟩
   ·obtain ⟨a,hm,rfl⟩:=List.mem_map.mp hr
    have ok:=hk.a.ok a hm
    have s0:=ok.s0
    unfold ck
    split
    ·obtain ⟨r0,r1,r2⟩:=ie (w:=1) hk.t ok (by decide) p1
     exact ⟨(Bt.mono (fF r0 r1 r2 p2 p3 (x:=60) (by decide)) (by decide)).num,Nat.dvd_trans (r2.den p2) d1⟩
    ·obtain ⟨r0,r1,r2⟩:=ie (w:=a.size) hk.t ok (by omega) u1
     exact ⟨(Bt.mono (fF r0 r1 r2 u2 u3 (x:=60) (by decide)) (by decide)).num,Nat.dvd_trans (r2.den u2) d2⟩
  ·have es:(P++[(k:Rat) * U.sum]++as.map (ck ps k P U)).sum=fV ps k as P U:=by
    unfold fV
    rw [List.sum_append,List.sum_append,List.sum_cons,List.sum_nil,Rat.add_zero]
   rw [es]; exact q0
def vP:SpD:=fun ds q=>∃ ps k as P U,ds=[aw ps (List.replicate ps.length k),aM as,dQs P,dQs U]∧RoomK ps k as∧PrK ps P∧PrK ps U∧q (dQ (fV ps k as P U)) []
end
end K35
namespace K35
open PySem L2
section
variable {P:Program} {w:World} {K:PySem.W.Frag} {mg:Str→Option Value} {base:Heap} {A:Adr}
theorem p6 (T:Txt K mg A) (hB:TabB base mg A.tc A.tP tqS):FnOk P w K mg base CX0 10 A.f_q13 A.d_q13 ["tree","asks","pieces","units"] (bb [false,false,false,false] false vP):=(nC T hB).calm fun ds q h=>by
 obtain ⟨ps,k,as,P,U,rfl,hk,hP,hU,q0⟩:=h
 exact ⟨_,_,_,_,_,rfl,.ok hk hP hU,q0⟩
theorem vK (T:Txt K mg A) (hB:TabB base mg A.tc A.tP tqS):FnOk P w K mg base CX0 1 A.f_q21 A.d_q21 ["_law_script","_law_k"] (bb [false,false] false (vo K)):=by
 have S:=vS
 refine fnD T.t_q21.F S ⟨[false,false],[false,false],false⟩ _ ?hl rfl rfl fun cdv Ar outer s H E hr=>⟨_,(ag (bj (aY nK dB (aa 1) (aK az dl rfl T.z_len bh (ad (aa 0) af)) (aR _)) (am (aE (ar ao dIx (aa 0) (aa 1) (fun _ _=>rfl)))) aT)
  (am (aE ae))),fun ds q h=>?_⟩
 case hl=>intro ds q h; obtain ⟨φ,ns,k,rfl,_⟩:=h; rfl
 obtain ⟨φ,ns,k,rfl,hφ,h0,q0⟩:=h
 refine ⟨hφ,?_⟩
 refine (bQ (c:=decide (k<(ns.length:Int))=true) (fun c=>?_) (fun c=>?_))
 ·have c':k<ns.length:=by simpa using c
  refine ⟨hφ,?_⟩
  show (match atI ns k with | some n=>q (.int n) [] | none=>False)
  rw [uV h0 c']; exact q0
 ·have c':ns.length≤k.toNat:=by simp at c; omega
  have e:nI ns k=0:=by unfold nI; rw [List.getD_eq_getElem?_getD,List.getElem?_eq_none c']; rfl
  rw [e] at q0; exact q0
theorem vU (T:Txt K mg A) (hB:TabB base mg A.tc A.tP tqS):FnOk P w K mg base CX0 2 A.f_q54 A.d_q54 ["_law_script","_law_k"] (bb [false,false] true (wP K)):=by
 have S:=vF
 refine fnD T.t_q54.F S ⟨[false,false],[false,false,false,false],true⟩ _ ?hl rfl rfl fun cdv Ar outer s H E hr=>⟨_,(ag (aH (i:=2) S.nd rfl (Or.inl rfl) (aj (vK T hB) hr T.t_q21 (ai (aa 0) (ai (aa 1) ak))))
  (ag (aH (i:=3) S.nd rfl (Or.inl rfl) (ay bx dI (ay bx dI (ay bx dI (ay dM dIC (ay di dIC (aa 2) ae) ae) (ay dM dIC (ay dM dIC ae (aa 1)) (aa 1))) (ay dM dIC ae (aa 1))) ae))
  (ag (bj (aY nK dB (aa 2) (ay gI dIC ae ae) (aR _)) (am (aH (i:=2) S.nd rfl (Or.inl rfl) ae)) aT)
  (am (bD (QF.qm (dH (ad (aa 2) (ad (ay di dIC (aa 3) ae) af))))))))),fun ds q h=>?_⟩
 case hl=>intro ds q h; obtain ⟨φ,ns,k,rfl,_⟩:=h; rfl
 obtain ⟨φ,ns,k,rfl,hφ,h0,h1,q0⟩:=h
 refine ⟨φ,ns,k,rfl,hφ,h0,?_⟩
 generalize nI ns k=z
 refine ⟨(show (0:Int)<2147483629 by decide),Or.inr ⟨by decide,by decide⟩,Or.inl ⟨by decide,by decide⟩,Or.inr ⟨by omega,by omega⟩,Or.inl ⟨by decide,by decide⟩,?_⟩
 refine ⟨⟨by decide,by decide,by decide⟩,?_⟩
 refine (bQ (c:=decide (z<10 ^ 18)=true) (fun c=>?_) (fun c=>?_))
 ·exact ⟨(show (0:Int)<2147483647 by decide),rfl,q0 _ _ (Int.le_refl 0)⟩
 ·have c':(10:Int) ^ 18≤z:=by simpa using c
  exact ⟨(show (0:Int)<2147483647 by decide),rfl,q0 _ _ (by omega)⟩
theorem bJ (T:Txt K mg A) (hB:TabB base mg A.tc A.tP tqS):FnOk P w K mg base CX0 1 A.f_q55 A.d_q55 ["_law_pool_here","_law_many"] (bb [true,false] false (vw)):=by
 have S:=xr
 refine fnD T.t_q55.F S ⟨[true,false],[true,false,false,false,false],false⟩ _ ?hl rfl rfl fun cdv Ar outer s H E hr=>⟨_,(ag (bj (QT.bor [0] (aY gZ dB (ar ao dIx (aa 0) ae (fun _ _=>rfl)) ae (aR _))) (ag (aH (i:=2) S.nd rfl (Or.inl rfl) (QE.bor [0] (ay di dIC (ar ao dIx (aa 0) ae (fun _ _=>rfl)) (aa 1))))
  (ag (kG (i:=0) rfl (QF.bor [0] (QE.qf (ay dg dIC (ar ao dIx (aa 0) ae (fun _ _=>rfl)) (aa 1)))) ae)
  (am (aE (aa 2))))) aT)
  (ag (aH (i:=3) S.nd rfl (Or.inl rfl) ae)
  (ag (cY PassesOwn.never rfl (e6 rfl T.z_range (ad (ay bx dI ae (ay dM dIC ae (dN dX k9 rfl T.z_int gE (ad (dJ gZ dB (aa 1) (ay gI dIC ae ae) (aR _)) af)))) af)) (aO (i:=4) S.nd rfl (Or.inl rfl)) (ag (kG (i:=0) rfl (QF.bor [0] (QE.qf (ay di dIC (ay bx dI (ay dM dIC (ar ao dIx (aa 0) ae (fun _ _=>rfl)) ae) ae) ae))) ae)
  (am (aH (i:=3) S.nd rfl (Or.inl rfl) (QE.bor [0] (ay bx dI (ay dM dIC (aa 3) ae) (ay di dIC (ay dM dIC (ar ao dIx (aa 0) ae (fun _ _=>rfl)) ae) ae)))))))
  (am (aE (ay di dIC (ay ny dIC (aa 3) ae) (aa 1))))))),fun ds q h=>?_⟩
 case hl=>intro ds q h; obtain ⟨c,m,many,rfl,_⟩:=h; rfl
 obtain ⟨c,m,many,rfl,h0,hm,hs,q0⟩:=h
 refine (bQ (c:=decide (0<c)=true) (fun c1=>?_) (fun c1=>?_))
 ·refine ⟨hm,rfl,?_⟩
  refine ⟨⟨hm,hs⟩,rfl,?_⟩
  exact q0 _ (c / many) m (Int.emod_nonneg _ (Int.ne_of_gt hm)) (Int.emod_lt_of_pos _ hm) (Int.ediv_nonneg h0 (Int.le_of_lt hm))
 ·refine ⟨⟨by decide,by decide,by decide⟩,Or.inl ⟨by decide,by decide⟩,⟨by split <;> decide,by split <;> decide⟩,?_⟩
  refine ⟨fun i ρ=>∃ (v:Option D) (m' made:Int),ρ=[some (aF [c,m']),some (.int many),none,some (.int made),v],⟨_,m,0,rfl⟩,?_,?_⟩
  ·rintro i d ρ hd ⟨v,m',made,rfl⟩
   obtain ⟨_,rfl⟩:=e8 hd
   refine ⟨Or.inr ⟨by decide,by decide⟩,(show (0:Int)<2147483587 by decide),rfl,?_⟩
   refine ⟨Or.inr ⟨by decide,by decide⟩,⟨Or.inr ⟨by decide,by decide⟩,(show (0:Int)<2147483629 by decide),?_⟩⟩
   exact ⟨rfl,_,_,_,rfl⟩
  ·rintro ρ ⟨v,m',made,rfl⟩
   refine ⟨⟨by decide,by decide⟩,hm,?_⟩
   exact q0 _ c m' (Int.emod_nonneg _ (Int.ne_of_gt hm)) (Int.emod_lt_of_pos _ hm) h0
def qz:SpD:=fun ds q=>∃ c m most,ds=[aF [c,m],.int most]∧0≤c∧0<most∧most≤23∧∀ ps r c' m',Tree ps (List.replicate ps.length r)→1≤r→r≤60→(ps.length:Int)≤most→0≤c'→q (aw ps (List.replicate ps.length r)) [some (aF [c',m'])]
theorem wC (T:Txt K mg A) (hB:TabB base mg A.tc A.tP tqS):FnOk P w K mg base CX0 2 A.f_q41 A.d_q41 ["_law_pool_here","_law_most"] (bb [true,false] true (qz)):=by
 have S:=vy
 refine fnD T.t_q41.F S ⟨[true,false],[true,false,false,true,false],true⟩ _ ?hl rfl rfl fun cdv Ar outer s H E hr=>⟨_,(ag (aH (i:=2) S.nd rfl (Or.inl rfl) (aj (bJ T hB) hr T.t_q55 (dn 0 (ai ae ak))))
  (ag (ey (i:=3) S.nd rfl (Or.inl rfl) (dH af))
  (ag (cY PassesOwn.never rfl (oq rfl T.z_range (ad ae (ad (ay bx dI ae (aj (bJ T hB) hr T.t_q55 (dn 0 (ai (aa 1) ak)))) af))) (aO (i:=4) S.nd rfl (Or.inl rfl)) (am (dS (i:=3) rfl (QE.qf (ar ao dIx (aU (ad (aj (bJ T hB) hr T.t_q55 (dn 0 (ai (aa 4) ak))) (ad (ay bW dI (aa 4) ae) (ad ae (ad (aK (fz rfl) dMax rfl T.z_max kO (ad ae (ad (ay bW dI (ay bW dI (aa 4) ae) (ay di dIC (aa 4) ae)) af))) (ad (ay ny dIC (aa 4) ae) af)))))) (aa 2) (fun _ _=>rfl))))))
  (am (bD (jW (pH 3 (QF.qm (QF.bor [3] (qf_mk lQ dRep (aU (ad (ay bx dI ae (aj (bJ T hB) hr T.t_q55 (dn 0 (ai (ar ao dIx (aU (ad ae (ad ae (ad ae af)))) (aj (bJ T hB) hr T.t_q55 (dn 0 (ai ae ak))) (fun _ _=>rfl)) ak)))) af)) (aK az dl rfl T.z_len bh (ad (aa 3) af)))))))))))),fun ds q h=>?_⟩
 case hl=>intro ds q h; obtain ⟨c,m,most,rfl,_⟩:=h; rfl
 obtain ⟨c,m,most,rfl,h0,hm0,hm1,q0⟩:=h
 refine ⟨c,m,5,rfl,h0,by decide,b_ (n:=5) (by decide) (by decide +kernel),fun w0 c1 m1 w00 w01 c10=>?_⟩
 refine ⟨rfl,?_⟩
 refine ⟨c1,m1,most,rfl,c10,hm0,b_ (n:=23) (by omega) (by decide +kernel),fun r2 c3 m3 r20 r21 c30=>?_⟩
 refine ⟨⟨by decide,by decide,by omega,by omega⟩,?_⟩
 refine ⟨fun i ρ=>∃ (ps:List Int) (c m:Int) (v:Option D),ρ=[some (aF [c,m]),some (.int most),some (.int w0),some (aF ps),v]∧0≤c∧ps.length=i ∧
  (∀ (j:Nat) (x:Int),ps[j]? = some x→0≤x∧x≤j),⟨[],c3,m3,_,rfl,c30,rfl,(fun j x h=>by simp at h)⟩,?_,?_⟩
 ·rintro i d ρ hd ⟨ps,c4,m4,v,rfl,c40,lp,hpar⟩
  obtain ⟨hi,rfl⟩:=e8 hd
  have hin:i<23:=by omega
  refine ⟨c4,m4,1 + (i:Int),rfl,c40,by omega,b_ (n:=100) (by omega) (by decide +kernel),fun r3 c5 m5 r30 r31 c50=>?_⟩
  refine ⟨(show (0:Int)<2 by decide),⟨(show (0:Int)<2 by decide),(show (2:Int)<1073741824 by decide)⟩,?_⟩
  obtain ⟨y,hy,y1,y2⟩:∃ y:Int,atI [D.int r3,D.int (1 + (i:Int) - 1),D.int 0,D.int (if 1 + (i:Int) - 1 - (1 + (i:Int)) % 2 > 0 then 1 + (i:Int) - 1 - (1 + (i:Int)) % 2 else 0),D.int ((1 + (i:Int)) / 2)] w0=some (.int y)∧0≤y∧y≤i:=by
   have:w0=0∨w0=1∨w0=2∨w0=3∨w0=4:=by omega
   rcases this with rfl | rfl | rfl | rfl | rfl
   ·exact ⟨_,rfl,by omega,by omega⟩
   ·exact ⟨_,rfl,by omega,by omega⟩
   ·exact ⟨_,rfl,by omega,by omega⟩
   ·refine ⟨_,rfl,?_,?_⟩ <;> split <;> omega
   ·exact ⟨_,rfl,by omega,by omega⟩
  refine be hy ?_
  refine ⟨rfl,by rw [aB]; omega,?_⟩
  refine ⟨ps++[y],c5,m5,some (.int (1 + (i:Int))),?_,c50,by rw [List.length_append,lp]; rfl,sU hpar ⟨y1,by omega⟩⟩
  rw [← jA]; rfl
 ·rintro ρ ⟨ps,c4,m4,v,rfl,c40,lp,hpar⟩
  rw [f6] at lp
  refine ⟨⟨_,rfl⟩,?_⟩
  refine ⟨c4,m4,3,rfl,c40,by decide,b_ (n:=3) (by decide) (by decide +kernel),fun r3 c5 m5 r30 r31 c50=>?_⟩
  obtain ⟨y,hy,y1,y2⟩:∃ y:Int,atI [D.int 3,D.int 8,D.int 60] r3=some (.int y)∧1≤y∧y≤60:=by
   have:r3=0∨r3=1∨r3=2:=by omega
   rcases this with rfl | rfl | rfl
   all_goals exact ⟨_,rfl,by decide,by decide⟩
  refine be hy ?_
  refine ⟨c5,m5,y,rfl,c50,by omega,b_ (n:=60) (by omega) (by decide +kernel),fun r4 c6 m6 r40 r41 c60=>?_⟩
  refine ⟨⟨by rw [aB]; omega,by rw [aB]; omega,by rw [aB]; simp; omega⟩,?_⟩
  rw [aB,i3,Int.toNat_natCast]
  have er:List.replicate ps.length (D.int (1 + r4))=(List.replicate ps.length (1 + r4)).map D.int:=by rw [List.map_replicate]
  rw [er]
  refine ⟨d3 _,?_⟩
  refine q0 ps (1 + r4) c6 m6 ⟨by rw [List.length_replicate],by omega,by omega,hpar,fun j x hx=>?_⟩ (by omega) (by omega) (by omega) c60
  have:=List.eq_of_mem_replicate (List.mem_of_getElem? hx)
  omega
theorem xn (T:Txt K mg A) (hB:TabB base mg A.tc A.tP tqS):FnOk P w K mg base CX0 2 A.f_q52 A.d_q52 ["_law_pool_here","_law_tree","_law_least","_law_most","_law_sizes"] (bb [true,false,false,false,false] true (tI)):=by
 have S:=ve
 refine fnD T.t_q52.F S ⟨[true,false,false,false,false],[true,false,false,false,false,false,true,false,false,false,false,false],true⟩ _ ?hl rfl rfl fun cdv Ar outer s H E hr=>⟨_,(ag (aH (i:=5) S.nd rfl (Or.inl rfl) (ay bx dI ae (aK az dl rfl T.z_len bh (ad (ar ao dIx (aa 1) ae (fun _ _=>rfl)) af))))
  (ag (ey (i:=6) S.nd rfl (Or.inl rfl) (dH af))
  (ag (cY PassesOwn.never rfl (e6 rfl T.z_range (ad (ay bx dI (aa 2) (aj (bJ T hB) hr T.t_q55 (dn 0 (ai (ay bx dI (ay bW dI (aa 3) (aa 2)) ae) ak)))) af)) (aO (i:=7) S.nd rfl (Or.inl rfl)) (ag (aH (i:=8) S.nd rfl (Or.inl rfl) (aj (bJ T hB) hr T.t_q55 (dn 0 (ai (aa 5) ak))))
  (ag (aH (i:=9) S.nd rfl (Or.inl rfl) (ay di dIC (ay bx dI (ay bx dI (aa 8) ae) (aj (bJ T hB) hr T.t_q55 (dn 0 (ai (ay bW dI (aa 5) ae) ak)))) (aa 5)))
  (ag (aH (i:=10) S.nd rfl (Or.inl rfl) (ay bx dI ae (aj (bJ T hB) hr T.t_q55 (dn 0 (ai (ar ao dIx (aa 4) (aj (bJ T hB) hr T.t_q55 (dn 0 (ai (aK az dl rfl T.z_len bh (ad (aa 4) af)) ak))) (fun _ _=>rfl)) ak)))))
  (ag (aH (i:=11) S.nd rfl (Or.inl rfl) (ay bx dI ae (aj (bJ T hB) hr T.t_q55 (dn 0 (ai (ar ao dIx (aU (ad ae (ad ae (ad (ay gI dIC ae ae) (ad (ay gI dIC ae ae) af))))) (aj (bJ T hB) hr T.t_q55 (dn 0 (ai ae ak))) (fun _ _=>rfl)) ak)))))
  (am (dS (i:=6) rfl (QE.qf (bf (ad (aa 8) (ad (aa 9) (ad (aa 10) (ad (aa 11) af)))))))))))))
  (am (bD (fj 6)))))),fun ds q h=>?_⟩
 case hl=>intro ds q h; obtain ⟨c,m,ps,rs,least,most,sizes,rfl,_⟩:=h; rfl
 obtain ⟨c,m,ps,rs,least,most,sizes,rfl,h0,hT,hl0,hlm,hm1,hs0,hs1,hs,q0⟩:=h
 have hi:=hT.hi
 have hlo:=hT.lo
 refine ⟨rfl,?_⟩
 refine ⟨c,m,most - least + 1,rfl,h0,by omega,b_ (n:=100) (by omega) (by decide +kernel),fun r c1 m1 r0 r1 c10=>?_⟩
 refine ⟨⟨by omega,by omega⟩,?_⟩
 refine ⟨fun i ρ=>∃ (as:List Ask) (c m:Int) (v1 v2 v3 v4 v5:Option D),ρ=[some (aF [c,m]),some (aw ps rs),some (.int least),some (.int most),some (aF sizes),some (.int (1 + ((ps.map D.int).length:Int))),some (aM as),v1,v2,v3,v4,v5]∧0≤c∧as.length=i∧(∀ a∈as,AskOk ps a)∧(∀ a∈as,∃ s∈sizes,a.size≤s),⟨[],c1,m1,_,_,_,_,_,rfl,c10,rfl,(fun a h=>by cases h),(fun a h=>by cases h)⟩,?_,?_⟩
 ·rintro i d ρ hd ⟨as,c2,m2,v1,v2,v3,v4,v5,rfl,c20,la,hok,hsz⟩
  obtain ⟨hi2,rfl⟩:=e8 hd
  have hi3:i<30:=by omega
  refine ⟨c2,m2,1 + ((ps.map D.int).length:Int),rfl,c20,by omega,b_ (n:=100) (by rw [aB]; omega) (by decide +kernel),fun a c3 m3 a0 a1 c30=>?_⟩
  rw [aB] at a1
  refine ⟨c3,m3,1 + ((ps.map D.int).length:Int) - 1,rfl,c30,by rw [aB]; omega,b_ (n:=100) (by rw [aB]; omega) (by decide +kernel),fun r c4 m4 r0 r1 c40=>?_⟩
  rw [aB] at r1
  refine ⟨(show (0:Int)<1 + ((ps.map D.int).length:Int) by omega),?_⟩
  refine ⟨c4,m4,((sizes.map D.int).length:Int),rfl,c40,by rw [aB]; omega,b_ (n:=100) (by rw [aB]; omega) (by decide +kernel),fun r2 c5 m5 r20 r21 c50=>?_⟩
  rw [aB] at r21
  refine be (cW r20 (by omega)) ?_
  have hzm:=L2.qV (show r2.toNat<sizes.length by omega)
  have hz:=hs _ hzm
  generalize sizes.getD r2.toNat 0=z at hz hzm
  refine ⟨c5,m5,z,rfl,c50,by omega,b_ (n:=1000000) (by omega) (by decide +kernel),fun s c6 m6 s0 s1 c60=>?_⟩
  refine ⟨⟨by decide,by decide,by decide⟩,⟨by decide,by decide,by decide⟩,?_⟩
  refine ⟨c6,m6,4,rfl,c60,by decide,b_ (n:=4) (by decide) (by decide +kernel),fun r3 c7 m7 r30 r31 c70=>?_⟩
  obtain ⟨y,hy,y1,y2⟩:∃ y:Int,atI [D.int 3,D.int 30,D.int (10 ^ Int.toNat 6),D.int (10 ^ Int.toNat 12)] r3=some (.int y)∧1≤y∧y≤1000000000000:=by
   have:r3=0∨r3=1∨r3=2∨r3=3:=by omega
   rcases this with rfl | rfl | rfl | rfl
   all_goals exact ⟨_,rfl,by decide,by decide⟩
  refine be hy ?_
  refine ⟨c7,m7,y,rfl,c70,by omega,b_ (n:=1000000000000) (by omega) (by decide +kernel),fun wo c8 m8 w0 w1 c80=>?_⟩
  refine ⟨rfl,by rw [dW]; omega,?_⟩
  have he:=mF (ps:=ps) (a:=a) (r:=r) a0 (by omega) r0 (by omega)
  refine ⟨as++[⟨a,(a + 1 + r) % (1 + ((ps.map D.int).length:Int)),1 + s,1 + wo⟩],c8,m8,_,_,_,_,_,by rw [← oH]; rfl,c80,by rw [List.length_append,la]; rfl,?_,?_⟩
  ·intro b hb
   rcases List.mem_append.mp hb with hb | hb
   ·exact hok b hb
   ·have:b=_:=List.mem_singleton.mp hb
    subst this
    exact ⟨by rw [aB]; exact he,by show 1≤1 + s; omega,by show 1 + s≤1000000; omega,by show 1≤1 + wo; omega,by show 1 + wo≤1000000000000; omega⟩
  ·intro b hb
   rcases List.mem_append.mp hb with hb | hb
   ·exact hsz b hb
   ·have:b=_:=List.mem_singleton.mp hb
    subst this
    exact ⟨z,hzm,by show 1 + s≤z; omega⟩
 ·rintro ρ ⟨as,c2,m2,v1,v2,v3,v4,v5,rfl,c20,la,hok,hsz⟩
  rw [f6] at la
  exact q0 as c2 m2 ⟨by omega,hok⟩ (by omega) (by omega) hsz c20
theorem iI (T:Txt K mg A) (hB:TabB base mg A.tc A.tP tqS):FnOk P w K mg base CX0 1 A.f_q66 A.d_q66 ["_law_tree","_law_place"] (bb [false,false] true (sdUp)):=by
 have S:=wc
 refine fnD T.t_q66.F S ⟨[false,false],[false,false,true],true⟩ _ ?hl rfl rfl fun cdv Ar outer s H E hr=>⟨_,(ag (ey (i:=2) S.nd rfl (Or.inl rfl) (dH (ad (aa 1) af)))
  (ag (gq PassesOwn.never (aY gZ dB (aa 1) ae (aR _)) (ag (aH (i:=1) S.nd rfl (Or.inl rfl) (ar ao dIx (ar ao dIx (aa 0) ae (fun _ _=>rfl)) (ay bW dI (aa 1) ae) (fun _ _=>rfl)))
  (am (dS (i:=2) rfl (QE.qf (aa 1))))))
  (am (bD (fj 2))))),fun ds q h=>?_⟩
 case hl=>intro ds q h; obtain ⟨ps,rs,k,rfl,_⟩:=h; rfl
 obtain ⟨ps,rs,k,rfl,hT,h0,h1,q0⟩:=h
 have hi:=hT.hi
 refine ⟨rfl,?_⟩
 refine ⟨fun j ρ=>∃ (k':Int) (acc:List Int),ρ=[some (aw ps rs),some (.int k'),some (aF acc)]∧0≤k'∧k'≤ps.length∧j=k'.toNat∧acc.length + k'.toNat≤24∧(∀ u,Up ps k' (k' :: u)→Up ps k (acc++u)),⟨_,k,[k],rfl,h0,h1,rfl,by simp; omega,fun u h=>h⟩,?_⟩
 rintro j ρ ⟨k',acc,rfl,h0',h1',rfl,hl,hu⟩
 refine (bQ (c:=decide (0<k')=true) (fun c=>?_) (fun c=>?_))
 ·have hk : 0<k':=by simpa using c
  have hp:=hT.up hk h1'
  refine be (cW (by omega) (by omega)) ?_
  refine ⟨rfl,by rw [aB]; omega,?_⟩
  refine ⟨(dr ps k').toNat,by omega,dr ps k',acc++[dr ps k'],?_,hp.1,by omega,rfl,by rw [List.length_append]; show acc.length + 1 + _≤24; omega,fun u h=>by rw [List.append_assoc]; exact hu _ (.step hk h)⟩
  rw [← jA]; rfl
 ·have hk:k'=0:=by simp at c; omega
  subst hk
  have:=hu [] .zero
  rw [List.append_nil] at this
  exact q0 acc this
theorem ww (T:Txt K mg A) (hB:TabB base mg A.tc A.tP tqS):FnOk P w K mg base CX0 2 A.f_q24 A.d_q24 ["_law_tree","_law_one","_law_other"] (bb [false,false,false] false (tL)):=by
 have S:=vb
 refine fnD T.t_q24.F S ⟨[false,false,false],[false,false,false,false],false⟩ _ ?hl rfl rfl fun cdv Ar outer s H E hr=>⟨_,(ag (aH (i:=3) S.nd rfl (Or.inr rfl) (QF.qe (aQ (iI T hB) hr T.t_q66 (ai (aa 0) (ai (aa 2) ak)))))
  (am (aE (ar ao dIx (h_ ["_law_place"] [3] ⟨rfl,rfl,by decide +kernel,rfl,rfl,(by first | exact trivial | exact ⟨rfl,trivial⟩ | exact ⟨rfl,rfl,trivial⟩ | exact ⟨rfl,rfl,rfl,trivial⟩ | exact ⟨rfl,rfl,rfl,rfl,trivial⟩),rfl⟩ rfl (bS (QF.qe (aQ (iI T hB) hr T.t_q66 (ai (aa 0) (ai (aa 1) ak))))) (dF 0) (fun _ _ _ _=>⟨(cB (i:=0) (show List.Nodup (["_law_place","_law_there"]:List Str) by decide +kernel) rfl (Or.inl rfl)),(nr (aY oo dIn (aa 0) (aa 1) rfl)),(aa 0)⟩)) ae (fun _ _=>rfl))))),fun ds q h=>?_⟩
 case hl=>intro ds q h; obtain ⟨ps,rs,a,b,rfl,_⟩:=h; rfl
 obtain ⟨ps,rs,a,b,rfl,hT,a0,a1,b0,b1,q0⟩:=h
 have hi:=hT.hi
 refine ⟨ps,rs,b,rfl,hT,b0,b1,fun ub hub=>?_⟩
 refine ⟨ps,rs,a,rfl,hT,a0,a1,fun ua hua=>?_⟩
 have hl:=hua.len hT a1
 refine ⟨by rw [aB]; omega,?_⟩
 refine ln (filD fun x=>ub.contains x) ?_ ?_
 ·intro d hd k hk
  obtain ⟨x,hx,rfl⟩:=fT hd
  refine ⟨rfl,jr ub,?_⟩
  change k (if ub.contains x=true then some (.int x) else none) at hk
  show if inD (.int x) (ub.map D.int)=true then k (some (.int x)) else k none
  rw [kZ]
  cases e:ub.contains x with
  | true=>rw [e] at hk; exact hk
  | false=>rw [e] at hk; exact hk
 ·rw [gT]
  obtain ⟨w,m,hw⟩:=Climb.all hT a0 b0 a1 b1
  obtain ⟨m1,m2,m3⟩:=hw.meet hT a0 b0 a1 b1 hua hub
  obtain ⟨r,hr⟩:=oF (p:=fun x=>ub.contains x) (hua.dec hT a1) m1 (List.contains_iff_mem.mpr m2) fun x hx hp=>m3 x hx (List.contains_iff_mem.mp hp)
  rw [hr]
  exact be (atI0 _ _) (q0 w m hw)
theorem wU (T:Txt K mg A) (hB:TabB base mg A.tc A.tP tqS):FnOk P w K mg base CX0 3 A.f_q62 A.d_q62 ["_law_tree","_law_one","_law_other"] (bb [false,false,false] true (w5)):=by
 have S:=vX
 refine fnD T.t_q62.F S ⟨[false,false,false],[false,false,false,false,false],true⟩ _ ?hl rfl rfl fun cdv Ar outer s H E hr=>⟨_,(ag (aH (i:=3) S.nd rfl (Or.inr rfl) (QF.qe (aQ (iI T hB) hr T.t_q66 (ai (aa 0) (ai (aj (ww T hB) hr T.t_q24 (ai (aa 0) (ai (aa 1) (ai (aa 2) ak)))) ak)))))
  (ag (aH (i:=4) S.nd rfl (Or.inl rfl) (gY gA oP (QF.qe (aQ (iI T hB) hr T.t_q66 (ai (aa 0) (ai (aa 1) ak)))) (QF.qe (aQ (iI T hB) hr T.t_q66 (ai (aa 0) (ai (aa 2) ak))))))
  (am (bD (QF.qm (ld gc pB rfl T.z_sorted jP (ad (h_ ["_law_place"] [3] ⟨rfl,rfl,by decide +kernel,rfl,rfl,(by first | exact trivial | exact ⟨rfl,trivial⟩ | exact ⟨rfl,rfl,trivial⟩ | exact ⟨rfl,rfl,rfl,trivial⟩ | exact ⟨rfl,rfl,rfl,rfl,trivial⟩),rfl⟩ rfl (bS (aa 4)) (dF 0) (fun _ _ _ _=>⟨(cB (i:=0) (show List.Nodup (["_law_place","_law_above"]:List Str) by decide +kernel) rfl (Or.inl rfl)),(nr (aY j_ dIn (aa 0) (aa 1) rfl)),(aa 0)⟩)) af))))))),fun ds q h=>?_⟩
 case hl=>intro ds q h; obtain ⟨ps,rs,a,b,rfl,_⟩:=h; rfl
 obtain ⟨ps,rs,a,b,rfl,hT,a0,a1,b0,b1,q0⟩:=h
 have hi:=hT.hi
 refine ⟨ps,rs,a,b,rfl,hT,a0,a1,b0,b1,fun w m hw=>?_⟩
 have hm:=hw.low hT a0 b0 a1 b1
 refine ⟨ps,rs,m,rfl,hT,hm.1,by omega,fun um hum=>?_⟩
 refine ⟨ps,rs,a,rfl,hT,a0,a1,fun ua hua=>?_⟩
 refine ⟨ps,rs,b,rfl,hT,b0,b1,fun ub hub=>?_⟩
 have hl:=hua.len hT a1
 have hl2:=hub.len hT b1
 refine ⟨by rw [aB,aB]; omega,?_⟩
 refine ⟨by rw [List.length_append,aB,aB]; omega,?_⟩
 rw [← List.map_append]
 refine ln (filD fun x=>!um.contains x) ?_ ?_
 ·intro d hd k hk
  obtain ⟨x,hx,rfl⟩:=fT hd
  refine ⟨rfl,jr um,?_⟩
  change k (if (!um.contains x)=true then some (.int x) else none) at hk
  show if (!inD (.int x) (um.map D.int))=true then k (some (.int x)) else k none
  rw [kZ]
  cases e:um.contains x with
  | true=>rw [e] at hk; exact hk
  | false=>rw [e] at hk; exact hk
 ·rw [gT]
  have hp:=hw.perm hT a0 b0 a1 b1 hua hub hum
  refine ⟨_,rfl,?_,d3 _,?_⟩
  ·rw [← hp.length_eq]; have:=hw.len hT a0 b0 a1 b1; omega
  ·rw [← lK ((cI w).trans hp) (eF w)]
   exact q0 w m hw
def xl:SpD:=fun ds q=>∃ n b,ds=[.int n,.int b]∧0<b∧q (.int (bF n b)) []
theorem wL (T:Txt K mg A) (hB:TabB base mg A.tc A.tP tqS):FnOk P w K mg base CX0 1 A.f_q22 A.d_q22 ["_law_one","_law_other"] (bb [false,false] false (xl)):=by
 have S:=wQ
 refine fnD T.t_q22.F S ⟨[false,false],[false,false],false⟩ _ ?hl rfl rfl fun cdv Ar outer s H E hr=>⟨_,(ag (gq PassesOwn.never (aY (bo hr.units) dNe (aa 1) ae (aR _)) (am (kI (i:=0) (j:=1) rfl S.nd rfl rfl (by decide) rfl rfl (aa 1) (ay di dIC (aa 0) (aa 1)) rfl)))
  (am (aE (aK qW dAbs rfl T.z_abs wX (ad (aa 0) af))))),fun ds q h=>?_⟩
 case hl=>intro ds q h; obtain ⟨n,b,rfl,_⟩:=h; rfl
 obtain ⟨n,b,rfl,hb,q0⟩:=h
 refine ⟨fun k ρ=>∃ n' b':Int,ρ=[some (.int n'),some (.int b')]∧0≤b'∧b'.toNat=k∧bF n' b'=bF n b,⟨_,n,b,rfl,by omega,rfl,rfl⟩,?_⟩
 rintro k ρ ⟨n',b',rfl,hb',hk,hg⟩
 refine (bQ (c:=(!decide (b'=0))=true) (fun c=>?_) (fun c=>?_))
 ·have c':b'≠0:=by simpa using c
  have hp : 0<b':=by omega
  refine ⟨hp,?_⟩
  have:=Int.emod_lt_of_pos n' hp
  have:=Int.emod_nonneg n' (show b'≠0 by omega)
  exact ⟨_,by omega,b',n' % b',rfl,by omega,rfl,by rw [jK hp]; exact hg⟩
 ·have c':b'=0:=by simpa using c
  subst c'
  have e:bF n b=n':=by rw [← hg]; unfold bF; rw [if_pos rfl]
  have g:=d9 (n:=n) hb
  rw [e] at q0 g
  have ea:(if n'<0 then -n' else n')=n':=if_neg (by omega)
  show q (.int (if n'<0 then -n' else n')) []
  rw [ea]; exact q0
theorem lS (T:Txt K mg A) (hB:TabB base mg A.tc A.tP tqS):FnOk P w K mg base CX0 2 A.f_q61 A.d_q61 ["_law_top","_law_bottom"] (bb [false,false] false (pP)):=by
 have S:=vg
 refine fnD T.t_q61.F S ⟨[false,false],[false,false,false],false⟩ _ ?hl rfl rfl fun cdv Ar outer s H E hr=>⟨_,(ag (aH (i:=2) S.nd rfl (Or.inl rfl) (aj (wL T hB) hr T.t_q22 (ai (aa 0) (ai (aa 1) ak))))
  (am (aE (bf (ad (ay dg dIC (aa 0) (aa 2)) (ad (ay dg dIC (aa 1) (aa 2)) af)))))),fun ds q h=>?_⟩
 case hl=>intro ds q h; obtain ⟨t,b,rfl,_⟩:=h; rfl
 obtain ⟨t,b,rfl,hb,hs,q0⟩:=h
 refine ⟨t,b,rfl,hb,?_⟩
 have g:=d9 (n:=t) hb
 have gl:=ko (n:=t) hb
 have gs:Sm (bF t b):=by show (bF t b).natAbs<_; exact Nat.lt_of_le_of_lt (by omega) hs
 refine ⟨⟨g,gs⟩,⟨g,gs⟩,?_⟩
 rw [kA hb,ku hb]
 exact q0
theorem u9 {r:Rat} {t b:Int} (hb : 0<b):Rat.divInt (r.num * b + t * (r.den:Int)) ((r.den:Int) * b)=r + Rat.divInt t b:=by
 have hd:((r.den:Int):Rat)≠0:=fun z=>by have:=Rat.intCast_eq_zero_iff.mp z; have:=r.den_pos; omega
 have hq:((b:Int):Rat)≠0:=fun z=>by have:=Rat.intCast_eq_zero_iff.mp z; omega
 have e:=cr r
 rw [Rat.divInt_eq_div] at e
 rw [Rat.divInt_eq_div,Rat.divInt_eq_div,Rat.intCast_add,Rat.intCast_mul,Rat.intCast_mul,Rat.intCast_mul]
 generalize ((r.den:Int):Rat)=x at hd e
 generalize ((r.num:Int):Rat)=y at e
 generalize ((b:Int):Rat)=z at hq
 generalize ((t:Int):Rat)=u
 rw [← e]
 grind
structure LeN (t:Int) (n:Nat):Prop where
 h:t.natAbs<2 ^ n
def sF:SpD:=fun ds q=>∃ (r:Rat) (t b:Int),ds=[dQ r,.tup [.int t,.int b]]∧0<b∧Bt r 3000∧LeN t 3000∧LeN b 3000∧q (dQ (r + Rat.divInt t b)) []
theorem kj (T:Txt K mg A) (hB:TabB base mg A.tc A.tP tqS):FnOk P w K mg base CX0 3 A.f_q53 A.d_q53 ["_law_one","_law_other"] (bb [false,false] false (sF)):=by
 have S:=uW
 refine fnD T.t_q53.F S ⟨[false,false],[false,false],false⟩ _ ?hl rfl rfl fun cdv Ar outer s H E hr=>⟨_,(am (aE (aj (lS T hB) hr T.t_q61 (ai (ay bx dI (ay bM dIC (ar ao dIx (aa 0) ae (fun _ _=>rfl)) (ar ao dIx (aa 1) ae (fun _ _=>rfl))) (ay bM dIC (ar ao dIx (aa 1) ae (fun _ _=>rfl)) (ar ao dIx (aa 0) ae (fun _ _=>rfl)))) (ai (ay bM dIC (ar ao dIx (aa 0) ae (fun _ _=>rfl)) (ar ao dIx (aa 1) ae (fun _ _=>rfl))) ak))))),fun ds q h=>?_⟩
 case hl=>intro ds q h; obtain ⟨r,t,b,rfl,_⟩:=h; rfl
 obtain ⟨r,t,b,rfl,hb,hr,ht,hb2,q0⟩:=h
 have sb:Sm b:=Nat.lt_of_lt_of_le hb2.h (cC (by decide))
 refine ⟨⟨hr.smN (by decide),sb⟩,⟨Nat.lt_of_lt_of_le ht.h (cC (by decide)),hr.smD (by decide)⟩,⟨hr.smD (by decide),sb⟩,?_⟩
 have hd:=a8 r
 refine ⟨r.num * b + t * (r.den:Int),(r.den:Int) * b,rfl,Int.mul_pos hd hb,?_,?_⟩
 ·show ((r.den:Int) * b).natAbs<_
  rw [Int.natAbs_mul,Int.natAbs_natCast]
  exact Nat.lt_of_lt_of_le (a7 (m:=3000) (n:=3000) hr.den hb2.h) (cC (by decide))
 ·rw [u9 hb]; exact q0
end
end K35
namespace K35
open PySem L2
section
variable {P:Program} {w:World} {K:PySem.W.Frag} {mg:Str→Option Value} {base:Heap} {A:Adr}
def lR (k:Int) (a:Ask):Ask:=⟨a.one,a.other,1 + (a.size - 1) % k,a.worth⟩
def uz (k:Int):D→D
 | .tup [.int o,.int p,.int s,.int w]=>bv ⟨o,p,1 + (s - 1) % k,w⟩
 | d=>d
theorem o4 (k:Int) (as:List Ask):(as.map bv).map (uz k)=(as.map (lR k)).map bv:=by rw [List.map_map,List.map_map]; rfl
theorem pM {ps:List Int} {k:Int} {as:List Ask} (hT:Tree ps (List.replicate ps.length k)) (h1 : 1≤k) (h60:k≤60) (ha:AsksOk ps as):RoomK ps k (as.map (lR k)):=by
 have key:∀ a:Ask,1≤(lR k a).size∧(lR k a).size≤k:=fun a=>by
  have a1:=Int.emod_nonneg (a.size - 1) (show k≠0 by omega)
  have a2:=Int.emod_lt_of_pos (a.size - 1) (show 0<k by omega)
  show 1≤1 + (a.size - 1) % k∧1 + (a.size - 1) % k≤k
  omega
 refine ⟨hT,h1,h60,⟨by rw [List.length_map]; exact ha.len,fun a hm=>?_⟩,fun a hm=>?_⟩
 ·obtain ⟨b,hb,rfl⟩:=List.mem_map.mp hm
  have ok:=ha.ok b hb
  have:=key b
  exact ⟨ok.ends,this.1,by omega,ok.w0,ok.w1⟩
 ·obtain ⟨b,hb,rfl⟩:=List.mem_map.mp hm
  exact (key b).2
def xh:SpD:=fun ds q=>∃ (ps:List Int) (k:Int) (as:List Ask),ds=[aw ps (List.replicate ps.length k),aM as]∧Tree ps (List.replicate ps.length k)∧1≤k∧k≤60∧AsksOk ps as∧q (aM (as.map (lR k))) []
theorem vH (T:Txt K mg A) (hB:TabB base mg A.tc A.tP tqS):FnOk P w K mg base CX0 1 A.f_q23 A.d_q23 ["_law_tree","_law_asks_here"] (bb [false,false] true (xh)):=by
 have S:=wG
 refine fnD T.t_q23.F S ⟨[false,false],[false,false],true⟩ _ ?hl rfl rfl fun cdv Ar outer s H E hr=>⟨_,(am (bD (QF.qm (tX ["_law_ask"] [0] ⟨rfl,rfl,by decide +kernel,rfl,rfl,(by first | exact trivial | exact ⟨rfl,trivial⟩ | exact ⟨rfl,rfl,trivial⟩ | exact ⟨rfl,rfl,rfl,trivial⟩ | exact ⟨rfl,rfl,rfl,rfl,trivial⟩),rfl⟩ rfl (bS (aa 1)) (dF 0) (fun _ _ _ _=>⟨(cB (i:=0) (show List.Nodup (["_law_ask","_law_tree"]:List Str) by decide +kernel) rfl (Or.inl rfl)),fh,(bf (ad (ar ao dIx (aa 0) ae (fun _ _=>rfl)) (ad (ar ao dIx (aa 0) ae (fun _ _=>rfl)) (ad (ay bx dI ae (ay di dIC (ay bW dI (ar ao dIx (aa 0) ae (fun _ _=>rfl)) ae) (ar ao dIx (ar ao dIx (aa 1) ae (fun _ _=>rfl)) ae (fun _ _=>rfl)))) (ad (ar ao dIx (aa 0) ae (fun _ _=>rfl)) af)))))⟩))))),fun ds q h=>?_⟩
 case hl=>intro ds q h; obtain ⟨ps,k,as,rfl,_⟩:=h; rfl
 obtain ⟨ps,k,as,rfl,hT,h1,h60,ha,q0⟩:=h
 have hal:=ha.len
 have hlo:=hT.lo
 refine ⟨by rw [dW]; omega,?_⟩
 refine fw (uz k) ?_ ?_
 ·intro d hd q hq
  obtain ⟨a,hm,rfl⟩:=List.mem_map.mp hd
  have e:(List.replicate ps.length k).getD (0:Int).toNat 0=k:=by rw [List.getD_eq_getElem?_getD,List.getElem?_replicate,if_pos (by omega)]; rfl
  have hat:=cW (ns:=List.replicate ps.length k) (k:=0) (by decide) (by rw [List.length_replicate]; omega)
  rw [e] at hat
  refine be hat ?_
  refine ⟨(show (0:Int)<k by omega),?_⟩
  exact hq
 ·rw [o4]
  exact ⟨jL _,q0⟩
def wZ:SpD:=fun ds q=>∃ c m ps rs,ds=[aF [c,m],aw ps rs]∧0≤c∧Tree ps rs∧∀ prs c' m',PrK ps prs→(∀ r∈prs,0≤r∧r≤(((1000000000000:Nat):Int):Rat)∧r.den≤60)→0≤c'→q (dQs prs) [some (aF [c',m'])]
structure PrD (ps:List Int) (prs:List Rat):Prop where
 ok:∀ r∈prs,0≤r∧r≤(((1000000000000:Nat):Int):Rat)∧r.den≤60
theorem DvM.of {r:Rat} {M:Nat} (h:r.den∣M):DvM r M:=by
 obtain ⟨c,rfl⟩:=h
 refine ⟨r.num * c,?_⟩
 have hd:((r.den:Int):Rat)≠0:=fun z=>by have:=Rat.intCast_eq_zero_iff.mp z; have:=r.den_pos; omega
 have e:r * ((r.den:Int):Rat)=(r.num:Rat):=by
  have:=cr r
  rw [Rat.divInt_eq_div] at this
  generalize ((r.den:Int):Rat)=x at hd this
  grind
 rw [Int.natCast_mul,Rat.intCast_mul,← Rat.mul_assoc,e,Rat.intCast_mul]
theorem PrD.k {ps:List Int} {prs:List Rat} (h:PrD ps prs) (hl:prs.length=ps.length) (h23:ps.length≤23):PrK ps prs:=by
 have hp:=kX (n:=60) (rs:=prs) fun r hr=>(h.ok r hr).2.2
 refine ⟨iU prs,1000000000000,⟨hl,fun r hr=>⟨(h.ok r hr).1,(h.ok r hr).2.1,DvM.of (o5 hr)⟩⟩,oY prs,Nat.lt_of_le_of_lt hp (Nat.lt_of_le_of_lt (Nat.pow_le_pow_right (n:=60) (by decide) (show prs.length≤23 by omega)) (by decide)),by decide⟩
theorem wD {t b:Int} (t0 : 0≤t) (t1:t≤1000000000000) (b0 : 1≤b) (b1:b≤60) : 0≤Rat.divInt t b∧Rat.divInt t b≤(((1000000000000:Nat):Int):Rat)∧(Rat.divInt t b).den≤60:=by
 refine ⟨oR t0 (by omega),?_,by have:=(jt (t:=t) (b:=b) (by omega)).2; omega⟩
 rw [Rat.divInt_eq_div]
 exact (vD (Rat.intCast_nonneg.mpr t0) (Rat.intCast_le_intCast.mpr (by omega)) b0).2
theorem rZ (T:Txt K mg A) (hB:TabB base mg A.tc A.tP tqS):FnOk P w K mg base CX0 3 A.f_q36 A.d_q36 ["_law_pool_here","_law_tree"] (bb [true,false] true (wZ)):=by
 have S:=wf
 refine fnD T.t_q36.F S ⟨[true,false],[true,false,true,false,false,false],true⟩ _ ?hl rfl rfl fun cdv Ar outer s H E hr=>⟨_,(ag (ey (i:=2) S.nd rfl (Or.inl rfl) (dH af))
  (ag (aH (i:=3) S.nd rfl (Or.inl rfl) (aj (bJ T hB) hr T.t_q55 (dn 0 (ai ae ak))))
  (ag (cY PassesOwn.never rfl (bS (ar ao dIx (aa 1) ae (fun _ _=>rfl))) (aO (i:=4) S.nd rfl (Or.inl rfl)) (ag (aH (i:=5) S.nd rfl (Or.inl rfl) (aj (bJ T hB) hr T.t_q55 (dn 0 (ai (ar ao dIx (aU (ad ae (ad ae (ad (ay gI dIC ae ae) (ad (ay gI dIC ae ae) af))))) (aa 3) (fun _ _=>rfl)) ak))))
  (am (dS (i:=2) rfl (QE.qf (aj (lS T hB) hr T.t_q61 (ai (aa 5) (ai (ay bx dI ae (aj (bJ T hB) hr T.t_q55 (dn 0 (ai (ar ao dIx (aU (ad ae (ad ae (ad ae af)))) (aj (bJ T hB) hr T.t_q55 (dn 0 (ai ae ak))) (fun _ _=>rfl)) ak)))) ak))))))))
  (am (bD (fj 2)))))),fun ds q h=>?_⟩
 case hl=>intro ds q h; obtain ⟨c,m,ps,rs,rfl,_⟩:=h; rfl
 obtain ⟨c,m,ps,rs,rfl,h0,hT,q0⟩:=h
 have hti:=hT.hi
 have hlr:=hT.len
 refine ⟨rfl,?_⟩
 refine ⟨c,m,4,rfl,h0,by decide,b_ (n:=4) (by decide) (by decide +kernel),fun u c1 m1 u0 u1 h1=>?_⟩
 refine ⟨fun i ρ=>∃ (prs:List Rat) (c m:Int) (v4 v5:Option D),ρ=[some (aF [c,m]),some (aw ps rs),some (dQs prs),some (.int u),v4,v5]∧0≤c∧prs.length=i∧PrD ps prs,⟨[],c1,m1,_,_,rfl,h1,rfl,⟨fun r hr=>by cases hr⟩⟩,?_,?_⟩
 ·rintro i d ρ hd ⟨prs,c2,m2,v4,v5,rfl,h2,hl,hp⟩
  obtain ⟨z,hz,rfl⟩:=gD hd
  have hil:i<rs.length:=(List.getElem?_eq_some_iff.mp hz).1
  refine ⟨⟨by decide,by decide,by decide⟩,⟨by decide,by decide,by decide⟩,?_⟩
  obtain ⟨y,hy,y1,y2⟩:∃ y:Int,atI [D.int 1,D.int 10,D.int (10 ^ Int.toNat 6),D.int (10 ^ Int.toNat 12)] u=some (.int y)∧1≤y∧y≤1000000000000:=by
   have:u=0∨u=1∨u=2∨u=3:=by omega
   rcases this with rfl | rfl | rfl | rfl
   all_goals exact ⟨_,rfl,by decide,by decide⟩
  refine be hy ?_
  refine ⟨c2,m2,y,rfl,h2,by omega,b_ (n:=1000000000000) (by omega) (by decide +kernel),fun t c3 m3 t0 t1 h3=>?_⟩
  refine ⟨c3,m3,3,rfl,h3,by decide,b_ (n:=3) (by decide) (by decide +kernel),fun r3 c4 m4 r30 r31 h4=>?_⟩
  obtain ⟨x,hx,x1,x2⟩:∃ x:Int,atI [D.int 1,D.int 4,D.int 60] r3=some (.int x)∧1≤x∧x≤60:=by
   have:r3=0∨r3=1∨r3=2:=by omega
   rcases this with rfl | rfl | rfl
   all_goals exact ⟨_,rfl,by decide,by decide⟩
  refine be hx ?_
  refine ⟨c4,m4,x,rfl,h4,by omega,b_ (n:=60) (by omega) (by decide +kernel),fun r4 c5 m5 r40 r41 h5=>?_⟩
  refine ⟨t,1 + r4,rfl,by omega,b_ (n:=60) (by omega) (by decide +kernel),?_⟩
  refine ⟨rfl,by rw [List.length_map]; omega,?_⟩
  refine ⟨prs++[Rat.divInt t (1 + r4)],c5,m5,some (.int z),some (.int t),?_,h5,by rw [List.length_append,hl]; rfl,⟨fun r hr=>?_⟩⟩
  ·unfold dQs; rw [List.map_append]; rfl
  ·rcases List.mem_append.mp hr with hr | hr
   ·exact hp.ok r hr
   ·rw [List.mem_singleton.mp hr]; exact wD t0 (by omega) (by omega) (by omega)
 ·rintro ρ ⟨prs,c2,m2,v4,v5,rfl,h2,hl,hp⟩
  rw [aB] at hl
  exact q0 prs c2 m2 (hp.k (by omega) hti) hp.ok h2
theorem lr (x:Int) (p:Rat):Rat.divInt (x * p.num) p.den=(x:Rat) * p:=by
 rw [ij,cr]
theorem LeN.mul {x y:Int} {m n k:Nat} (hx:LeN x m) (hy:LeN y n) (h:m + n≤k):LeN (x * y) k:=⟨by rw [Int.natAbs_mul]; exact Nat.lt_of_lt_of_le (a7 hx.h hy.h) (cC h)⟩
theorem LeN.of {x:Int} (m:Nat) {n:Nat} (h:x.natAbs≤m) (hm:m<2 ^ n):LeN x n:=⟨Nat.lt_of_le_of_lt h hm⟩
theorem LeN.num {r:Rat} {m n:Nat} (h:Bt r m) (hm:m≤n):LeN r.num n:=⟨Nat.lt_of_lt_of_le h.num (cC hm)⟩
theorem LeN.den {r:Rat} {m n:Nat} (h:Bt r m) (hm:m≤n):LeN (r.den:Int) n:=⟨by rw [Int.natAbs_natCast]; exact Nat.lt_of_lt_of_le h.den (cC hm)⟩
theorem LeN.neg {x:Int} {n:Nat} (h:LeN x n):LeN (0 - x) n:=⟨by have:=h.h; rw [Int.zero_sub,Int.natAbs_neg]; exact this⟩
theorem nL {ps rs:List Int} {prs:List Rat} {a:Ask} (hT:Tree ps rs) (ha:AskOk ps a) (hp:PrK ps prs) {s:Int} (s0 : 0≤s) (s1:s≤1000000) (n:Nat):Bt ((a.worth:Rat) - (s:Rat) * (((bn ps a).take n).map fun t=>prs.getD (t - 1).toNat 0).sum) 600:=by
 obtain ⟨M,b,hp,M0,hM,hb⟩:=hp
 have hmem:∀ r∈((bn ps a).take n).map (fun t=>prs.getD (t - 1).toNat 0),r∈prs:=fun r hr=>by
  obtain ⟨t,ht,rfl⟩:=List.mem_map.mp hr
  have:=ic hT ha.ends (List.mem_of_mem_take ht)
  exact dR (by rw [hp.len]; omega)
 have q:=fK (b:=((b:Int):Rat)) (Rat.intCast_nonneg.mpr (by omega)) fun r hr=>⟨(hp.ok r (hmem r hr)).1,(hp.ok r (hmem r hr)).2.1⟩
 have hl:(((bn ps a).take n).map fun t=>prs.getD (t - 1).toNat 0).length≤46:=by
  rw [List.length_map,List.length_take]
  have:(bn ps a).length≤46:=gB hT ha.ends
  omega
 have h1:(((bn ps a).take n).map fun t=>prs.getD (t - 1).toNat 0).sum≤(((46 * b:Nat):Int):Rat):=by
  rw [Int.natCast_mul,Rat.intCast_mul]
  exact Rat.le_trans q.2 (Rat.mul_le_mul_of_nonneg_right (Rat.natCast_le_natCast.mpr hl) (Rat.intCast_nonneg.mpr (by omega)))
 have bp:Bt (((bn ps a).take n).map fun t=>prs.getD (t - 1).toNat 0).sum (400 + 66):=fF q.1 h1 (DvM.sum fun r hr=>(hp.ok r (hmem r hr)).2.2) M0 hM (Nat.le_trans (Nat.mul_le_mul_left _ hb) (by decide))
 have bw:Bt (s:Rat) 20:=jB 1000000 (by omega) (by decide) (by decide)
 have ba:Bt (a.worth:Rat) 40:=jB 1000000000000 (by have:=ha.w0; have:=ha.w1; omega) (by decide) (by decide)
 exact (ba.sub (bw.mul bp)).mono (by decide)
theorem md {ps:List Int} {prs:List Rat} {r:Rat}:PrK ps prs→r∈prs→Bt r 460
 | ⟨_,_,h1,h2,h3,h4⟩,hr=>fF (h1.ok r hr).1 (h1.ok r hr).2.1 (h1.ok r hr).2.2 h2 h3 h4
theorem io {ps:List Int} {k:Int} {as:List Ask} {P U:List Rat} (hk:RoomK ps k as):PrK ps P→PrK ps U→∀ {l1 l2 l3:List Rat},l1.Sublist P→l2.Sublist U→l3.Sublist (as.map (ck ps k P U))→Bt (l1.sum + (k:Rat) * l2.sum + l3.sum) 1000
 | ⟨M1,b1,p1,p2,p3,p4⟩,⟨M2,b2,u1,u2,u3,u4⟩,l1,l2,l3,g1,g2,g3=>by
  have d1:∀ {r:Rat},DvM r M1→DvM r (M1 * M2):=fun h=>h.up M2
  have d2:∀ {r:Rat},DvM r M2→DvM r (M1 * M2):=fun h=>by rw [Nat.mul_comm]; exact h.up M1
  have q3:∀ r∈l3,0≤r∧r≤(((1000000000000:Nat):Int):Rat)∧DvM r (M1 * M2):=fun r hr=>by
   obtain ⟨a,hm,rfl⟩:=List.mem_map.mp (g3.subset hr)
   have ok:=hk.a.ok a hm
   have s0:=ok.s0
   unfold ck
   split
   ·have:=ie (w:=1) hk.t ok (by decide) p1; exact ⟨this.1,this.2.1,d1 this.2.2⟩
   ·have:=ie (w:=a.size) hk.t ok (by omega) u1; exact ⟨this.1,this.2.1,d2 this.2.2⟩
  have s1:=fK (b:=((b1:Int):Rat)) (Rat.intCast_nonneg.mpr (by omega)) fun r hr=>⟨(p1.ok r (g1.subset hr)).1,(p1.ok r (g1.subset hr)).2.1⟩
  have s2:=fK (b:=((b2:Int):Rat)) (Rat.intCast_nonneg.mpr (by omega)) fun r hr=>⟨(u1.ok r (g2.subset hr)).1,(u1.ok r (g2.subset hr)).2.1⟩
  have s3:=fK (b:=(((1000000000000:Nat):Int):Rat)) (by decide) fun r hr=>⟨(q3 r hr).1,(q3 r hr).2.1⟩
  have hti:=hk.t.hi
  have n1:l1.length≤23:=by have:=g1.length_le; rw [p1.len] at this; omega
  have n2:l2.length≤23:=by have:=g2.length_le; rw [u1.len] at this; omega
  have n3:l3.length≤30:=by have:=g3.length_le; rw [List.length_map] at this; have:=hk.a.len; omega
  have k0:(0:Rat)≤(k:Rat):=Rat.intCast_nonneg.mpr (by have:=hk.k0; omega)
  have k60:(k:Rat)≤(((60:Nat):Int):Rat):=Rat.intCast_le_intCast.mpr (by have:=hk.k60; omega)
  have m1:(l1.length:Rat) * ((b1:Int):Rat)≤(((23:Nat):Int):Rat) * ((b1:Int):Rat):=Rat.mul_le_mul_of_nonneg_right (Rat.natCast_le_natCast.mpr n1) (Rat.intCast_nonneg.mpr (by omega))
  have m2:(l2.length:Rat) * ((b2:Int):Rat)≤(((23:Nat):Int):Rat) * ((b2:Int):Rat):=Rat.mul_le_mul_of_nonneg_right (Rat.natCast_le_natCast.mpr n2) (Rat.intCast_nonneg.mpr (by omega))
  have m3:(l3.length:Rat) * (((1000000000000:Nat):Int):Rat)≤(((30:Nat):Int):Rat) * (((1000000000000:Nat):Int):Rat):=Rat.mul_le_mul_of_nonneg_right (Rat.natCast_le_natCast.mpr n3) (by decide)
  have m4:(k:Rat) * l2.sum≤(((60:Nat):Int):Rat) * ((((23:Nat):Int):Rat) * ((b2:Int):Rat)):=Rat.le_trans (Rat.mul_le_mul_of_nonneg_right k60 s2.1) (Rat.mul_le_mul_of_nonneg_left (Rat.le_trans s2.2 m2) (by decide))
  have z : 0≤(k:Rat) * l2.sum:=Rat.mul_nonneg k0 s2.1
  have hd:DvM (l1.sum + (k:Rat) * l2.sum + l3.sum) (M1 * M2):=DvM.add (DvM.add (d1 (DvM.sum fun r hr=>(p1.ok r (g1.subset hr)).2.2)) (d2 (DvM.mulI k (DvM.sum fun r hr=>(u1.ok r (g2.subset hr)).2.2)))) (DvM.sum fun r hr=>(q3 r hr).2.2)
  refine (fF (b:=23 * b1 + 60 * (23 * b2) + 30 * 1000000000000) (x:=100) (by grind) ?_ hd (Nat.mul_pos p2 u2) (a7 (m:=400) (n:=400) p3 u3) ?_).mono (by decide)
  ·rw [Int.natCast_add,Rat.intCast_add,Int.natCast_add,Rat.intCast_add,Int.natCast_mul 23 b1,Rat.intCast_mul,Int.natCast_mul 60,Rat.intCast_mul,Int.natCast_mul 23 b2,Rat.intCast_mul,Int.natCast_mul 30,Rat.intCast_mul]
   grind
  ·have : 23 * b1≤23 * 2 ^ 60:=Nat.mul_le_mul_left _ p4
   have : 60 * (23 * b2)≤60 * (23 * 2 ^ 60):=Nat.mul_le_mul_left _ (Nat.mul_le_mul_left _ u4)
   have : 23 * 2 ^ 60 + 60 * (23 * 2 ^ 60) + 30 * 1000000000000≤2 ^ 100:=by decide
   omega
theorem uf (r:Rat):Rat.divInt (if r.num > 0 then r.num else 0) (r.den:Int)=iA r:=by
 have hn : 0<r.num↔0<r:=by
  have:=mO (t:=r.num) (a8 r)
  rw [cr] at this
  exact this.symm
 unfold iA
 by_cases h : 0<r.num
 ·rw [if_pos h,if_pos (hn.mp h),cr]
 ·rw [if_neg h,if_neg (fun z=>h (hn.mpr z)),Rat.zero_divInt]
def sdSpL:SpD:=fun ds q=>∃ ps k as a P U,ds=[aw ps (List.replicate ps.length k),bv a,dQs P,dQs U]∧RoomK ps k as∧AskOk ps a∧PrK ps P∧PrK ps U∧q (dQ (ck ps k P U a)) []
theorem vZ (T:Txt K mg A) (hB:TabB base mg A.tc A.tP tqS):FnOk P w K mg base CX0 4 A.f_q44 A.d_q44 ["_law_tree","_law_ask","_law_pieces","_law_units"] (bb [false,false,false,false] false (sdSpL)):=by
 have S:=xo
 refine fnD T.t_q44.F S ⟨[false,false,false,false],[false,false,false,false,false,false,false,false],false⟩ _ ?hl rfl rfl fun cdv Ar outer s H E hr=>⟨_,(ag (aH (i:=4) S.nd rfl (Or.inl rfl) (dJ gZ dB (ay dM dIC ae (ar ao dIx (aa 1) ae (fun _ _=>rfl))) (ar ao dIx (ar ao dIx (aa 0) ae (fun _ _=>rfl)) ae (fun _ _=>rfl)) (aR _)))
  (ag (aH (i:=5) S.nd rfl (Or.inl rfl) (bf (ad (ar ao dIx (aa 1) ae (fun _ _=>rfl)) (ad ae af))))
  (ag (cY PassesOwn.never rfl (bS (QF.qe (aQ (wU T hB) hr T.t_q62 (ai (aa 0) (ai (ar ao dIx (aa 1) ae (fun _ _=>rfl)) (ai (ar ao dIx (aa 1) ae (fun _ _=>rfl)) ak)))))) (aO (i:=6) S.nd rfl (Or.inl rfl)) (ag (aH (i:=7) S.nd rfl (Or.inl rfl) (ar ao dIx (aU (ad (ar ao dIx (aa 3) (ay bW dI (aa 6) ae) (fun _ _=>rfl)) (ad (ar ao dIx (aa 2) (ay bW dI (aa 6) ae) (fun _ _=>rfl)) af))) (dN dX k9 rfl T.z_int gE (ad (aa 4) af)) (fun _ _=>rfl)))
  (am (aH (i:=5) S.nd rfl (Or.inl rfl) (aj (kj T hB) hr T.t_q53 (ai (aa 5) (ai (bf (ad (ay bW dI ae (ay bM dIC (ar ao dIx (aU (ad (ar ao dIx (aa 1) ae (fun _ _=>rfl)) (ad ae af))) (dN dX k9 rfl T.z_int gE (ad (aa 4) af)) (fun _ _=>rfl)) (ar ao dIx (aa 7) ae (fun _ _=>rfl)))) (ad (ar ao dIx (aa 7) ae (fun _ _=>rfl)) af))) ak)))))))
  (am (aE (aj (lS T hB) hr T.t_q61 (ai (aK (fz rfl) dMax rfl T.z_max kO (ad ae (ad (ar ao dIx (aa 5) ae (fun _ _=>rfl)) af))) (ai (ar ao dIx (aa 5) ae (fun _ _=>rfl)) ak)))))))),fun ds q h=>?_⟩
 case hl=>intro ds q h; obtain ⟨ps,k,as,a,P,U,rfl,_⟩:=h; rfl
 obtain ⟨ps,k,as,a,P,U,rfl,hk,ok,hP,hU,q0⟩:=h
 have hT:=hk.t
 have hlo:=hT.lo
 have hPl:=hP.len
 have hUl:=hU.len
 have he:=ok.ends
 have s0:=ok.s0
 have s1:=ok.s1
 have hat:=cW (ns:=List.replicate ps.length k) (k:=0) (by decide) (by rw [List.length_replicate]; omega)
 rw [show (0:Int).toNat=0 from rfl,iB (by omega)] at hat
 refine ⟨Or.inl ⟨by decide,by decide⟩,?_⟩
 refine be hat ?_
 obtain ⟨X,hX⟩:∃ X,X=if g8 k a=true then P else U:=⟨_,rfl⟩
 obtain ⟨s,hs⟩:∃ s:Int,s=if g8 k a=true then 1 else a.size:=⟨_,rfl⟩
 have hXK:PrK ps X:=by rw [hX]; split <;> assumption
 have hsb : 0≤s∧s≤1000000:=by rw [hs]; split <;> omega
 have em:ck ps k P U a=eh ps a s X:=by unfold ck; rw [hX,hs]; split <;> rfl
 refine ⟨ps,_,a.one,a.other,rfl,hT,he.a0,he.a1,he.b0,he.b1,fun w m hw=>?_⟩
 rw [(hw.way hT he.a0 he.b0 he.a1 he.b1).1]
 refine ⟨fun n ρ=>∃ v6 v7,ρ=[some (aw ps (List.replicate ps.length k)),some (bv a),some (dQs P),some (dQs U),some (.bl (g8 k a)),some (dQ ((a.worth:Rat) - (s:Rat) * (((bn ps a).take n).map fun t=>X.getD (t - 1).toNat 0).sum)),v6,v7],⟨_,_,by
  rw [List.take_zero,List.map_nil,List.sum_nil,Rat.mul_zero,Rat.sub_eq_add_neg,Rat.neg_zero,Rat.add_zero,← j9]; rfl⟩,?_,?_⟩
 ·rintro n d ρ hd ⟨v6,v7,rfl⟩
  have hd:((bn ps a).map D.int)[n]? = some d:=hd
  obtain ⟨z,hz,rfl⟩:=gD hd
  have hm:=ic hT he (List.mem_of_getElem? hz)
  refine be (jc (rs:=U) (i:=z - 1) (by omega) (by omega)) ?_
  refine be (jc (rs:=P) (i:=z - 1) (by omega) (by omega)) ?_
  have key:atI [dQ (U.getD (z - 1).toNat 0),dQ (P.getD (z - 1).toNat 0)] (if g8 k a=true then 1 else 0)=some (dQ (X.getD (z - 1).toNat 0)):=by
   rw [hX]; split <;> rfl
  refine be key ?_
  have key2:atI [D.int a.size,D.int 1] (if g8 k a=true then 1 else 0)=some (.int s):=by
   rw [hs]; split <;> rfl
  refine be key2 ?_
  have by':Bt (X.getD (z - 1).toNat 0) 460:=md hXK (dR (by rw [hXK.len]; omega))
  refine ⟨⟨b_ (n:=1000000) (by omega) (by decide +kernel),by'.smN (by decide)⟩,?_⟩
  have ls:LeN s 20:=LeN.of 1000000 (by omega) (by decide)
  refine ⟨(a.worth:Rat) - (s:Rat) * (((bn ps a).take n).map fun t=>X.getD (t - 1).toNat 0).sum,_,_,rfl,a8 _,(nL hT ok hXK hsb.1 hsb.2 n).mono (by decide),(ls.mul (LeN.num by' (Nat.le_refl _)) (by decide)).neg,LeN.den by' (by decide),?_⟩
  rw [show (0:Int) - s * (X.getD (z - 1).toNat 0).num=(-s) * (X.getD (z - 1).toNat 0).num by rw [Int.neg_mul]; omega,lr]
  refine ⟨some (.int z),some (dQ (X.getD (z - 1).toNat 0)),?_⟩
  have hz':(bn ps a)[n]? = some z:=hz
  rw [List.take_add_one,hz']
  show _=[_,_,_,_,_,some (dQ (_ - _ * (((bn ps a).take n++[z]).map _).sum)),_,_]
  rw [List.map_append,List.sum_append,List.map_cons,List.map_nil,List.sum_cons,List.sum_nil,Rat.add_zero,Rat.intCast_neg]
  have er:∀ x y u v:Rat,x - y * u + -y * v=x - y * (u + v):=fun x y u v=>by grind
  rw [er]; rfl
 ·rintro ρ ⟨v6,v7,rfl⟩
  have eW:((bn ps a).take ((nS ps a.one a.other).map D.int).length)=bn ps a:=List.take_of_length_le (by rw [aB]; exact Nat.le_refl _)
  rw [eW]
  have hbs:=nL hT ok hXK hsb.1 hsb.2 (bn ps a).length
  rw [List.take_length] at hbs
  rw [em] at q0
  have es:eh ps a s X=iA ((a.worth:Rat) - (s:Rat) * ((bn ps a).map fun t=>X.getD (t - 1).toNat 0).sum):=rfl
  rw [es] at q0
  generalize (a.worth:Rat) - (s:Rat) * ((bn ps a).map fun t=>X.getD (t - 1).toNat 0).sum=y at hbs q0 ⊢
  refine ⟨(if y.num > 0 then y.num else 0),(y.den:Int),rfl,a8 y,hbs.smD (by decide),?_⟩
  rw [uf]; exact q0
def qq:SpD:=fun ds q=>∃ ps k as P U,ds=[aw ps (List.replicate ps.length k),aM as,dQs P,dQs U]∧RoomK ps k as∧PrK ps P∧PrK ps U∧q (dQ (fV ps k as P U)) []
theorem r_ (T:Txt K mg A) (hB:TabB base mg A.tc A.tP tqS):FnOk P w K mg base CX0 5 A.f_q43 A.d_q43 ["_law_tree","_law_asks_here","_law_pieces","_law_units"] (bb [false,false,false,false] false (qq)):=by
 have S:=xq
 refine fnD T.t_q43.F S ⟨[false,false,false,false],[false,false,false,false,false,false,false],false⟩ _ ?hl rfl rfl fun cdv Ar outer s H E hr=>⟨_,(ag (aH (i:=4) S.nd rfl (Or.inl rfl) (bf (ad ae (ad ae af))))
  (ag (bV (cY PassesOwn.never rfl (e6 rfl T.z_range (ad (aK az dl rfl T.z_len bh (ad (aa 2) af)) af)) (aO (i:=5) S.nd rfl (Or.inl rfl)) (ag (aH (i:=4) S.nd rfl (Or.inl rfl) (aj (kj T hB) hr T.t_q53 (ai (aa 4) (ai (ar ao dIx (aa 2) (aa 5) (fun _ _=>rfl)) ak))))
  (am (aH (i:=4) S.nd rfl (Or.inl rfl) (aj (kj T hB) hr T.t_q53 (ai (aa 4) (ai (bf (ad (ay bM dIC (ar ao dIx (ar ao dIx (aa 0) ae (fun _ _=>rfl)) (aa 5) (fun _ _=>rfl)) (ar ao dIx (ar ao dIx (aa 3) (aa 5) (fun _ _=>rfl)) ae (fun _ _=>rfl))) (ad (ar ao dIx (ar ao dIx (aa 3) (aa 5) (fun _ _=>rfl)) ae (fun _ _=>rfl)) af))) ak))))))))
  (ag (cY PassesOwn.never rfl (bS (aa 1)) (aO (i:=6) S.nd rfl (Or.inl rfl)) (am (aH (i:=4) S.nd rfl (Or.inl rfl) (aj (kj T hB) hr T.t_q53 (ai (aa 4) (ai (aj (vZ T hB) hr T.t_q44 (ai (aa 0) (ai (aa 6) (ai (aa 2) (ai (aa 3) ak))))) ak))))))
  (am (aE (aa 4)))))),fun ds q h=>?_⟩
 case hl=>intro ds q h; obtain ⟨ps,k,as,P,U,rfl,_⟩:=h; rfl
 obtain ⟨ps,k,as,P,U,rfl,hk,hP,hU,q0⟩:=h
 have hT:=hk.t
 have hti:=hT.hi
 have hPl:=hP.len
 have hUl:=hU.len
 have hal:=hk.a.len
 have hk1:=hk.k0
 have hk2:=hk.k60
 refine ⟨fun ρ=>∃ v5,ρ=[some (aw ps (List.replicate ps.length k)),some (aM as),some (dQs P),some (dQs U),some (dQ (P.sum + (k:Rat) * U.sum)),v5,none],?_,?_⟩
 ·refine ⟨⟨by rw [List.length_map]; omega,by rw [List.length_map]; omega⟩,?_⟩
  refine ⟨fun i ρ=>∃ v5,ρ=[some (aw ps (List.replicate ps.length k)),some (aM as),some (dQs P),some (dQs U),some (dQ ((P.take i).sum + (k:Rat) * (U.take i).sum)),v5,none],⟨_,by rw [List.take_zero,List.take_zero,List.sum_nil,Rat.mul_zero,Rat.add_zero]; rfl⟩,?_,?_⟩
  rotate_left
  ·rintro ρ ⟨v5,rfl⟩
   refine ⟨v5,?_⟩
   rw [f6,List.take_of_length_le (by rw [List.length_map]; omega),List.take_of_length_le (by rw [List.length_map]; omega)]
  rintro i d ρ hd ⟨v5,rfl⟩
  obtain ⟨hi2,rfl⟩:=e8 hd
  rw [List.length_map] at hi2
  have hil:i<ps.length:=by omega
  have e1:(0 + (i:Int)).toNat=i:=by omega
  have hap:=jc (rs:=P) (i:=0 + (i:Int)) (by omega) (by omega)
  have hau:=jc (rs:=U) (i:=0 + (i:Int)) (by omega) (by omega)
  have hat:=cW (ns:=List.replicate ps.length k) (k:=0 + (i:Int)) (by omega) (by rw [List.length_replicate]; omega)
  rw [e1] at hap hau hat
  rw [iB hil] at hat
  refine be hap ?_
  have bP:Bt (P.getD i 0) 460:=md hP (dR (by omega))
  have bU:Bt (U.getD i 0) 460:=md hU (dR (by omega))
  have h1:=io hk hP hU (List.take_sublist i P) (List.take_sublist i U) (List.nil_sublist _)
  rw [List.sum_nil,Rat.add_zero] at h1
  refine ⟨_,_,_,rfl,a8 _,h1.mono (by decide),LeN.num bP (by decide),LeN.den bP (by decide),?_⟩
  rw [cr]
  refine be hat ?_
  refine be hau ?_
  refine ⟨⟨b_ (n:=60) (by omega) (by decide +kernel),bU.smN (by decide)⟩,?_⟩
  refine be hau ?_
  have lk:LeN k 20:=LeN.of 60 (by omega) (by decide)
  have h2:Bt ((P.take i).sum + (k:Rat) * (U.take i).sum + P.getD i 0) 1500:=(h1.add bP).mono (by decide)
  refine ⟨_,_,_,rfl,a8 _,h2.mono (by decide),lk.mul (LeN.num bU (Nat.le_refl _)) (by decide),LeN.den bU (by decide),?_⟩
  rw [lr]
  refine ⟨some (.int (0 + (i:Int))),?_⟩
  have tk:∀ {l:List Rat},i<l.length→(l.take (i + 1)).sum=(l.take i).sum + l.getD i 0:=fun {l} h=>by
   rw [List.take_add_one,List.getElem?_eq_getElem h,List.getD_eq_getElem?_getD,List.getElem?_eq_getElem h,List.sum_append]
   show _ + (l[i] + 0)=_ + l[i]
   rw [Rat.add_zero]
  rw [tk (by omega),tk (by omega)]
  have er:∀ x y u v w:Rat,x + y * u + v + y * w=x + v + y * (u + w):=fun x y u v w=>by grind
  rw [er]; rfl
 rintro ρ ⟨v5,rfl⟩
 refine ⟨fun i ρ=>∃ v5 v6,ρ=[some (aw ps (List.replicate ps.length k)),some (aM as),some (dQs P),some (dQs U),some (dQ (P.sum + (k:Rat) * U.sum + ((as.take i).map (ck ps k P U)).sum)),v5,v6],⟨_,_,by rw [List.take_zero,List.map_nil,List.sum_nil,Rat.add_zero]⟩,?_,?_⟩
 rotate_left
 ·rintro ρ ⟨v5,v6,rfl⟩
  rw [List.take_of_length_le (by rw [dW]; omega)]
  exact q0
 rintro i d ρ hd ⟨v5,v6,rfl⟩
 obtain ⟨a,hr,rfl⟩:=jZ hd
 have ok:=hk.a.ok a (List.mem_of_getElem? hr)
 refine ⟨ps,k,as,a,P,U,rfl,hk,ok,hP,hU,?_⟩
 have h1:=io hk hP hU (List.Sublist.refl P) (List.Sublist.refl U) ((List.take_sublist i as).map (ck ps k P U))
 have bs:Bt (ck ps k P U a) 1000:=by
  have:=io hk hP hU (List.nil_sublist P) (List.nil_sublist U) (l3:=[ck ps k P U a]) (List.singleton_sublist.mpr (List.mem_map.mpr ⟨a,List.mem_of_getElem? hr,rfl⟩))
  rw [List.sum_nil,Rat.mul_zero,Rat.add_zero,Rat.zero_add,List.sum_cons,List.sum_nil,Rat.add_zero] at this
  exact this
 refine ⟨_,_,_,rfl,a8 _,h1.mono (by decide),LeN.num bs (by decide),LeN.den bs (by decide),?_⟩
 rw [cr]
 refine ⟨v5,some (bv a),?_⟩
 rw [List.take_add_one,hr]
 show _=[_,_,_,_,some (dQ (_ + ((as.take i++[a]).map (ck ps k P U)).sum)),_,_]
 rw [List.map_append,List.sum_append,List.map_cons,List.map_nil,List.sum_cons,List.sum_nil,Rat.add_zero,← Rat.add_assoc]; rfl
end
end K35
namespace K35
open PySem L2
section
variable {P:Program} {w:World} {K:PySem.W.Frag} {mg:Str→Option Value} {base:Heap} {A:Adr}
def vOf:Res→D
 | .ok _=>.lst [.str "fine"]
 | .tree _ _=>.lst [.str "tree"]
 | .asks _=>.lst [.str "asks"]
 | .share n=>.lst [.str "share",n]
 | .prices n=>.lst [.str "prices",n]
def numD (n:D):Prop:=n = .non∨∃ i:Int,n = .int i
def ResN:Res→Prop
 | .share n=>numD n
 | .prices n=>numD n
 | .ok _=>False
 | _=>True
def nV:SpD:=fun ds q=>∃ t a P U r,ds=[t,a,P,U]∧MixO t a P U r∧ResN r∧q (vOf r) []
theorem eX (T:Txt K mg A) (hB:TabB base mg A.tc A.tP tqS):FnOk P w K mg base CX0 11 A.f_q42 A.d_q42 ["_law_tree","_law_asks_here","_law_pieces","_law_units"] (bb [false,false,false,false] true (nV)):=by
 have S:=vf
 refine fnT T.t_q42.F S ⟨[false,false,false,false],[false,false,false,false,false,false,false],true⟩ _ ?hl rfl rfl fun cdv Ar outer s H E hr=>⟨_,(aL (bZ (aH (i:=4) S.nd rfl (Or.inl rfl) bE))
  (aL (vB (sr (i:=5) S.nd rfl rfl rfl T.m_q28 T.x_q28 (aW (eB (bI (nC T hB) hr T.t_q13 (ai (aa 0) (ai (aa 1) (ai (aa 2) (ai (aa 3) ak))))))) (fun _=>(am (aH (i:=4) S.nd rfl (Or.inl rfl) (aa 5))))))
  (aL (bZ (bj (QW.qt (d6 (aY wN dIsN (aa 4) bE (aR _)) (cK (bi (a9 (iZ relTy rfl T.z_isinstance aP (aa 4) (cE (v:=.ty "ValueError") rfl T.z_ValueError jg rfl))))))) (am (bD (QF.qm (dH (ad bR af))))) aT))
  (aL (bZ (aH (i:=6) S.nd rfl (Or.inl rfl) (aU (ad (iZ j8 rfl T.z_isinstance aP (aa 4) (gg (v:=.ref A.c_q39) rfl T.m_q39 rfl)) (ad (iZ j8 rfl T.z_isinstance aP (aa 4) (gg (v:=.ref A.c_q30) rfl T.m_q30 rfl)) af)))))
  (aL (bZ (aH (i:=6) S.nd rfl (Or.inl rfl) (gY gA oP (aa 6) (aU (ad (iZ j8 rfl T.z_isinstance aP (aa 4) (gg (v:=.ref A.c_q48) rfl T.m_q48 rfl)) (ad (iZ j8 rfl T.z_isinstance aP (aa 4) (gg (v:=.ref A.c_q49) rfl T.m_q49 rfl)) af))))))
  (aL (bZ (bj (aY (bo hr.units) dNe (pe (aa 6)) ae (aR _)) (am (bD (QF.qm (dH (ad bR af))))) aT))
  (aL (bZ (bj (QW.qt (d6 (a9 (ar ao dIx (aa 6) ae (fun _ _=>rfl))) (cK (a9 (ar ao dIx (aa 6) ae (fun _ _=>rfl)))))) (am (bD (QF.qm (dH (ad (ar ao dIx (aU (ad bR (ad bR af))) (dN dX k9 rfl T.z_int gE (ad (ar ao dIx (aa 6) ae (fun _ _=>rfl)) af)) (fun _ _=>rfl)) (ad (rf (aa 4)) af)))))) aT))
  (aW (bZ (bD (QF.qm (dH (ad (ar ao dIx (aU (ad bR (ad bR af))) (dN dX k9 rfl T.z_int gE (ad (ar ao dIx (aa 6) ae (fun _ _=>rfl)) af)) (fun _ _=>rfl)) af))))))))))))),fun ds q h=>?_⟩
 case hl=>intro ds q h; obtain ⟨t,a,P,U,r,rfl,_⟩:=h; rfl
 obtain ⟨t,a,P,U,r,rfl,ho,hn,q0⟩:=h
 have ct:eE K A.c_q28 (.ref A.c_q49):=⟨A.c_q49,_,_,rfl,T.x_q49,by simp⟩
 have ca:eE K A.c_q28 (.ref A.c_q48):=⟨A.c_q48,_,_,rfl,T.x_q48,by simp⟩
 have cs:eE K A.c_q28 (.ref A.c_q39):=⟨A.c_q39,_,_,rfl,T.x_q39,by simp⟩
 have cp:eE K A.c_q28 (.ref A.c_q30):=⟨A.c_q30,_,_,rfl,T.x_q30,by simp⟩
 refine ⟨fun ρ=>∃ k e,ρ=[some t,some a,some P,some U,some k,e,none]∧match r with
  | .ok _=>False
  | .tree p n=>k=i2 A.c_q49 k8 [.str p,n]
  | .asks n=>k=i2 A.c_q48 eA [n]
  | .share n=>k=i2 A.c_q39 eA [n]
  | .prices n=>k=i2 A.c_q30 eA [n],?_,?_⟩
 ·refine ⟨t,a,P,U,r,rfl,ho,?_⟩
  cases r with
  | ok _=>exact hn.elim
  | tree p n=>exact ⟨ct,fun _=>⟨_,_,rfl,rfl⟩⟩
  | asks n=>exact ⟨ca,fun _=>⟨_,_,rfl,rfl⟩⟩
  | share n=>exact ⟨cs,fun _=>⟨_,_,rfl,rfl⟩⟩
  | prices n=>exact ⟨cp,fun _=>⟨_,_,rfl,rfl⟩⟩
 rintro ρ ⟨k,e,rfl,h⟩
 cases r with
 | ok _=>exact hn.elim
 | tree p n =>
  subst h
  refine ⟨true,.inl ⟨_,_,_,_,_,rfl,T.x_q49,T.o_q49,T.v_q49⟩,?_⟩
  refine ⟨false,.inl ⟨_,_,_,_,_,rfl,T.x_q49,T.o_q49,T.i_q49_NoShare⟩,?_⟩
  refine ⟨false,.inl ⟨_,_,_,_,_,rfl,T.x_q49,T.o_q49,T.i_q49_NoPrices⟩,?_⟩
  refine ⟨false,.inl ⟨_,_,_,_,_,rfl,T.x_q49,T.o_q49,T.i_q49_NoAsks⟩,?_⟩
  refine ⟨true,.inl ⟨_,_,_,_,_,rfl,T.x_q49,T.o_q49,fW⟩,?_⟩
  refine ⟨by decide,?_⟩
  refine ⟨[false,false,false,true],rfl,?_⟩
  exact ⟨rfl,q0⟩
 | asks n =>
  subst h
  refine ⟨true,.inl ⟨_,_,_,_,_,rfl,T.x_q48,T.o_q48,T.v_q48⟩,?_⟩
  refine ⟨false,.inl ⟨_,_,_,_,_,rfl,T.x_q48,T.o_q48,T.i_q48_NoShare⟩,?_⟩
  refine ⟨false,.inl ⟨_,_,_,_,_,rfl,T.x_q48,T.o_q48,T.i_q48_NoPrices⟩,?_⟩
  refine ⟨true,.inl ⟨_,_,_,_,_,rfl,T.x_q48,T.o_q48,fW⟩,?_⟩
  refine ⟨false,.inl ⟨_,_,_,_,_,rfl,T.x_q48,T.o_q48,T.i_q48_NoTree⟩,?_⟩
  refine ⟨by decide,?_⟩
  refine ⟨[false,false,true,false],rfl,?_⟩
  exact ⟨rfl,q0⟩
 | share n =>
  subst h
  refine ⟨true,.inl ⟨_,_,_,_,_,rfl,T.x_q39,T.o_q39,T.v_q39⟩,?_⟩
  refine ⟨true,.inl ⟨_,_,_,_,_,rfl,T.x_q39,T.o_q39,fW⟩,?_⟩
  refine ⟨false,.inl ⟨_,_,_,_,_,rfl,T.x_q39,T.o_q39,T.i_q39_NoPrices⟩,?_⟩
  refine ⟨false,.inl ⟨_,_,_,_,_,rfl,T.x_q39,T.o_q39,T.i_q39_NoAsks⟩,?_⟩
  refine ⟨false,.inl ⟨_,_,_,_,_,rfl,T.x_q39,T.o_q39,T.i_q39_NoTree⟩,?_⟩
  refine ⟨by decide,?_⟩
  refine ⟨[true,false,false,false],rfl,?_⟩
  refine ⟨A.c_q39,eA,_,n,_,_,rfl,T.x_q39,T.o_q39,T.xa_q39_number,rfl,?_⟩
  rcases hn with rfl | ⟨i,rfl⟩
  ·exact ⟨rfl,q0⟩
  ·exact ⟨rfl,q0⟩
 | prices n =>
  subst h
  refine ⟨true,.inl ⟨_,_,_,_,_,rfl,T.x_q30,T.o_q30,T.v_q30⟩,?_⟩
  refine ⟨false,.inl ⟨_,_,_,_,_,rfl,T.x_q30,T.o_q30,T.i_q30_NoShare⟩,?_⟩
  refine ⟨true,.inl ⟨_,_,_,_,_,rfl,T.x_q30,T.o_q30,fW⟩,?_⟩
  refine ⟨false,.inl ⟨_,_,_,_,_,rfl,T.x_q30,T.o_q30,T.i_q30_NoAsks⟩,?_⟩
  refine ⟨false,.inl ⟨_,_,_,_,_,rfl,T.x_q30,T.o_q30,T.i_q30_NoTree⟩,?_⟩
  refine ⟨by decide,?_⟩
  refine ⟨[false,true,false,false],rfl,?_⟩
  refine ⟨A.c_q30,eA,_,n,_,_,rfl,T.x_q30,T.o_q30,T.xa_q30_number,rfl,?_⟩
  rcases hn with rfl | ⟨i,rfl⟩
  ·exact ⟨rfl,q0⟩
  ·exact ⟨rfl,q0⟩
def xp:SpD:=fun ds q=>∃ t a n,ds=[t,a]∧RmO t a (some (.share n)) 0∧q (.lst [n]) []
theorem ra (T:Txt K mg A) (hB:TabB base mg A.tc A.tP tqS):FnOk P w K mg base CX0 11 A.f_q18 A.d_q18 ["_law_tree","_law_asks_here"] (bb [false,false] false (xp)):=by
 have S:=xm
 refine fnT T.t_q18.F S ⟨[false,false],[false,false,false,false],false⟩ _ ?hl rfl rfl fun cdv Ar outer s H E hr=>⟨_,(aL (bZ (aH (i:=2) S.nd rfl (Or.inl rfl) bE))
  (aL (sr (i:=3) S.nd rfl rfl rfl T.m_q39 T.x_q39 (aW (qw (n9 (sX T hB) hr T.t_q17 (ai (aa 0) (ai (aa 1) ak))))) (fun _=>(am (aH (i:=2) S.nd rfl (Or.inl rfl) (aU (ad (rf (aa 3)) af))))))
  (aW (bZ (aE (aa 2)))))),fun ds q h=>?_⟩
 case hl=>intro ds q h; obtain ⟨t,a,n,rfl,_⟩:=h; rfl
 obtain ⟨t,a,n,rfl,ho,q0⟩:=h
 have cs:eE K A.c_q39 (.ref A.c_q39):=⟨A.c_q39,_,_,rfl,T.x_q39,by simp⟩
 refine ⟨t,a,.share n,rfl,ho,cs,fun _=>?_⟩
 refine ⟨A.c_q39,eA,_,n,_,_,rfl,T.x_q39,T.o_q39,T.xa_q39_number,rfl,?_⟩
 exact q0
end
end K35
namespace K35
open PySem L2
section
variable {P:Program} {w:World} {K:PySem.W.Frag} {mg:Str→Option Value} {base:Heap} {A:Adr}
theorem wR {ps:List Int} {prs:List Rat} {X:D} {j:Nat} (h:PrK ps prs) (hX:prB X=false) (hj:j<ps.length):bC ps.length (.lst ((prs.map dQ).set j X))=some (.int j):=by
 have hl:=h.len
 have key:∀ (l:List Rat) (j i:Nat),(∀ r∈l,0≤r)→j<l.length→aA fPr ((l.map dQ).set j X) i=some (i + j):=by
  intro l
  induction l with
  | nil=>intro j i _ hj; cases hj
  | cons r l ih =>
   intro j i hr hj
   cases j with
   | zero =>
    show aA fPr (X :: l.map dQ) i=_
    rw [aA,if_neg (by show ¬ prB X=true; rw [hX]; decide)]; rfl
   | succ j =>
    show aA fPr (dQ r :: (l.map dQ).set j X) i=_
    rw [aA,if_pos (show fPr i (dQ r)=true from lN (hr r (.head _))),ih j (i + 1) (fun x hx=>hr x (.tail _ hx)) (by simpa using hj)]
    exact congrArg some (by omega)
 show (match aA fPr (((prs.map dQ).set j X).take ps.length) 0 with | some i=>some (D.int i) | none=>if ((prs.map dQ).set j X).length=ps.length then none else some (.int (min ((prs.map dQ).set j X).length ps.length:Nat)))=_
 rw [List.take_of_length_le (by rw [List.length_set,List.length_map]; omega),key prs j 0 h.nn (by omega),Nat.zero_add]
theorem rz {ds:List D} {j:Nat} {X:D} (h:plns ds=true) (hX:pln X=true):plns (ds.set j X)=true:=fi fun d hd=>by
 rcases List.mem_or_eq_of_mem_set hd with q | q
 ·exact ik h q
 ·rw [q]; exact hX
theorem nM {ps:List Int} {l:List Rat} (h0:∀ r∈l,0≤r) (hn:l.length≠ps.length):bC ps.length (dQs l)=some (.int (min l.length ps.length:Nat)):=by
 have hb:aA fPr ((l.map dQ).take ps.length) 0=none:=iz _ _ _ fun d hd j=>by
  obtain ⟨r,hr,rfl⟩:=List.mem_map.mp (List.mem_of_mem_take hd)
  exact lN (h0 r hr)
 show (match aA fPr ((l.map dQ).take ps.length) 0 with | some i=>some (D.int i) | none=>if (l.map dQ).length=ps.length then none else some (.int (min (l.map dQ).length ps.length:Nat)))=_
 rw [hb]
 show (if (l.map dQ).length=ps.length then none else some (D.int (min (l.map dQ).length ps.length:Nat)))=_
 rw [if_neg (by rw [List.length_map]; exact hn),List.length_map]
theorem r6 {xs:List D} (h : 1≤xs.length):gR xs none (some (-1))=xs.take (xs.length - 1):=by
 have e:HT.sIx xs.length xs.length (some (-1))=xs.length - 1:=by
  simp [HT.sIx]
  omega
 unfold gR
 rw [HT.sIx_none,List.drop_zero,Nat.sub_zero,e]
theorem c_ (s:Str) {n:D} (hs:bK 0 (.str s)=true) (h:numD n):bK 1 (.lst [.str s,n])=true:=by
 have hn:bK 0 n=true:=by rcases h with rfl | ⟨i,rfl⟩ <;> rfl
 rw [bK,List.all_cons,List.all_cons,hs,hn]; rfl
theorem jk {n:D} (h:numD n):bK 1 (.lst [n])=true:=by
 have hn:bK 0 n=true:=by rcases h with rfl | ⟨i,rfl⟩ <;> rfl
 rw [bK,List.all_cons,hn]; rfl
theorem sP:bK 0 (.str "prices")=true:=by decide +kernel
theorem sS:bK 0 (.str "share")=true:=by decide +kernel
def gS (k:Int):List Ask:=[⟨0,1,k + 1,1⟩,⟨1,0,k + 2,1⟩]
theorem vd {ps:List Int} {k:Int} {as:List Ask} (hk:RoomK ps k as) (hal:as.length≤20):AsksOk ps (as++gS k)∧BigM k (as++gS k) as.length:=by
 have hlo:=hk.t.lo
 have k1:=hk.k0
 have k60:=hk.k60
 refine ⟨⟨by rw [List.length_append]; show as.length + 2≤30; omega,fun a hm=>?_⟩,by rw [List.length_append]; show as.length<as.length + 2; omega,?_,fun j hj=>?_⟩
 ·rcases List.mem_append.mp hm with q | q
  ·exact hk.a.ok a q
  ·rcases List.mem_cons.mp q with rfl | q
   ·exact ⟨⟨Int.le_refl 0,by show (0:Int)≤_; omega,(by decide:(0:Int)≤1),by show (1:Int)≤_; omega,(by decide:(0:Int)≠1)⟩,by show 1≤k + 1; omega,by show k + 1≤_; omega,Int.le_refl 1,(by decide:(1:Int)≤1000000000000)⟩
   ·rw [List.mem_singleton.mp q]
    exact ⟨⟨(by decide:(0:Int)≤1),by show (1:Int)≤_; omega,Int.le_refl 0,by show (0:Int)≤_; omega,(by decide:(1:Int)≠0)⟩,by show 1≤k + 2; omega,by show k + 2≤_; omega,Int.le_refl 1,(by decide:(1:Int)≤1000000000000)⟩
 ·have e:(as++gS k).getD as.length kU=⟨0,1,k + 1,1⟩:=by rw [List.getD_eq_getElem?_getD,List.getElem?_append_right (Nat.le_refl _),Nat.sub_self]; rfl
  rw [e]; show k<k + 1; omega
 ·have e:(as++gS k).getD j kU=as.getD j kU:=by rw [List.getD_eq_getElem?_getD,List.getElem?_append_left hj,← List.getD_eq_getElem?_getD]
  rw [e]; exact hk.s _ (qN (k:=j) hj)
def sdRef:SpD:=fun ds q=>∃ c m ps k as prs,ds=[aF [c,m],aw ps (List.replicate ps.length k),aM as,dQs prs]∧0≤c∧RoomK ps k as∧PrK ps prs∧as.length≤20∧∀ c' m',0≤c'→q (.bl true) [some (aF [c',m'])]
theorem uY (T:Txt K mg A) (hB:TabB base mg A.tc A.tP tqS):FnOk P w K mg base CX0 12 A.f_q25 A.d_q25 ["_law_pool_here","_law_tree","_law_asks_here","_law_prices_here"] (bb [true,false,false,false] false (sdRef)):=by
 have S:=xg
 refine fnD T.t_q25.F S ⟨[true,false,false,false],[true,false,false,false,false,false,false,false,false,false,false],false⟩ _ ?hl rfl rfl fun cdv Ar outer s H E hr=>⟨_,(p7 (i:=4) S.nd rfl (Or.inl rfl) (oQ bT jw rfl T.z_list cO (ad (aa 3) af))
  (nD (vj (j:=5) S.nd rfl (Or.inl rfl) (aj (bJ T hB) hr T.t_q55 (dn 0 (ai (aK az dl rfl T.z_len bh (ad (aa 4) af)) ak))))
  (nD (sB rfl (ar ao dIx (aU (ad (bf (ad (i4 ae) (ad ae af))) (ad (bf (ad ae (ad ae af))) (ad ae (ad (bf (ad ae (ad ae af))) (ad bE (ad (bf (ad cG (ad ae af))) (ad (aU (ad ae (ad ae af))) af)))))))) (aj (bJ T hB) hr T.t_q55 (dn 0 (ai ae ak))) (fun _ _=>rfl)) (aa 5))
  (xa (ag (cY PassesOwn.never rfl (bS (aU (ad (aa 3) (ad (aa 4) af)))) (aO (i:=6) S.nd rfl (Or.inl rfl)) (am (bj (aY (bo hr.units) dNe (QF.qe (aQ (eX T hB) hr T.t_q42 (ai (aa 1) (ai (aa 2) (ai (aa 6) (ai (aa 4) ak)))))) (aU (ad bR (ad (aa 5) af))) (aR _)) (am (aE cG)) aT)))
  (ag (bV (bj (aY (bo hr.units) dNe (QF.qe (aQ (eX T hB) hr T.t_q42 (ai (aa 1) (ai (aa 2) (ai (aa 3) (ai (ph rfl T.z_tuple eM (aa 3)) ak)))))) (aU (ad bR (ad bE af))) (aR _)) (am (aE cG)) aT))
  (ag (aH (i:=7) S.nd rfl (Or.inl rfl) (aK az dl rfl T.z_len bh (ad (aa 3) af)))
  (ag (bV (bj (aY (bo hr.units) dNe (QF.qe (aQ (eX T hB) hr T.t_q42 (ai (aa 1) (ai (aa 2) (ai (aa 3) (ai (iF (aa 3) jS (kc (i4 ae))) ak)))))) (aU (ad bR (ad (ay bW dI (aa 7) ae) af))) (aR _)) (am (aE cG)) aT))
  (ag (bV (bj (aY (bo hr.units) dNe (QF.qe (aQ (eX T hB) hr T.t_q42 (ai (aa 1) (ai (aa 2) (ai (gY gA oP (aa 3) (aU (ad (bf (ad ae (ad ae af))) af))) (ai (iF (aa 3) jS (kc (i4 ae))) ak)))))) (aU (ad bR (ad (aa 7) af))) (aR _)) (am (aE cG)) aT))
  (ag (bV (aH (i:=8) S.nd rfl (Or.inl rfl) (bf (ad (ar ao dIx (aa 1) ae (fun _ _=>rfl)) (ad (gY lQ dRep (aU (ad (ay bx dI (ar ao dIx (ar ao dIx (aa 1) ae (fun _ _=>rfl)) ae (fun _ _=>rfl)) ae) af)) (aK az dl rfl T.z_len bh (ad (ar ao dIx (aa 1) ae (fun _ _=>rfl)) af))) af)))))
  (ag (aH (i:=9) S.nd rfl (Or.inl rfl) (aK az dl rfl T.z_len bh (ad (aa 2) af)))
  (ag (bV (aH (i:=10) S.nd rfl (Or.inl rfl) (gY gA oP (aa 2) (aU (ad (bf (ad ae (ad ae (ad (ay bx dI (ar ao dIx (ar ao dIx (aa 1) ae (fun _ _=>rfl)) ae (fun _ _=>rfl)) ae) (ad ae af))))) (ad (bf (ad ae (ad ae (ad (ay bx dI (ar ao dIx (ar ao dIx (aa 1) ae (fun _ _=>rfl)) ae (fun _ _=>rfl)) ae) (ad ae af))))) af))))))
  (ag (bV (bj (aY (bo hr.units) dNe (QF.qe (aQ (eX T hB) hr T.t_q42 (ai (aa 1) (ai (aa 10) (ai (aa 4) (ai bE ak)))))) (aU (ad bR (ad (aa 9) af))) (aR _)) (am (aE cG)) aT))
  (ag (bV (bj (aY (bo hr.units) dNe (QF.qe (aQ (eX T hB) hr T.t_q42 (ai (aa 8) (ai (aa 10) (ai bE (ai (aa 4) ak)))))) (aU (ad bR (ad bE af))) (aR _)) (am (aE cG)) aT))
  (ag (bV (bj (QW.qt (d6 (aY (bo hr.units) dNe (aj (ra T hB) hr T.t_q18 (ai (aa 1) (ai (aa 10) ak))) (aU (ad (aa 9) af)) (aR _)) (cK (aY (bo hr.units) dNe (aj (ra T hB) hr T.t_q18 (ai (aa 8) (ai (aa 10) ak))) (aU (ad bE af)) (aR _))))) (am (aE cG)) aT))
  (ag (bV (bj (aY (bo hr.units) dNe (QF.qe (aQ (eX T hB) hr T.t_q42 (ai (aa 8) (ai (aU (ad ae af)) (ai bE (ai bE ak)))))) (aU (ad bR af)) (aR _)) (am (aE cG)) aT))
  (am (aE (dJ (kD hr.units) dEq (QF.qe (aQ (eX T hB) hr T.t_q42 (ai (bf (ad (ar ao dIx (aa 1) ae (fun _ _=>rfl)) (ad (aU af) af))) (ai (aU (ad ae af)) (ai bE (ai bE ak)))))) (aU (ad bR af)) (aR _)))))))))))))))))))),fun ds q h=>?_⟩
 case hl=>intro ds q h; obtain ⟨c,m,ps,k,as,prs,rfl,_⟩:=h; rfl
 obtain ⟨c,m,ps,k,as,prs,rfl,h0,hk,hP,hal,q0⟩:=h
 have hT:=hk.t
 have hlo:=hT.lo
 have hti:=hT.hi
 have hPl:=hP.len
 obtain ⟨e0,hA⟩:=g6 hk
 have hR:RmO (aw ps (List.replicate ps.length k)) (aM as) none ((List.replicate ps.length k).getD 0 0):=.ok hT hk.a hA (by rw [e0]; exact hk.s)
 have hlp:∀ ds,dQs prs = .lst ds→ds.length≤10000:=fun ds e=>by cases e; rw [List.length_map]; omega
 have hPn:=i9 hP
 refine ⟨by simp,?_⟩
 refine ⟨c,m,((prs.map dQ).length:Int),rfl,h0,by rw [List.length_map]; omega,b_ (n:=23) (by rw [List.length_map]; omega) (by decide +kernel),fun u c1 m1 u0 u1 h1=>?_⟩
 rw [List.length_map] at u1
 refine ⟨rfl,?_⟩
 refine ⟨c1,m1,7,rfl,h1,by decide,b_ (n:=7) (by decide) (by decide +kernel),fun v c2 m2 v0 v1 h2=>?_⟩
 obtain ⟨X,hX,hXb,hXp⟩:∃ X:D,atI [D.tup [.int (-1),.int 2],.tup [.int 2,.int 4],.int 1,.tup [.int 1,.int 0],.non,.tup [.bl true,.int 1],.lst [.int 1,.int 2]] v=some X∧prB X=false∧pln X=true:=by
  have:v=0∨v=1∨v=2∨v=3∨v=4∨v=5∨v=6:=by omega
  rcases this with rfl | rfl | rfl | rfl | rfl | rfl | rfl
  all_goals exact ⟨_,rfl,by decide +kernel,by decide +kernel⟩
 refine be hX ?_
 show (match ixN (prs.map dQ).length u with | some _=>_ | none=>False)
 rw [List.length_map,s9 u0 (by omega)]
 have hun:u.toNat<ps.length:=by omega
 have hbe:=wR hP hXb hun
 have hqs:plns (prs.map dQ)=true:=by have:=de prs; unfold dQs at this; rw [pln] at this; exact this
 have hbp:pln (.lst ((prs.map dQ).set u.toNat X))=true:=by
  rw [pln]; exact rz (by have:=de prs; unfold dQs at this; rw [pln] at this; exact this) hXp
 have hbl:∀ ds,D.lst ((prs.map dQ).set u.toNat X) = .lst ds→ds.length≤10000:=fun ds e=>by cases e; rw [List.length_set,List.length_map]; omega
 obtain ⟨bd,hbd⟩:∃ bd,bd=(prs.map dQ).set u.toNat X:=⟨_,rfl⟩
 rw [← hbd] at hbe hbp hbl
 have hun2:((u.toNat:Nat):Int)=u:=by omega
 rw [hun2] at hbe
 have hl2:bK 1 (.lst [.str "prices",.int u])=true:=c_ _ sP (.inr ⟨u,rfl⟩)
 refine ⟨fun i ρ=>∃ v6,ρ=[some (aF [c2,m2]),some (aw ps (List.replicate ps.length k)),some (aM as),some (dQs prs),some (.lst bd),some (.int u),v6,none,none,none,none],⟨none,by rw [hbd]; rfl⟩,?_,?_⟩
 ·rintro i d ρ hd ⟨v6,rfl⟩
  obtain ⟨one,hm,rfl⟩:∃ one,MixO (aw ps (List.replicate ps.length k)) (aM as) one (.lst bd) (.prices (.int u))∧d=one:=by
   match i,hd with
   | 0,hd=>exact ⟨_,.p2 hR hT (de prs) hlp hPn hbp hbl hbe,(Option.some.inj hd).symm⟩
   | 1,hd=>exact ⟨_,.p1 hR hT hbp hbl hbe,(Option.some.inj hd).symm.trans (by rw [hbd])⟩
   | n + 2,hd=>cases hd
  refine ⟨_,_,_,_,_,rfl,hm,.inr ⟨u,rfl⟩,?_⟩
  refine ⟨aZ hl2 (by decide),aZ hl2 (by decide),?_⟩
  refine (bQ (c:=(!eqD (.lst [.str "prices",.int u]) (.lst [.str "prices",.int u]))=true) (fun c=>?_) (fun _=>?_))
  ·rw [bq 1 _ hl2] at c; cases c
  exact ⟨_,rfl⟩
 rintro ρ ⟨v6,rfl⟩
 refine ⟨fun ρ=>ρ=[some (aF [c2,m2]),some (aw ps (List.replicate ps.length k)),some (aM as),some (dQs prs),some (.lst bd),some (.int u),v6,none,none,none,none],?_,?_⟩
 ·refine ⟨_,_,_,_,.prices .non,rfl,.p2 hR hT (de prs) hlp hPn (show plns (prs.map dQ)=true from hqs) (fun ds e=>by cases e) rfl,.inl rfl,?_⟩
  refine ⟨aZ (c_ _ sP (.inl rfl)) (by decide),aZ (c_ _ sP (.inl rfl)) (by decide),?_⟩
  refine (bQ (c:=(!eqD (.lst [.str "prices",.non]) (.lst [.str "prices",.non]))=true) (fun c=>?_) (fun _=>?_))
  ·rw [bq 1 _ (c_ _ sP (.inl rfl))] at c; cases c
  rfl
 rintro ρ rfl
 have ecut:gR (prs.map dQ) none (some (-1))=(prs.take (prs.length - 1)).map dQ:=by
  rw [List.map_take,r6 (by rw [List.length_map]; omega),List.length_map]
 have hcs:∀ r∈prs.take (prs.length - 1),0≤r:=fun r hr=>hP.nn r (List.mem_of_mem_take hr)
 have hce:bC ps.length (dQs (prs.take (prs.length - 1)))=some (.int (((prs.map dQ).length:Int) - 1)):=by
  rw [nM hcs (by rw [List.length_take]; omega),List.length_take,List.length_map]
  exact congrArg (fun z=>some (D.int z)) (by omega)
 have hcl:∀ ds,dQs (prs.take (prs.length - 1)) = .lst ds→ds.length≤10000:=fun ds e=>by cases e; rw [List.length_map,List.length_take]; omega
 refine ⟨fun ρ=>ρ=[some (aF [c2,m2]),some (aw ps (List.replicate ps.length k)),some (aM as),some (dQs prs),some (.lst bd),some (.int u),v6,some (.int ((prs.map dQ).length:Int)),none,none,none],?_,?_⟩
 ·have hm:MixO (aw ps (List.replicate ps.length k)) (aM as) (dQs prs) (.lst (gR (prs.map dQ) none (some (-1)))) (.prices (.int (((prs.map dQ).length:Int) - 1))):=by
   rw [ecut]; exact .p2 hR hT (de prs) hlp hPn (de _) hcl hce
  refine ⟨_,_,_,_,.prices (.int (((prs.map dQ).length:Int) - 1)),rfl,hm,.inr ⟨_,rfl⟩,?_⟩
  refine ⟨aZ (c_ _ sP (.inr ⟨((prs.map dQ).length:Int) - 1,rfl⟩)) (by decide),aZ (c_ _ sP (.inr ⟨((prs.map dQ).length:Int) - 1,rfl⟩)) (by decide),?_⟩
  refine (bQ (c:=(!eqD (.lst [.str "prices",.int (((prs.map dQ).length:Int) - 1)]) (.lst [.str "prices",.int (((prs.map dQ).length:Int) - 1)]))=true) (fun c=>?_) (fun _=>?_))
  ·rw [bq 1 _ (c_ _ sP (.inr ⟨((prs.map dQ).length:Int) - 1,rfl⟩))] at c; cases c
  rfl
 rintro ρ rfl
 have hpe:bC ps.length (dQs (prs++[0]))=some (.int ((prs.map dQ).length:Int)):=by
  rw [nM (fun r hr=>by
   rcases List.mem_append.mp hr with q | q
   ·exact hP.nn r q
   ·rw [List.mem_singleton.mp q]; decide) (by rw [List.length_append]; show prs.length + 1≠_; omega),List.length_append,List.length_map]
  exact congrArg (fun z=>some (D.int z)) (by show ((min (prs.length + 1) ps.length:Nat):Int)=_; omega)
 have hpl:∀ ds,dQs (prs++[0]) = .lst ds→ds.length≤10000:=fun ds e=>by cases e; rw [List.length_map,List.length_append]; show prs.length + 1≤_; omega
 refine ⟨fun ρ=>ρ=[some (aF [c2,m2]),some (aw ps (List.replicate ps.length k)),some (aM as),some (dQs prs),some (.lst bd),some (.int u),v6,some (.int ((prs.map dQ).length:Int)),none,none,none],?_,?_⟩
 ·refine ⟨by rw [List.length_map]; show prs.length + 1≤1000; omega,?_⟩
  have hm:MixO (aw ps (List.replicate ps.length k)) (aM as) (.lst (prs.map dQ++[D.tup [.int 0,.int 1]])) (.lst (gR (prs.map dQ) none (some (-1)))) (.prices (.int ((prs.map dQ).length:Int))):=by
   rw [show prs.map dQ++[D.tup [.int 0,.int 1]]=(prs++[0]).map dQ by rw [List.map_append]; rfl]
   exact .p1 hR hT (de _) hpl hpe
  refine ⟨_,_,_,_,.prices (.int ((prs.map dQ).length:Int)),rfl,hm,.inr ⟨_,rfl⟩,?_⟩
  refine ⟨aZ (c_ _ sP (.inr ⟨((prs.map dQ).length:Int),rfl⟩)) (by decide),aZ (c_ _ sP (.inr ⟨((prs.map dQ).length:Int),rfl⟩)) (by decide),?_⟩
  refine (bQ (c:=(!eqD (.lst [.str "prices",.int ((prs.map dQ).length:Int)]) (.lst [.str "prices",.int ((prs.map dQ).length:Int)]))=true) (fun c=>?_) (fun _=>?_))
  ·rw [bq 1 _ (c_ _ sP (.inr ⟨((prs.map dQ).length:Int),rfl⟩))] at c; cases c
  rfl
 rintro ρ rfl
 have hat:=cW (ns:=List.replicate ps.length k) (k:=0) (by decide) (by rw [List.length_replicate]; omega)
 rw [show (0:Int).toNat=0 from rfl,iB (by omega)] at hat
 refine ⟨fun ρ=>ρ=[some (aF [c2,m2]),some (aw ps (List.replicate ps.length k)),some (aM as),some (dQs prs),some (.lst bd),some (.int u),v6,some (.int ((prs.map dQ).length:Int)),some (aw ps (List.replicate ps.length (k + 60))),none,none],?_,?_⟩
 ·refine be hat ?_
  refine ⟨⟨by rw [aB,List.length_replicate]; omega,by rw [aB,List.length_replicate]; omega,by rw [aB,List.length_replicate]; simp; omega⟩,?_⟩
  rw [aB,List.length_replicate,i3,Int.toNat_natCast,oX]
  rfl
 rintro ρ rfl
 refine ⟨fun ρ=>ρ=[some (aF [c2,m2]),some (aw ps (List.replicate ps.length k)),some (aM as),some (dQs prs),some (.lst bd),some (.int u),v6,some (.int ((prs.map dQ).length:Int)),some (aw ps (List.replicate ps.length (k + 60))),some (.int ((as.map bv).length:Int)),some (aM (as++gS k))],?_,?_⟩
 ·refine be hat ?_
  refine be hat ?_
  refine ⟨by rw [dW]; show as.length + 2≤1000; omega,?_⟩
  have e1:aM (as++gS k) = .lst (as.map bv++[.tup [.int 0,.int 1,.int (k + 1),.int 1],.tup [.int 1,.int 0,.int (k + 2),.int 1]]):=by unfold aM gS; rw [List.map_append]; rfl
  rw [e1]; rfl
 rintro ρ rfl
 have hk1:=hk.k0
 have hk2:=hk.k60
 obtain ⟨hmA,hmB⟩:=vd hk hal
 have hTf:Tree ps (List.replicate ps.length (k + 60)):=⟨by rw [List.length_replicate],hlo,hti,hT.par,fun j x hx=>by
  have:=List.eq_of_mem_replicate (List.mem_of_getElem? hx); omega⟩
 have nA : ¬ eR (List.replicate ps.length (k + 60)):=fun z=>by
  have:=z.1
  rw [iB (by omega)] at this; omega
 have hS1:RmO (aw ps (List.replicate ps.length k)) (aM (as++gS k)) (some (.share (.int (as.length:Nat)))) 0:=.most hT hmA hA (by rw [e0]; exact hmB)
 have hS2:RmO (aw ps (List.replicate ps.length (k + 60))) (aM (as++gS k)) (some (.share .non)) 0:=.room hTf hmA nA
 have eal:((as.map bv).length:Int)=((as.length:Nat):Int):=by rw [dW]
 refine ⟨fun ρ=>ρ=[some (aF [c2,m2]),some (aw ps (List.replicate ps.length k)),some (aM as),some (dQs prs),some (.lst bd),some (.int u),v6,some (.int ((prs.map dQ).length:Int)),some (aw ps (List.replicate ps.length (k + 60))),some (.int ((as.map bv).length:Int)),some (aM (as++gS k))],?_,?_⟩
 ·refine ⟨_,_,_,_,.share (.int (as.length:Nat)),rfl,.room hS1,.inr ⟨_,rfl⟩,?_⟩
  have hv:vOf (.share (.int (as.length:Nat))) = .lst [.str "share",.int ((as.map bv).length:Int)]:=by rw [eal]; rfl
  rw [hv]
  refine ⟨aZ (c_ _ sS (.inr ⟨((as.map bv).length:Int),rfl⟩)) (by decide),aZ (c_ _ sS (.inr ⟨((as.map bv).length:Int),rfl⟩)) (by decide),?_⟩
  refine (bQ (c:=(!eqD (.lst [.str "share",.int ((as.map bv).length:Int)]) (.lst [.str "share",.int ((as.map bv).length:Int)]))=true) (fun c=>?_) (fun _=>?_))
  ·rw [bq 1 _ (c_ _ sS (.inr ⟨((as.map bv).length:Int),rfl⟩))] at c; cases c
  rfl
 rintro ρ rfl
 refine ⟨fun ρ=>ρ=[some (aF [c2,m2]),some (aw ps (List.replicate ps.length k)),some (aM as),some (dQs prs),some (.lst bd),some (.int u),v6,some (.int ((prs.map dQ).length:Int)),some (aw ps (List.replicate ps.length (k + 60))),some (.int ((as.map bv).length:Int)),some (aM (as++gS k))],?_,?_⟩
 ·refine ⟨_,_,_,_,.share .non,rfl,.room hS2,.inl rfl,?_⟩
  refine ⟨aZ (c_ _ sS (.inl rfl)) (by decide),aZ (c_ _ sS (.inl rfl)) (by decide),?_⟩
  refine (bQ (c:=(!eqD (.lst [.str "share",.non]) (.lst [.str "share",.non]))=true) (fun c=>?_) (fun _=>?_))
  ·rw [bq 1 _ (c_ _ sS (.inl rfl))] at c; cases c
  rfl
 rintro ρ rfl
 refine ⟨fun ρ=>ρ=[some (aF [c2,m2]),some (aw ps (List.replicate ps.length k)),some (aM as),some (dQs prs),some (.lst bd),some (.int u),v6,some (.int ((prs.map dQ).length:Int)),some (aw ps (List.replicate ps.length (k + 60))),some (.int ((as.map bv).length:Int)),some (aM (as++gS k))],?_,?_⟩
 ·refine ⟨_,_,_,rfl,hS1,?_⟩
  rw [← eal]
  refine ⟨aZ (jk (.inr ⟨((as.map bv).length:Int),rfl⟩)) (by decide),aZ (jk (.inr ⟨((as.map bv).length:Int),rfl⟩)) (by decide),?_⟩
  refine (bQ (c:=(!eqD (.lst [.int ((as.map bv).length:Int)]) (.lst [.int ((as.map bv).length:Int)]))=true) (fun c=>?_) (fun _=>?_))
  ·rw [bq 1 _ (jk (.inr ⟨((as.map bv).length:Int),rfl⟩))] at c; cases c
  refine ⟨_,_,_,rfl,hS2,?_⟩
  refine ⟨aZ (jk (.inl rfl)) (by decide),aZ (jk (.inl rfl)) (by decide),?_⟩
  refine (bQ (c:=(!eqD (.lst [.non]) (.lst [.non]))=true) (fun c=>?_) (fun _=>?_))
  ·rw [bq 1 _ (jk (.inl rfl))] at c; cases c
  rfl
 rintro ρ rfl
 have lA:bK 1 (.lst [.str "asks"])=true:=by decide +kernel
 have lT:bK 1 (.lst [.str "tree"])=true:=by decide +kernel
 refine ⟨fun ρ=>ρ=[some (aF [c2,m2]),some (aw ps (List.replicate ps.length k)),some (aM as),some (dQs prs),some (.lst bd),some (.int u),v6,some (.int ((prs.map dQ).length:Int)),some (aw ps (List.replicate ps.length (k + 60))),some (.int ((as.map bv).length:Int)),some (aM (as++gS k))],?_,?_⟩
 ·refine ⟨_,_,_,_,.asks (.int 0),rfl,.room (.asks hTf rfl rfl),trivial,?_⟩
  refine ⟨aZ lA (by decide),aZ lA (by decide),?_⟩
  refine (bQ (c:=(!eqD (.lst [.str "asks"]) (.lst [.str "asks"]))=true) (fun c=>?_) (fun _=>?_))
  ·rw [bq 1 _ lA] at c; cases c
  rfl
 rintro ρ rfl
 refine ⟨_,_,_,_,.tree "tree" .non,rfl,.room (.tree (by rw [pln,aX,aX]; exact ⟨gH ps,rfl,rfl⟩) (il (by
  show (decide ((ps.map D.int).length=0)&&_)=false
  rw [decide_eq_false (by rw [aB]; omega),Bool.false_and]))),trivial,?_⟩
 refine ⟨aZ lT (by decide),aZ lT (by decide),?_⟩
 rw [show eqD (vOf (.tree "tree" .non)) (.lst [.str "tree"])=true from bq 1 _ lT]
 exact q0 c2 m2 h2
end
end K35
namespace K35
open PySem L2
section
variable {P:Program} {w:World} {K:PySem.W.Frag} {mg:Str→Option Value} {base:Heap} {A:Adr}
theorem lay4 (ps rs:List Int) (as:List Ask) (P U:List Rat):lay 3 (.lst [aw ps rs,aM as,dQs P,dQs U])=true:=by
 rw [lay,List.all_cons,List.all_cons,List.all_cons,List.all_cons,oS,oM,nN,nN]; rfl
theorem wH (T:Txt K mg A) (hB:TabB base mg A.tc A.tP tqS):FnOk P w K mg base CX0 13 A.f_law A.d_law ["_law_script"] (bb [false] false ((q9 K))):=by
 have S:=w_
 refine fnD T.t_law.F S ⟨[false],[false,false,true,false,false,false,true,true,false],false⟩ _ ?hl rfl rfl fun cdv Ar outer s H E hr=>⟨_,(ag (cY PassesOwn.never rfl (e6 rfl T.z_range (ad (aK (fz rfl) dMax rfl T.z_max kO (ad ae (ad (aK (gF rfl) dMin rfl T.z_min lW (ad ae (ad (aK az dl rfl T.z_len bh (ad (aa 0) af)) af))) af))) af)) (aO (i:=1) S.nd rfl (Or.inl rfl)) (ag (ey (i:=2) S.nd rfl (Or.inl rfl) (aQ (vU T hB) hr T.t_q54 (ai (aa 0) (ai (aa 1) ak))))
  (ag (aH (i:=3) S.nd rfl (Or.inl rfl) (QF.qe (aQ (wC T hB) hr T.t_q41 (dn 2 (ai ae ak)))))
  (ag (aH (i:=4) S.nd rfl (Or.inl rfl) (QF.qe (aQ (vH T hB) hr T.t_q23 (ai (aa 3) (ai (QF.qe (aQ (xn T hB) hr T.t_q52 (dn 2 (ai (aa 3) (ai ae (ai ae (ai (aU (ad ae (ad ae af))) ak))))))) ak)))))
  (ag (aH (i:=5) S.nd rfl (Or.inl rfl) (QF.qe (aQ (rZ T hB) hr T.t_q36 (dn 2 (ai (aa 3) ak)))))
  (ag (bV (ey (i:=6) S.nd rfl (Or.inl rfl) (aQ (rZ T hB) hr T.t_q36 (dn 2 (ai (aa 3) ak)))))
  (ag (t9 (i:=7) S.nd rfl (Or.inl rfl) (u7 (bG (jW (bG (QF.qm (dO bT jw rfl T.z_list cO (ad (ar ao dIx (aa 3) ae (fun _ _=>rfl)) af))) (bG (QF.qm (dO bT jw rfl T.z_list cO (ad (ar ao dIx (aa 3) ae (fun _ _=>rfl)) af))) ig))) (bG (QF.qm (dO bT jw rfl T.z_list cO (ad (aa 4) af))) (bG (QF.qm (dO bT jw rfl T.z_list cO (ad (aa 5) af))) (bG (QF.qm (QF.bor [6] (dO bT jw rfl T.z_list cO (ad (aa 6) af)))) ig))))))
  (ag (bV (aH (i:=8) S.nd rfl (Or.inl rfl) (QE.bor [6] (aj (p6 T hB) hr T.t_q13 (ai (aa 3) (ai (aa 4) (ai (aa 5) (ai (aa 6) ak))))))))
  (ag (bV (bj (QT.bor [6] (QW.qt (d6 (bi (a9 (dL rfl T.z_isinstance aP (aa 8) (cE (v:=.ty "tuple") rfl T.z_tuple eM rfl)))) (cK (aY (bo hr.units) dNe (aa 8) (aj (r_ T hB) hr T.t_q43 (ai (aa 3) (ai (aa 4) (ai (aa 5) (ai (aa 6) ak))))) (aR _)))))) (am (aE cG)) aT))
  (ag (bV (bj (QT.bor [6,7] (QW.qt (d6 (bi (a9 (aj (uY T hB) hr T.t_q25 (dn 2 (ai (aa 3) (ai (aa 4) (ai (aa 5) ak))))))) (cK (aY (bo hr.units) dNe (aU (ad (aa 3) (ad (aa 4) (ad (aa 5) (ad (aa 6) af))))) (aa 7) (aR _)))))) (am (aE cG)) aT))
  (ag (bV (kG (i:=6) rfl (QE.qf (bf (ad ae (ad ae af)))) (QE.bor [6] (ay bW dI (aK az dl rfl T.z_len bh (ad (aa 6) af)) ae))))
  (am (bj (QT.bor [6] (aY (bo hr.units) dNe (aj (p6 T hB) hr T.t_q13 (ai (aa 3) (ai (aa 4) (ai (aa 5) (ai (aa 6) ak))))) (aj (r_ T hB) hr T.t_q43 (ai (aa 3) (ai (aa 4) (ai (aa 5) (ai (aa 6) ak))))) (aR _))) (am (aE cG)) aT)))))))))))))
  (am (aE cG))),fun ds q h=>?_⟩
 case hl=>intro ds q h; obtain ⟨φ,ns,rfl,_⟩:=h; rfl
 obtain ⟨φ,ns,rfl,hφ,hl,q0⟩:=h
 refine ⟨hφ,?_⟩
 refine ⟨⟨by simp; omega,by simp; omega⟩,?_⟩
 refine ⟨fun i ρ=>∃ v1 v2 v3 v4 v5 v6 v7 v8,ρ=[some (.scr φ ns),v1,v2,v3,v4,v5,v6,v7,v8],⟨_,_,_,_,_,_,_,_,rfl⟩,?_,?_⟩
 rotate_left
 ·rintro ρ ⟨v1,v2,v3,v4,v5,v6,v7,v8,rfl⟩
  exact q0
 rintro i d ρ hd ⟨v1,v2,v3,v4,v5,v6,v7,v8,rfl⟩
 obtain ⟨hi,rfl⟩:=e8 hd
 have hi:i<4:=by simp at hi; omega
 refine ⟨φ,ns,0 + (i:Int),rfl,hφ,by omega,by omega,fun c m c0=>?_⟩
 refine ⟨c,m,16,rfl,c0,by decide,by decide,fun ps r c1 m1 hT r1 r60 hps h1=>?_⟩
 refine ⟨c1,m1,ps,_,0,20,[2,60],rfl,h1,hT,by decide,by decide,by decide,by decide,by decide,(by decide),fun as0 c2 m2 ha0 _ has0 _ h2=>?_⟩
 refine ⟨ps,r,as0,rfl,hT,r1,r60,ha0,?_⟩
 have hk:=pM hT r1 r60 ha0
 have hal:(as0.map (lR r)).length≤20:=by rw [List.length_map]; omega
 generalize as0.map (lR r)=as at hk hal
 refine ⟨c2,m2,ps,_,rfl,h2,hT,fun P c3 m3 hP hPo h3=>?_⟩
 refine ⟨fun ρ=>∃ (U:List Rat) (c4 m4:Int),ρ=[some (.scr φ ns),some (.int (0 + (i:Int))),some (aF [c4,m4]),some (aw ps (List.replicate ps.length r)),some (aM as),some (dQs P),some (dQs U),v7,v8]∧PrK ps U∧(∀ r∈U,0≤r∧r≤(((1000000000000:Nat):Int):Rat)∧r.den≤60)∧0≤c4,?_,?_⟩
 ·refine ⟨c3,m3,ps,_,rfl,h3,hT,fun U c4 m4 hU hUo h4=>?_⟩
  exact ⟨U,c4,m4,rfl,hU,hUo,h4⟩
 rintro ρ ⟨U,c4,m4,rfl,hU,hUo,h4⟩
 refine ⟨d3 _,d3 _,jL _,iG _,iG _,?_⟩
 refine ⟨fun ρ=>ρ=[some (.scr φ ns),some (.int (0 + (i:Int))),some (aF [c4,m4]),some (aw ps (List.replicate ps.length r)),some (aM as),some (dQs P),some (dQs U),some (.lst [aw ps (List.replicate ps.length r),aM as,dQs P,dQs U]),some (dQ (fV ps r as P U))],?_,?_⟩
 ·refine ⟨ps,r,as,P,U,rfl,hk,hP,hU,?_⟩
  exact ⟨rfl,rfl⟩
 rintro ρ rfl
 refine ⟨fun ρ=>ρ=[some (.scr φ ns),some (.int (0 + (i:Int))),some (aF [c4,m4]),some (aw ps (List.replicate ps.length r)),some (aM as),some (dQs P),some (dQs U),some (.lst [aw ps (List.replicate ps.length r),aM as,dQs P,dQs U]),some (dQ (fV ps r as P U))],?_,?_⟩
 ·refine ⟨ps,r,as,P,U,rfl,hk,hP,hU,?_⟩
  refine ⟨kh _,kh _,?_⟩
  refine (bQ (c:=(!eqD (dQ (fV ps r as P U)) (dQ (fV ps r as P U)))=true) (fun c=>?_) (fun _=>?_))
  ·rw [jn] at c; cases c
  rfl
 rintro ρ rfl
 have hl4:=lay4 ps (List.replicate ps.length r) as P U
 refine ⟨fun ρ=>∃ c5 m5,ρ=[some (.scr φ ns),some (.int (0 + (i:Int))),some (aF [c5,m5]),some (aw ps (List.replicate ps.length r)),some (aM as),some (dQs P),some (dQs U),some (.lst [aw ps (List.replicate ps.length r),aM as,dQs P,dQs U]),some (dQ (fV ps r as P U))],?_,?_⟩
 ·refine ⟨c4,m4,ps,r,as,P,rfl,h4,hk,hP,hal,fun c5 m5 h5=>?_⟩
  refine ⟨kg hl4 (by decide),kg hl4 (by decide),?_⟩
  refine (bQ (c:=(!eqD (.lst [aw ps (List.replicate ps.length r),aM as,dQs P,dQs U]) (.lst [aw ps (List.replicate ps.length r),aM as,dQs P,dQs U]))=true) (fun c=>?_) (fun _=>?_))
  ·rw [f_ _ _ hl4] at c; cases c
  exact ⟨c5,m5,rfl⟩
 rintro ρ ⟨c5,m5,rfl⟩
 have hUl:=hU.len
 have hlo:=hT.lo
 have hti:=hT.hi
 obtain ⟨V,hV⟩:∃ V,V=U.set (U.length - 1) (Rat.divInt 7 2):=⟨_,rfl⟩
 have hVK:PrK ps V:=by
  rw [hV]
  exact PrD.k ⟨tS hUo (by decide +kernel)⟩ (by rw [List.length_set]; exact hUl) hti
 refine ⟨fun ρ=>ρ=[some (.scr φ ns),some (.int (0 + (i:Int))),some (aF [c5,m5]),some (aw ps (List.replicate ps.length r)),some (aM as),some (dQs P),some (dQs V),some (.lst [aw ps (List.replicate ps.length r),aM as,dQs P,dQs U]),some (dQ (fV ps r as P U))],?_,?_⟩
 ·refine ⟨rfl,rfl,?_⟩
  show (match ixN (U.map dQ).length (((U.map dQ).length:Int) - 1) with | some _=>_ | none=>False)
  rw [List.length_map,pQ (by omega),hV,← ud]
  rfl
 rintro ρ rfl
 refine ⟨ps,r,as,P,V,rfl,hk,hP,hVK,?_⟩
 refine ⟨ps,r,as,P,V,rfl,hk,hP,hVK,?_⟩
 refine ⟨kh _,kh _,?_⟩
 refine (bQ (c:=(!eqD (dQ (fV ps r as P V)) (dQ (fV ps r as P V)))=true) (fun c=>?_) (fun _=>?_))
 ·rw [jn] at c; cases c
 exact ⟨_,_,_,_,_,_,_,_,rfl⟩
end
end K35
namespace K35
open PySem L2
theorem fN {us:List Value} {n:Nat} (h:us.length=n + 1):∃ a r,us=a :: r∧r.length=n:=by
 cases us with
 | nil=>cases h
 | cons a r=>exact ⟨a,r,rfl,Nat.succ.inj h⟩
theorem us1 {fd:FuncData} {ps:List Str} (h:∀ a0,bindArgs fd ⟨[a0],[]⟩=pure (ps.zip [a0])):∀ us:List Value,us.length=1→bindArgs fd ⟨us,[]⟩=pure (ps.zip us):=fun us hl=>by
 obtain ⟨a0,u0,rfl,h0⟩:=fN hl
 cases List.eq_nil_of_length_eq_zero h0
 exact h a0
theorem us2 {fd:FuncData} {ps:List Str} (h:∀ a0 a1,bindArgs fd ⟨[a0,a1],[]⟩=pure (ps.zip [a0,a1])):∀ us:List Value,us.length=2→bindArgs fd ⟨us,[]⟩=pure (ps.zip us):=fun us hl=>by
 obtain ⟨a0,u0,rfl,h0⟩:=fN hl
 obtain ⟨a1,u1,rfl,h1⟩:=fN h0
 cases List.eq_nil_of_length_eq_zero h1
 exact h a0 a1
theorem us3 {fd:FuncData} {ps:List Str} (h:∀ a0 a1 a2,bindArgs fd ⟨[a0,a1,a2],[]⟩=pure (ps.zip [a0,a1,a2])):∀ us:List Value,us.length=3→bindArgs fd ⟨us,[]⟩=pure (ps.zip us):=fun us hl=>by
 obtain ⟨a0,u0,rfl,h0⟩:=fN hl
 obtain ⟨a1,u1,rfl,h1⟩:=fN h0
 obtain ⟨a2,u2,rfl,h2⟩:=fN h1
 cases List.eq_nil_of_length_eq_zero h2
 exact h a0 a1 a2
theorem us4 {fd:FuncData} {ps:List Str} (h:∀ a0 a1 a2 a3,bindArgs fd ⟨[a0,a1,a2,a3],[]⟩=pure (ps.zip [a0,a1,a2,a3])):∀ us:List Value,us.length=4→bindArgs fd ⟨us,[]⟩=pure (ps.zip us):=fun us hl=>by
 obtain ⟨a0,u0,rfl,h0⟩:=fN hl
 obtain ⟨a1,u1,rfl,h1⟩:=fN h0
 obtain ⟨a2,u2,rfl,h2⟩:=fN h1
 obtain ⟨a3,u3,rfl,h3⟩:=fN h2
 cases List.eq_nil_of_length_eq_zero h3
 exact h a0 a1 a2 a3
theorem us5 {fd:FuncData} {ps:List Str} (h:∀ a0 a1 a2 a3 a4,bindArgs fd ⟨[a0,a1,a2,a3,a4],[]⟩=pure (ps.zip [a0,a1,a2,a3,a4])):∀ us:List Value,us.length=5→bindArgs fd ⟨us,[]⟩=pure (ps.zip us):=fun us hl=>by
 obtain ⟨a0,u0,rfl,h0⟩:=fN hl
 obtain ⟨a1,u1,rfl,h1⟩:=fN h0
 obtain ⟨a2,u2,rfl,h2⟩:=fN h1
 obtain ⟨a3,u3,rfl,h3⟩:=fN h2
 obtain ⟨a4,u4,rfl,h4⟩:=fN h3
 cases List.eq_nil_of_length_eq_zero h4
 exact h a0 a1 a2 a3 a4
theorem all_mk {l:PySem.W.OpenLaw} {w:World} {K:PySem.W.Frag} {h:Heap} {mg:Str→Option Value} {fa:Addr} (X:K.In h) (G:h.Ns mainGlobals mg) (hfa:mg "law" = some (.ref fa))
 {f_q35:Addr} {d_q35:FuncData} (h_q35:FH K "is_whole" qv f_q35 d_q35)
 {f_q16:Addr} {d_q16:FuncData} (h_q16:FH K "is_between" qk f_q16 d_q16)
 {f_q0:Addr} {d_q0:FuncData} (h_q0:FH K "greatest_common" s_q0 f_q0 d_q0)
 {f_q12:Addr} {d_q12:FuncData} (h_q12:FH K "is_fraction" pA f_q12 d_q12)
 {f_q4:Addr} {d_q4:FuncData} (h_q4:FH K "has_two_lists" s_q4 f_q4 d_q4)
 {f_q8:Addr} {d_q8:FuncData} (h_q8:FH K "look_at_tree" s_q8 f_q8 d_q8)
 {f_q50:Addr} {d_q50:FuncData} (h_q50:FH K "depths" qF f_q50 d_q50)
 {f_q33:Addr} {d_q33:FuncData} (h_q33:FH K "is_place" rP f_q33 d_q33)
 {f_q31:Addr} {d_q31:FuncData} (h_q31:FH K "are_ends" qs f_q31 d_q31)
 {f_q51:Addr} {d_q51:FuncData} (h_q51:FH K "is_ask" rC f_q51 d_q51)
 {f_q5:Addr} {d_q5:FuncData} (h_q5:FH K "look_at_asks" s_q5 f_q5 d_q5)
 {f_q32:Addr} {d_q32:FuncData} (h_q32:FH K "fraction" rQ f_q32 d_q32)
 {f_q67:Addr} {d_q67:FuncData} (h_q67:FH K "plus" o_ f_q67 d_q67)
 {f_q63:Addr} {d_q63:FuncData} (h_q63:FH K "minus" sv f_q63 d_q63)
 {f_q64:Addr} {d_q64:FuncData} (h_q64:FH K "times" qZ f_q64 d_q64)
 {f_q57:Addr} {d_q57:FuncData} (h_q57:FH K "parted" rj f_q57 d_q57)
 {f_q58:Addr} {d_q58:FuncData} (h_q58:FH K "sum_of" pI f_q58 d_q58)
 {f_q65:Addr} {d_q65:FuncData} (h_q65:FH K "under" pR f_q65 d_q65)
 {f_q6:Addr} {d_q6:FuncData} (h_q6:FH K "look_at_ends" s_q6 f_q6 d_q6)
 {f_q60:Addr} {d_q60:FuncData} (h_q60:FH K "climb" rH f_q60 d_q60)
 {f_q15:Addr} {d_q15:FuncData} (h_q15:FH K "way_between" r9 f_q15 d_q15)
 {f_q59:Addr} {d_q59:FuncData} (h_q59:FH K "way_of" qG f_q59 d_q59)
 {f_q19:Addr} {d_q19:FuncData} (h_q19:FH K "meeting_of" re f_q19 d_q19)
 {f_q10:Addr} {d_q10:FuncData} (h_q10:FH K "tops_between" qS f_q10 d_q10)
 {f_q34:Addr} {d_q34:FuncData} (h_q34:FH K "is_price" qc f_q34 d_q34)
 {f_q2:Addr} {d_q2:FuncData} (h_q2:FH K "look_at_prices" s_q2 f_q2 d_q2)
 {f_q37:Addr} {d_q37:FuncData} (h_q37:FH K "spare_of" pG f_q37 d_q37)
 {f_q56:Addr} {d_q56:FuncData} (h_q56:FH K "lay_on" pO f_q56 d_q56)
 {f_q26:Addr} {d_q26:FuncData} (h_q26:FH K "load_with" rD f_q26 d_q26)
 {f_q46:Addr} {d_q46:FuncData} (h_q46:FH K "over_on" rJ f_q46 d_q46)
 {f_q27:Addr} {d_q27:FuncData} (h_q27:FH K "over_with" pZ f_q27 d_q27)
 {f_q11:Addr} {d_q11:FuncData} (h_q11:FH K "common_room" qd f_q11 d_q11)
 {f_q7:Addr} {d_q7:FuncData} (h_q7:FH K "look_at_most" s_q7 f_q7 d_q7)
 {f_q3:Addr} {d_q3:FuncData} (h_q3:FH K "deepest_first" s_q3 f_q3 d_q3)
 {f_q20:Addr} {d_q20:FuncData} (h_q20:FH K "raise_tops" pz f_q20 d_q20)
 {f_q47:Addr} {d_q47:FuncData} (h_q47:FH K "pile_up" qo f_q47 d_q47)
 {f_q1:Addr} {d_q1:FuncData} (h_q1:FH K "keep_from_last" s_q1 f_q1 d_q1)
 {f_q9:Addr} {d_q9:FuncData} (h_q9:FH K "room_for_all" s_q9 f_q9 d_q9)
 {f_q40:Addr} {d_q40:FuncData} (h_q40:FH K "is_wide" rR f_q40 d_q40)
 {f_q17:Addr} {d_q17:FuncData} (h_q17:FH K "keep_mixed" qP f_q17 d_q17)
 {f_q14:Addr} {d_q14:FuncData} (h_q14:FH K "mixed_spare" su f_q14 d_q14)
 {f_q13:Addr} {d_q13:FuncData} (h_q13:FH K "mixed_bound" rA f_q13 d_q13)
 {f_q21:Addr} {d_q21:FuncData} (h_q21:FH K "_law_cell_at" qg f_q21 d_q21)
 {f_q54:Addr} {d_q54:FuncData} (h_q54:FH K "_law_pool" pf f_q54 d_q54)
 {f_q55:Addr} {d_q55:FuncData} (h_q55:FH K "_law_take" qC f_q55 d_q55)
 {f_q41:Addr} {d_q41:FuncData} (h_q41:FH K "_law_alike" rd f_q41 d_q41)
 {f_q52:Addr} {d_q52:FuncData} (h_q52:FH K "_law_asks" qH f_q52 d_q52)
 {f_q66:Addr} {d_q66:FuncData} (h_q66:FH K "_law_up" rk f_q66 d_q66)
 {f_q24:Addr} {d_q24:FuncData} (h_q24:FH K "_law_meeting" pK f_q24 d_q24)
 {f_q62:Addr} {d_q62:FuncData} (h_q62:FH K "_law_way" qM f_q62 d_q62)
 {f_q22:Addr} {d_q22:FuncData} (h_q22:FH K "_law_divisor" rN f_q22 d_q22)
 {f_q61:Addr} {d_q61:FuncData} (h_q61:FH K "_law_low" rg f_q61 d_q61)
 {f_q53:Addr} {d_q53:FuncData} (h_q53:FH K "_law_plus" qh f_q53 d_q53)
 {f_q23:Addr} {d_q23:FuncData} (h_q23:FH K "_law_fitting" pr f_q23 d_q23)
 {f_q36:Addr} {d_q36:FuncData} (h_q36:FH K "_law_prices" rm f_q36 d_q36)
 {f_q44:Addr} {d_q44:FuncData} (h_q44:FH K "_law_spare" pC f_q44 d_q44)
 {f_q43:Addr} {d_q43:FuncData} (h_q43:FH K "_law_bound" p8 f_q43 d_q43)
 {f_q42:Addr} {d_q42:FuncData} (h_q42:FH K "_law_asked" qR f_q42 d_q42)
 {f_q18:Addr} {d_q18:FuncData} (h_q18:FH K "_law_no_share" sw f_q18 d_q18)
 {f_q25:Addr} {d_q25:FuncData} (h_q25:FH K "_law_refused" qB f_q25 d_q25)
 {f_law:Addr} {d_law:FuncData} (h_law:FH K "law" pN f_law d_law)
 {t_MOST_TIES:Tok} (c_MOST_TIES:PySem.W.nsIn K mainGlobals "MOST_TIES" = some (some (.int 23 t_MOST_TIES)))
 {t_MOST_ROOM:Tok} (c_MOST_ROOM:PySem.W.nsIn K mainGlobals "MOST_ROOM" = some (some (.int 1000000 t_MOST_ROOM)))
 {t_MOST_ASKS:Tok} (c_MOST_ASKS:PySem.W.nsIn K mainGlobals "MOST_ASKS" = some (some (.int 30 t_MOST_ASKS)))
 {t_MOST_SIZE:Tok} (c_MOST_SIZE:PySem.W.nsIn K mainGlobals "MOST_SIZE" = some (some (.int 1000000 t_MOST_SIZE)))
 {t_MOST_WORTH:Tok} (c_MOST_WORTH:PySem.W.nsIn K mainGlobals "MOST_WORTH" = some (some (.int 1000000000000 t_MOST_WORTH)))
 {t_MOST_COMMON_ROOM:Tok} (c_MOST_COMMON_ROOM:PySem.W.nsIn K mainGlobals "MOST_COMMON_ROOM" = some (some (.int 60 t_MOST_COMMON_ROOM)))
 (z_ValueError:PySem.W.nsIn K mainGlobals "ValueError" = some none)
 (z_abs:PySem.W.nsIn K mainGlobals "abs" = some none)
 (z_bool:PySem.W.nsIn K mainGlobals "bool" = some none)
 (z_enumerate:PySem.W.nsIn K mainGlobals "enumerate" = some none)
 (z_int:PySem.W.nsIn K mainGlobals "int" = some none)
 (z_isinstance:PySem.W.nsIn K mainGlobals "isinstance" = some none)
 (z_len:PySem.W.nsIn K mainGlobals "len" = some none)
 (z_list:PySem.W.nsIn K mainGlobals "list" = some none)
 (z_max:PySem.W.nsIn K mainGlobals "max" = some none)
 (z_min:PySem.W.nsIn K mainGlobals "min" = some none)
 (z_range:PySem.W.nsIn K mainGlobals "range" = some none)
 (z_reversed:PySem.W.nsIn K mainGlobals "reversed" = some none)
 (z_sorted:PySem.W.nsIn K mainGlobals "sorted" = some none)
 (z_sum:PySem.W.nsIn K mainGlobals "sum" = some none)
 (z_tuple:PySem.W.nsIn K mainGlobals "tuple" = some none)
 {c_q28 ns_q28:Addr} (l_q28:CF K "AskError" c_q28 bmV ns_q28)
 {c_q48 ns_q48:Addr} (l_q48:CF K "NoAsks" c_q48 ([.ref c_q28]++bmV) ns_q48)
 {c_q29 ns_q29:Addr} (l_q29:CF K "NoNumber" c_q29 ([.ref c_q28]++bmV) ns_q29)
 {c_q38 ns_q38:Addr} (l_q38:CF K "NoPlace" c_q38 ([.ref c_q28]++bmV) ns_q38)
 {c_q30 ns_q30:Addr} (l_q30:CF K "NoPrices" c_q30 ([.ref c_q28]++bmV) ns_q30)
 {c_q39 ns_q39:Addr} (l_q39:CF K "NoShare" c_q39 ([.ref c_q28]++bmV) ns_q39)
 {c_q49 ns_q49:Addr} (l_q49:CF K "NoTree" c_q49 ([.ref c_q28]++bmV) ns_q49)
  (n_q28':PySem.W.nsOkIn K ns_q28=true)
  (t_q28:PySem.W.nsIn K ns_q28 "__init__" = some none)
  (n_q48':PySem.W.nsOkIn K ns_q48=true)
 {n_q48:Addr} (t_q48:PySem.W.nsIn K ns_q48 "__init__" = some (some (.ref n_q48)))
  (n_q29':PySem.W.nsOkIn K ns_q29=true)
  (t_q29:PySem.W.nsIn K ns_q29 "__init__" = some none)
  (n_q38':PySem.W.nsOkIn K ns_q38=true)
  (t_q38:PySem.W.nsIn K ns_q38 "__init__" = some none)
  (n_q30':PySem.W.nsOkIn K ns_q30=true)
 {n_q30:Addr} (t_q30:PySem.W.nsIn K ns_q30 "__init__" = some (some (.ref n_q30)))
  (n_q39':PySem.W.nsOkIn K ns_q39=true)
 {n_q39:Addr} (t_q39:PySem.W.nsIn K ns_q39 "__init__" = some (some (.ref n_q39)))
  (n_q49':PySem.W.nsOkIn K ns_q49=true)
 {n_q49:Addr} (t_q49:PySem.W.nsIn K ns_q49 "__init__" = some (some (.ref n_q49)))
  (o_q48:cU K c_q48=true)
  (sv_q48:PySem.W.subIn K (.ref c_q48) (.type "ValueError")=some true)
  (s_q48_NoPrices:SNo K c_q48 c_q30)
  (s_q48_NoShare:SNo K c_q48 c_q39)
  (s_q48_NoTree:SNo K c_q48 c_q49)
  (o_q29:cU K c_q29=true)
  (sv_q29:PySem.W.subIn K (.ref c_q29) (.type "ValueError")=some true)
  (s_q29_NoAsks:SNo K c_q29 c_q48)
  (s_q29_NoPrices:SNo K c_q29 c_q30)
  (s_q29_NoShare:SNo K c_q29 c_q39)
  (s_q29_NoTree:SNo K c_q29 c_q49)
  (o_q38:cU K c_q38=true)
  (sv_q38:PySem.W.subIn K (.ref c_q38) (.type "ValueError")=some true)
  (s_q38_NoAsks:SNo K c_q38 c_q48)
  (s_q38_NoPrices:SNo K c_q38 c_q30)
  (s_q38_NoShare:SNo K c_q38 c_q39)
  (s_q38_NoTree:SNo K c_q38 c_q49)
  (o_q30:cU K c_q30=true)
  (sv_q30:PySem.W.subIn K (.ref c_q30) (.type "ValueError")=some true)
  (s_q30_NoAsks:SNo K c_q30 c_q48)
  (s_q30_NoShare:SNo K c_q30 c_q39)
  (s_q30_NoTree:SNo K c_q30 c_q49)
  (o_q39:cU K c_q39=true)
  (sv_q39:PySem.W.subIn K (.ref c_q39) (.type "ValueError")=some true)
  (s_q39_NoAsks:SNo K c_q39 c_q48)
  (s_q39_NoPrices:SNo K c_q39 c_q30)
  (s_q39_NoTree:SNo K c_q39 c_q49)
  (o_q49:cU K c_q49=true)
  (sv_q49:PySem.W.subIn K (.ref c_q49) (.type "ValueError")=some true)
  (s_q49_NoAsks:SNo K c_q49 c_q48)
  (s_q49_NoPrices:SNo K c_q49 c_q30)
  (s_q49_NoShare:SNo K c_q49 c_q39)
  (sn_q48':PySem.W.subIn K (.type "NoneType") (.ref c_q48)=some false)
  (sn_q30':PySem.W.subIn K (.type "NoneType") (.ref c_q30)=some false)
  (sn_q39':PySem.W.subIn K (.type "NoneType") (.ref c_q39)=some false)
  (sn_q49':PySem.W.subIn K (.type "NoneType") (.ref c_q49)=some false)
 {nd_q48:FuncData} (I_q48:Fun K "__init__" "NoAsks.__init__" (ci (top 3) 0) n_q48 nd_q48)
  (fi_q48:PySem.W.typeIn K (.ref n_q48)=some (.type "function"))
  (kc_q48:PySem.W.keepIn K (.ref c_q48)=true)
  (sa_q48:PySem.W.findIn K (.ref c_q48) "__setattr__" = some (some (.builtin "object.__setattr__")))
  (at_q48_number:PySem.W.findIn K (.ref c_q48) "number" = some none)
 {nd_q30:FuncData} (I_q30:Fun K "__init__" "NoPrices.__init__" (ci (top 4) 0) n_q30 nd_q30)
  (fi_q30:PySem.W.typeIn K (.ref n_q30)=some (.type "function"))
  (kc_q30:PySem.W.keepIn K (.ref c_q30)=true)
  (sa_q30:PySem.W.findIn K (.ref c_q30) "__setattr__" = some (some (.builtin "object.__setattr__")))
  (at_q30_number:PySem.W.findIn K (.ref c_q30) "number" = some none)
 {nd_q39:FuncData} (I_q39:Fun K "__init__" "NoShare.__init__" (ci (top 5) 0) n_q39 nd_q39)
  (fi_q39:PySem.W.typeIn K (.ref n_q39)=some (.type "function"))
  (kc_q39:PySem.W.keepIn K (.ref c_q39)=true)
  (sa_q39:PySem.W.findIn K (.ref c_q39) "__setattr__" = some (some (.builtin "object.__setattr__")))
  (at_q39_number:PySem.W.findIn K (.ref c_q39) "number" = some none)
 {nd_q49:FuncData} (I_q49:Fun K "__init__" "NoTree.__init__" (ci (top 2) 0) n_q49 nd_q49)
  (fi_q49:PySem.W.typeIn K (.ref n_q49)=some (.type "function"))
  (kc_q49:PySem.W.keepIn K (.ref c_q49)=true)
  (sa_q49:PySem.W.findIn K (.ref c_q49) "__setattr__" = some (some (.builtin "object.__setattr__")))
  (at_q49_part:PySem.W.findIn K (.ref c_q49) "part" = some none)
  (at_q49_number:PySem.W.findIn K (.ref c_q49) "number" = some none)
  (rb_q28:BaseIn K c_q28)
 {tc tP:Addr} (hc:d_q3.code = .ref tc)
   :∃ fd:FuncData,(∀ (s:Shared) (v:Value),BindsTo s fd ⟨[v],[]⟩ [("_law_script",v)])∧∀ base:Heap,K.In base→base.Ns mainGlobals mg→TabB base mg tc tP tqS→FnOk l.prog w K mg base CX0 13 fa fd ["_law_script"] (kJ K):=by
 have e:=hfa.symm.trans (PySem.W.mg_of X G h_law.a)
 cases e
 have bi_q48:=I_q48.binds (ps:=["self","number"]) fun _ _ _ _ _ _=>us2 fun _ _=>rfl
 have bi_q30:=I_q30.binds (ps:=["self","number"]) fun _ _ _ _ _ _=>us2 fun _ _=>rfl
 have bi_q39:=I_q39.binds (ps:=["self","number"]) fun _ _ _ _ _ _=>us2 fun _ _=>rfl
 have bi_q49:=I_q49.binds (ps:=["self","part","number"]) fun _ _ _ _ _ _=>us3 fun _ _ _=>rfl
 have T:Txt K mg ⟨f_q35,_,f_q16,_,f_q0,_,f_q12,_,f_q4,_,f_q8,_,f_q50,_,f_q33,_,f_q31,_,f_q51,_,f_q5,_,f_q32,_,f_q67,_,f_q63,_,f_q64,_,f_q57,_,f_q58,_,f_q65,_,f_q6,_,f_q60,_,f_q15,_,f_q59,_,f_q19,_,f_q10,_,f_q34,_,f_q2,_,f_q37,_,f_q56,_,f_q26,_,f_q46,_,f_q27,_,f_q11,_,f_q7,_,f_q3,_,f_q20,_,f_q47,_,f_q1,_,f_q9,_,f_q40,_,f_q17,_,f_q14,_,f_q13,_,f_q21,_,f_q54,_,f_q55,_,f_q41,_,f_q52,_,f_q66,_,f_q24,_,f_q62,_,f_q22,_,f_q61,_,f_q53,_,f_q23,_,f_q36,_,f_q44,_,f_q43,_,f_q42,_,f_q18,_,f_q25,_,fa,_,c_q28,c_q48,c_q29,c_q38,c_q30,c_q39,c_q49,n_q48,n_q30,n_q39,n_q49,_,_,_,_,tc,tP⟩:=⟨h_q35.ft X G fun _ _ _ _ _ _=>us1 fun _=>rfl,h_q16.ft X G fun _ _ _ _ _ _=>us3 fun _ _ _=>rfl,h_q0.ft X G fun _ _ _ _ _ _=>us2 fun _ _=>rfl,h_q12.ft X G fun _ _ _ _ _ _=>us1 fun _=>rfl,h_q4.ft X G fun _ _ _ _ _ _=>us1 fun _=>rfl,h_q8.ft X G fun _ _ _ _ _ _=>us1 fun _=>rfl,h_q50.ft X G fun _ _ _ _ _ _=>us1 fun _=>rfl,h_q33.ft X G fun _ _ _ _ _ _=>us2 fun _ _=>rfl,h_q31.ft X G fun _ _ _ _ _ _=>us3 fun _ _ _=>rfl,h_q51.ft X G fun _ _ _ _ _ _=>us2 fun _ _=>rfl,h_q5.ft X G fun _ _ _ _ _ _=>us2 fun _ _=>rfl,h_q32.ft X G fun _ _ _ _ _ _=>us2 fun _ _=>rfl,h_q67.ft X G fun _ _ _ _ _ _=>us2 fun _ _=>rfl,h_q63.ft X G fun _ _ _ _ _ _=>us2 fun _ _=>rfl,h_q64.ft X G fun _ _ _ _ _ _=>us2 fun _ _=>rfl,h_q57.ft X G fun _ _ _ _ _ _=>us2 fun _ _=>rfl,h_q58.ft X G fun _ _ _ _ _ _=>us1 fun _=>rfl,h_q65.ft X G fun _ _ _ _ _ _=>us2 fun _ _=>rfl,h_q6.ft X G fun _ _ _ _ _ _=>us3 fun _ _ _=>rfl,h_q60.ft X G fun _ _ _ _ _ _=>us3 fun _ _ _=>rfl,h_q15.ft X G fun _ _ _ _ _ _=>us3 fun _ _ _=>rfl,h_q59.ft X G fun _ _ _ _ _ _=>us2 fun _ _=>rfl,h_q19.ft X G fun _ _ _ _ _ _=>us3 fun _ _ _=>rfl,h_q10.ft X G fun _ _ _ _ _ _=>us3 fun _ _ _=>rfl,h_q34.ft X G fun _ _ _ _ _ _=>us1 fun _=>rfl,h_q2.ft X G fun _ _ _ _ _ _=>us2 fun _ _=>rfl,h_q37.ft X G fun _ _ _ _ _ _=>us4 fun _ _ _ _=>rfl,h_q56.ft X G fun _ _ _ _ _ _=>us3 fun _ _ _=>rfl,h_q26.ft X G fun _ _ _ _ _ _=>us3 fun _ _ _=>rfl,h_q46.ft X G fun _ _ _ _ _ _=>us4 fun _ _ _ _=>rfl,h_q27.ft X G fun _ _ _ _ _ _=>us3 fun _ _ _=>rfl,h_q11.ft X G fun _ _ _ _ _ _=>us1 fun _=>rfl,h_q7.ft X G fun _ _ _ _ _ _=>us2 fun _ _=>rfl,h_q3.ft X G fun _ _ _ _ _ _=>us2 fun _ _=>rfl,h_q20.ft X G fun _ _ _ _ _ _=>us4 fun _ _ _ _=>rfl,h_q47.ft X G fun _ _ _ _ _ _=>us3 fun _ _ _=>rfl,h_q1.ft X G fun _ _ _ _ _ _=>us3 fun _ _ _=>rfl,h_q9.ft X G fun _ _ _ _ _ _=>us2 fun _ _=>rfl,h_q40.ft X G fun _ _ _ _ _ _=>us2 fun _ _=>rfl,h_q17.ft X G fun _ _ _ _ _ _=>us2 fun _ _=>rfl,h_q14.ft X G fun _ _ _ _ _ _=>us5 fun _ _ _ _ _=>rfl,h_q13.ft X G fun _ _ _ _ _ _=>us4 fun _ _ _ _=>rfl,h_q21.ft X G fun _ _ _ _ _ _=>us2 fun _ _=>rfl,h_q54.ft X G fun _ _ _ _ _ _=>us2 fun _ _=>rfl,h_q55.ft X G fun _ _ _ _ _ _=>us2 fun _ _=>rfl,h_q41.ft X G fun _ _ _ _ _ _=>us2 fun _ _=>rfl,h_q52.ft X G fun _ _ _ _ _ _=>us5 fun _ _ _ _ _=>rfl,h_q66.ft X G fun _ _ _ _ _ _=>us2 fun _ _=>rfl,h_q24.ft X G fun _ _ _ _ _ _=>us3 fun _ _ _=>rfl,h_q62.ft X G fun _ _ _ _ _ _=>us3 fun _ _ _=>rfl,h_q22.ft X G fun _ _ _ _ _ _=>us2 fun _ _=>rfl,h_q61.ft X G fun _ _ _ _ _ _=>us2 fun _ _=>rfl,h_q53.ft X G fun _ _ _ _ _ _=>us2 fun _ _=>rfl,h_q23.ft X G fun _ _ _ _ _ _=>us2 fun _ _=>rfl,h_q36.ft X G fun _ _ _ _ _ _=>us2 fun _ _=>rfl,h_q44.ft X G fun _ _ _ _ _ _=>us4 fun _ _ _ _=>rfl,h_q43.ft X G fun _ _ _ _ _ _=>us4 fun _ _ _ _=>rfl,h_q42.ft X G fun _ _ _ _ _ _=>us4 fun _ _ _ _=>rfl,h_q18.ft X G fun _ _ _ _ _ _=>us2 fun _ _=>rfl,h_q25.ft X G fun _ _ _ _ _ _=>us4 fun _ _ _ _=>rfl,h_law.ft X G fun _ _ _ _ _ _=>us1 fun _=>rfl,PySem.W.mg_none_of X G z_ValueError,PySem.W.mg_none_of X G z_abs,PySem.W.mg_none_of X G z_bool,PySem.W.mg_none_of X G z_enumerate,PySem.W.mg_none_of X G z_int,PySem.W.mg_none_of X G z_isinstance,PySem.W.mg_none_of X G z_len,PySem.W.mg_none_of X G z_list,PySem.W.mg_none_of X G z_max,PySem.W.mg_none_of X G z_min,PySem.W.mg_none_of X G z_range,PySem.W.mg_none_of X G z_reversed,PySem.W.mg_none_of X G z_sorted,PySem.W.mg_none_of X G z_sum,PySem.W.mg_none_of X G z_tuple,⟨_,PySem.W.mg_of X G c_MOST_TIES⟩,⟨_,PySem.W.mg_of X G c_MOST_ROOM⟩,⟨_,PySem.W.mg_of X G c_MOST_ASKS⟩,⟨_,PySem.W.mg_of X G c_MOST_SIZE⟩,⟨_,PySem.W.mg_of X G c_MOST_WORTH⟩,⟨_,PySem.W.mg_of X G c_MOST_COMMON_ROOM⟩,PySem.W.mg_of X G l_q28.e,PySem.W.mg_of X G l_q48.e,PySem.W.mg_of X G l_q29.e,PySem.W.mg_of X G l_q38.e,PySem.W.mg_of X G l_q30.e,PySem.W.mg_of X G l_q39.e,PySem.W.mg_of X G l_q49.e,(l_q28.xc n_q28' t_q28 eI),(l_q48.xc n_q48' t_q48 (l_q28.tail n_q28' t_q28 eI)),(l_q29.xc n_q29' t_q29 (l_q28.tail n_q28' t_q28 eI)),(l_q38.xc n_q38' t_q38 (l_q28.tail n_q28' t_q28 eI)),(l_q30.xc n_q30' t_q30 (l_q28.tail n_q28' t_q28 eI)),(l_q39.xc n_q39' t_q39 (l_q28.tail n_q28' t_q28 eI)),(l_q49.xc n_q49' t_q49 (l_q28.tail n_q28' t_q28 eI)),o_q48,(fv sv_q48),(l_q30.nope s_q48_NoPrices),(l_q39.nope s_q48_NoShare),(l_q49.nope s_q48_NoTree),o_q29,(fv sv_q29),(l_q48.nope s_q29_NoAsks),(l_q30.nope s_q29_NoPrices),(l_q39.nope s_q29_NoShare),(l_q49.nope s_q29_NoTree),o_q38,(fv sv_q38),(l_q48.nope s_q38_NoAsks),(l_q30.nope s_q38_NoPrices),(l_q39.nope s_q38_NoShare),(l_q49.nope s_q38_NoTree),o_q30,(fv sv_q30),(l_q48.nope s_q30_NoAsks),(l_q39.nope s_q30_NoShare),(l_q49.nope s_q30_NoTree),o_q39,(fv sv_q39),(l_q48.nope s_q39_NoAsks),(l_q30.nope s_q39_NoPrices),(l_q49.nope s_q39_NoTree),o_q49,(fv sv_q49),(l_q48.nope s_q49_NoAsks),(l_q30.nope s_q49_NoPrices),(l_q39.nope s_q49_NoShare),(l_q48.own sn_q48' (.inr rfl)),(l_q30.own sn_q30' (.inr rfl)),(l_q39.own sn_q39' (.inr rfl)),(l_q49.own sn_q49' (.inr rfl)),I_q48,bi_q48,fi_q48,kc_q48,⟨sa_q48,at_q48_number⟩,I_q30,bi_q30,fi_q30,kc_q30,⟨sa_q30,at_q30_number⟩,I_q39,bi_q39,fi_q39,kc_q39,⟨sa_q39,at_q39_number⟩,I_q49,bi_q49,fi_q49,kc_q49,⟨sa_q49,at_q49_part⟩,⟨sa_q49,at_q49_number⟩,rb_q28,hc⟩
 obtain ⟨_,_,_,_,_,_,_,_,_,rfl,_,_⟩:=h_law.F.ex
 exact ⟨_,fun s v=>.of_eq rfl,fun base _ _ hB=>(wH T hB).imp fun _ _ _ _ h=>om h⟩
theorem walk {l:PySem.W.OpenLaw} {q:Program} {loose:List Str} {XP:(Str→Option Value)→Heap→Prop} {YP:World→Heap→Prop} {d:DefRec} {K:Params→PySem.W.Frag} {c Pt:Addr} (hn:l.most=some 63) (hdf:d.params.defaults=[])
 (hY:∀ (w:World) (h:Heap),YP w h→(K w.params).In h∧h.get? Pt=some (PySem.W.tabObj #[])) (hcd0:∀ w:World,PySem.W.codeHdIn (K w.params) c Pt=true) (hKP:∀ w:World,(K w.params).lookup Pt=none)
 (F:∀ (w:World) (mg:Str→Option Value) (fa:Addr) (h:Heap),(K w.params).In h→h.Ns mainGlobals mg→mg d.name=some (.ref fa) →
  ∃ fd:FuncData,(∀ (s:Shared) (u:Value),BindsTo s fd ⟨[u],[]⟩ [("_law_script",u)])∧∀ base:Heap,(K w.params).In base→base.Ns mainGlobals mg→TabB base mg c Pt tqS→FnOk l.prog w (K w.params) mg base CX0 13 fa fd ["_law_script"] (kJ (K w.params))) :
 PySem.W.WalkO q loose XP YP l.row.toRowW d [] (fun f vs=>PySem.call f vs) :=
 L2.qr (n:=63) (k:=13) (x:="_law_script") (sp:=fun w=>kJ (K w.params)) hn (by decide) hdf ⟨rfl,by decide,by decide,rfl⟩ hY hcd0 hKP F (fun _ _ a ns hl hO hS=>⟨a,ns,rfl,hO,hS,hl,fun _=>rfl⟩) fun _ _ _ _ z=>z
end K35
open PySem PySem.W PyProof.Rows
set_option maxRecDepth 100000 in
theorem PySem.Challenge.cw_treeasks_k35_bound_of_two_prices_holds : PySem.Challenge.rw_treeasks_k35_bound_of_two_prices.Holds := by
 w_on; o_law; k_head; (case hw=>w_witness2)
 k_fill
 refine' K35.walk (l:=PySem.Challenge.rw_treeasks_k35_bound_of_two_prices) rfl rfl (fun w h Y=>⟨PySem.W.km_in_of Y,PySem.W.km_tabs_of Y _ (List.Mem.head _)⟩) ?hcd ?hKP ?F
 case F =>
  intro w mg fa h KX G hmg
  refine' K35.all_mk KX G hmg (L2.aN ?_ ?_ ?_ ?_) (L2.aN ?_ ?_ ?_ ?_) (L2.aN ?_ ?_ ?_ ?_) (L2.aN ?_ ?_ ?_ ?_) (L2.aN ?_ ?_ ?_ ?_) (L2.aN ?_ ?_ ?_ ?_) (L2.aN ?_ ?_ ?_ ?_) (L2.aN ?_ ?_ ?_ ?_) (L2.aN ?_ ?_ ?_ ?_) (L2.aN ?_ ?_ ?_ ?_) (L2.aN ?_ ?_ ?_ ?_) (L2.aN ?_ ?_ ?_ ?_) (L2.aN ?_ ?_ ?_ ?_) (L2.aN ?_ ?_ ?_ ?_) (L2.aN ?_ ?_ ?_ ?_) (L2.aN ?_ ?_ ?_ ?_) (L2.aN ?_ ?_ ?_ ?_) (L2.aN ?_ ?_ ?_ ?_) (L2.aN ?_ ?_ ?_ ?_) (L2.aN ?_ ?_ ?_ ?_) (L2.aN ?_ ?_ ?_ ?_) (L2.aN ?_ ?_ ?_ ?_) (L2.aN ?_ ?_ ?_ ?_) (L2.aN ?_ ?_ ?_ ?_) (L2.aN ?_ ?_ ?_ ?_) (L2.aN ?_ ?_ ?_ ?_) (L2.aN ?_ ?_ ?_ ?_) (L2.aN ?_ ?_ ?_ ?_) (L2.aN ?_ ?_ ?_ ?_) (L2.aN ?_ ?_ ?_ ?_) (L2.aN ?_ ?_ ?_ ?_) (L2.aN ?_ ?_ ?_ ?_) (L2.aN ?_ ?_ ?_ ?_) (L2.aN ?_ ?_ ?_ ?_) (L2.aN ?_ ?_ ?_ ?_) (L2.aN ?_ ?_ ?_ ?_) (L2.aN ?_ ?_ ?_ ?_) (L2.aN ?_ ?_ ?_ ?_) (L2.aN ?_ ?_ ?_ ?_) (L2.aN ?_ ?_ ?_ ?_) (L2.aN ?_ ?_ ?_ ?_) (L2.aN ?_ ?_ ?_ ?_) (L2.aN ?_ ?_ ?_ ?_) (L2.aN ?_ ?_ ?_ ?_) (L2.aN ?_ ?_ ?_ ?_) (L2.aN ?_ ?_ ?_ ?_) (L2.aN ?_ ?_ ?_ ?_) (L2.aN ?_ ?_ ?_ ?_) (L2.aN ?_ ?_ ?_ ?_) (L2.aN ?_ ?_ ?_ ?_) (L2.aN ?_ ?_ ?_ ?_) (L2.aN ?_ ?_ ?_ ?_) (L2.aN ?_ ?_ ?_ ?_) (L2.aN ?_ ?_ ?_ ?_) (L2.aN ?_ ?_ ?_ ?_) (L2.aN ?_ ?_ ?_ ?_) (L2.aN ?_ ?_ ?_ ?_) (L2.aN ?_ ?_ ?_ ?_) (L2.aN ?_ ?_ ?_ ?_) (L2.aN ?_ ?_ ?_ ?_) (L2.aN ?_ ?_ ?_ ?_) ?_ ?_ ?_ ?_ ?_ ?_ ?_ ?_ ?_ ?_ ?_ ?_ ?_ ?_ ?_ ?_ ?_ ?_ ?_ ?_ ?_ (L2.jb ?_ ?_ ?_) (L2.jb ?_ ?_ ?_) (L2.jb ?_ ?_ ?_) (L2.jb ?_ ?_ ?_) (L2.jb ?_ ?_ ?_) (L2.jb ?_ ?_ ?_) (L2.jb ?_ ?_ ?_) (L2.eG ?_ ?_) ?_ (L2.eG ?_ ?_) ?_ (L2.eG ?_ ?_) ?_ (L2.eG ?_ ?_) ?_ (L2.eG ?_ ?_) ?_ (L2.eG ?_ ?_) ?_ (L2.eG ?_ ?_) ?_ (L2.fm ?_ ?_ ?_ ?_ ?_ ?_ ?_) ?_ ⟨?_,?_⟩ ⟨?_,?_⟩ ⟨?_,?_⟩ (L2.fm ?_ ?_ ?_ ?_ ?_ ?_ ?_) ?_ ⟨?_,?_⟩ ⟨?_,?_⟩ ⟨?_,?_⟩ ⟨?_,?_⟩ (L2.fm ?_ ?_ ?_ ?_ ?_ ?_ ?_) ?_ ⟨?_,?_⟩ ⟨?_,?_⟩ ⟨?_,?_⟩ ⟨?_,?_⟩ (L2.fm ?_ ?_ ?_ ?_ ?_ ?_ ?_) ?_ ⟨?_,?_⟩ ⟨?_,?_⟩ ⟨?_,?_⟩ (L2.fm ?_ ?_ ?_ ?_ ?_ ?_ ?_) ?_ ⟨?_,?_⟩ ⟨?_,?_⟩ ⟨?_,?_⟩ (L2.fm ?_ ?_ ?_ ?_ ?_ ?_ ?_) ?_ ⟨?_,?_⟩ ⟨?_,?_⟩ ⟨?_,?_⟩ ?_ ?_ ?_ ?_ (L2.iS ?_ ?_ ?_) ?_ ?_ ?_ ?_ (L2.iS ?_ ?_ ?_) ?_ ?_ ?_ ?_ (L2.iS ?_ ?_ ?_) ?_ ?_ ?_ ?_ (L2.iS ?_ ?_ ?_) ?_ ?_ ?_ ?_ ?_ ⟨?_,?_,?_⟩ ?_
  all_goals try k_is
  all_goals first | rfl | (rw [← Array.all_toList]; rfl)
 case hcd=>intro w; first | kernel_rfl | rfl
 case hKP=>intro w; first | kernel_rfl | rfl
end
