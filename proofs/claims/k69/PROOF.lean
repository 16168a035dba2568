import PyProof.Rows.All
import Wide.All
import OpenK.AllK
import Wide.FinOn
import Lean
import PyProof.EqAt
import PyProof.EqKinds
import PyProof.TupleCall
import PyProof.Rows.ListRangeD
import KE.LcSums
import KE.KRevSl
import PyProof.Rows.SetFrom
import PyProof.Rows.ListMulArg
import PySem.Challenge.RW_treeasks_k69_gates_by_sizes
set_option Elab.async false
set_option linter.all false
set_option maxRecDepth 100000
set_option genSizeOf false
set_option maxHeartbeats 4000000
set_option exponentiation.threshold 9000
noncomputable section
theorem PySem.W.Fast.te8697366983406928444:True:=trivial
def PySem.W.Fast.tw8697366983406928444:Nat:=0
theorem PySem.W.Fast.te10803013585599467039:True:=trivial
def PySem.W.Fast.tw10803013585599467039:Nat:=0
def PySem.W.Fast.tw157784536287072691:PySem.Program:=PySem.Challenge.pw_treeasks_k69_gates_by_sizes
theorem PySem.W.Fast.te157784536287072691:PySem.Challenge.pw_treeasks_k69_gates_by_sizes=PySem.W.Fast.tw157784536287072691:=rfl
def PySem.W.Fast.tw9931524226220328108:List PySem.Stmt:=((PySem.Challenge.pw_treeasks_k69_gates_by_sizes.main.body.drop 39).take 1)
theorem PySem.W.Fast.te9931524226220328108:((PySem.Challenge.pw_treeasks_k69_gates_by_sizes.main.body.drop 39).take 1)=PySem.W.Fast.tw9931524226220328108:=rfl
def PySem.W.Fast.tw6338743797992322448:List PySem.Stmt:=((PySem.Challenge.pw_treeasks_k69_gates_by_sizes.main.body.drop 32).take 7)
theorem PySem.W.Fast.te6338743797992322448:((PySem.Challenge.pw_treeasks_k69_gates_by_sizes.main.body.drop 32).take 7)=PySem.W.Fast.tw6338743797992322448:=rfl
def PySem.W.Fast.tw14251482780320679280:List PySem.Stmt:=((PySem.Challenge.pw_treeasks_k69_gates_by_sizes.main.body.drop 16).take 16)
theorem PySem.W.Fast.te14251482780320679280:((PySem.Challenge.pw_treeasks_k69_gates_by_sizes.main.body.drop 16).take 16)=PySem.W.Fast.tw14251482780320679280:=rfl
def PySem.W.Fast.tw12378473972596739087:List PySem.Stmt:=((PySem.Challenge.pw_treeasks_k69_gates_by_sizes.main.body.drop 2).take 1)
theorem PySem.W.Fast.te12378473972596739087:((PySem.Challenge.pw_treeasks_k69_gates_by_sizes.main.body.drop 2).take 1)=PySem.W.Fast.tw12378473972596739087:=rfl
def PySem.W.Fast.tw7697224016645109873:List PySem.Stmt:=((PySem.Challenge.pw_treeasks_k69_gates_by_sizes.main.body.drop 7).take 9)
theorem PySem.W.Fast.te7697224016645109873:((PySem.Challenge.pw_treeasks_k69_gates_by_sizes.main.body.drop 7).take 9)=PySem.W.Fast.tw7697224016645109873:=rfl
def PySem.W.Fast.tw13769550495699527346:List PySem.Stmt:=((PySem.Challenge.pw_treeasks_k69_gates_by_sizes.main.body.drop 4).take 1)
theorem PySem.W.Fast.te13769550495699527346:((PySem.Challenge.pw_treeasks_k69_gates_by_sizes.main.body.drop 4).take 1)=PySem.W.Fast.tw13769550495699527346:=rfl
def PySem.W.Fast.tw320290862863617502:List PySem.Stmt:=((PySem.Challenge.pw_treeasks_k69_gates_by_sizes.main.body.drop 40).take 13)
theorem PySem.W.Fast.te320290862863617502:((PySem.Challenge.pw_treeasks_k69_gates_by_sizes.main.body.drop 40).take 13)=PySem.W.Fast.tw320290862863617502:=rfl
def PySem.W.Fast.tw17724753903914344035:List PySem.Stmt:=((PySem.Challenge.pw_treeasks_k69_gates_by_sizes.main.body.drop 3).take 1)
theorem PySem.W.Fast.te17724753903914344035:((PySem.Challenge.pw_treeasks_k69_gates_by_sizes.main.body.drop 3).take 1)=PySem.W.Fast.tw17724753903914344035:=rfl
def PySem.W.Fast.tw5564460961790099514:PySem.Program:=({ PySem.Challenge.pw_treeasks_k69_gates_by_sizes with main:={ PySem.Challenge.pw_treeasks_k69_gates_by_sizes.main with body:=(PySem.Challenge.pw_treeasks_k69_gates_by_sizes.main.body.drop 1).take 7++(PySem.Challenge.pw_treeasks_k69_gates_by_sizes.main.body.drop 9).take 2++(PySem.Challenge.pw_treeasks_k69_gates_by_sizes.main.body.drop 12).take 6++(PySem.Challenge.pw_treeasks_k69_gates_by_sizes.main.body.drop 19).take 5++(PySem.Challenge.pw_treeasks_k69_gates_by_sizes.main.body.drop 25).take 4++(PySem.Challenge.pw_treeasks_k69_gates_by_sizes.main.body.drop 30).take 6++(PySem.Challenge.pw_treeasks_k69_gates_by_sizes.main.body.drop 37).take 1++(PySem.Challenge.pw_treeasks_k69_gates_by_sizes.main.body.drop 39).take 1++(PySem.Challenge.pw_treeasks_k69_gates_by_sizes.main.body.drop 41).take 14 } }:PySem.Program)
theorem PySem.W.Fast.te5564460961790099514:({ PySem.Challenge.pw_treeasks_k69_gates_by_sizes with main:={ PySem.Challenge.pw_treeasks_k69_gates_by_sizes.main with body:=(PySem.Challenge.pw_treeasks_k69_gates_by_sizes.main.body.drop 1).take 7++(PySem.Challenge.pw_treeasks_k69_gates_by_sizes.main.body.drop 9).take 2++(PySem.Challenge.pw_treeasks_k69_gates_by_sizes.main.body.drop 12).take 6++(PySem.Challenge.pw_treeasks_k69_gates_by_sizes.main.body.drop 19).take 5++(PySem.Challenge.pw_treeasks_k69_gates_by_sizes.main.body.drop 25).take 4++(PySem.Challenge.pw_treeasks_k69_gates_by_sizes.main.body.drop 30).take 6++(PySem.Challenge.pw_treeasks_k69_gates_by_sizes.main.body.drop 37).take 1++(PySem.Challenge.pw_treeasks_k69_gates_by_sizes.main.body.drop 39).take 1++(PySem.Challenge.pw_treeasks_k69_gates_by_sizes.main.body.drop 41).take 14 } }:PySem.Program)=PySem.W.Fast.tw5564460961790099514:=rfl
def PySem.W.Fast.tw9811088863358132703:List PySem.Stmt:=((PySem.Challenge.pw_treeasks_k69_gates_by_sizes.main.body.drop 5).take 1)
theorem PySem.W.Fast.te9811088863358132703:((PySem.Challenge.pw_treeasks_k69_gates_by_sizes.main.body.drop 5).take 1)=PySem.W.Fast.tw9811088863358132703:=rfl
def PySem.W.Fast.tw11462854497803694558:List PySem.Stmt:=((PySem.Challenge.pw_treeasks_k69_gates_by_sizes.main.body.drop 0).take 2)
theorem PySem.W.Fast.te11462854497803694558:((PySem.Challenge.pw_treeasks_k69_gates_by_sizes.main.body.drop 0).take 2)=PySem.W.Fast.tw11462854497803694558:=rfl
def PySem.W.Fast.tw11746743510139608305:List PySem.Stmt:=((PySem.Challenge.pw_treeasks_k69_gates_by_sizes.main.body.drop 53).take 2)
theorem PySem.W.Fast.te11746743510139608305:((PySem.Challenge.pw_treeasks_k69_gates_by_sizes.main.body.drop 53).take 2)=PySem.W.Fast.tw11746743510139608305:=rfl
def PySem.W.Fast.tw15247392746945556263:List PySem.Stmt:=((PySem.Challenge.pw_treeasks_k69_gates_by_sizes.main.body.drop 6).take 1)
theorem PySem.W.Fast.te15247392746945556263:((PySem.Challenge.pw_treeasks_k69_gates_by_sizes.main.body.drop 6).take 1)=PySem.W.Fast.tw15247392746945556263:=rfl
namespace Ob
noncomputable section
open PySem
open PySem.Str renaming ofString → S
open PySem.Value renaming str → v, ref → r, int → i, none → n
abbrev F := Params → Obj
noncomputable def d (P : Params) (s : Str) (t : Tok) (w : Value) : DictEntry := ⟨PyData.keyHash P s, .str s t, w⟩
noncomputable def g (k : Nat) (q : Str → Str) : FuncData := match PySem.Challenge.pw_treeasks_k69_gates_by_sizes.main.body[k % 1000]? with
  | some (.FunctionDef a b c _ _ _ s _ _ _) => ⟨a,q a,b,.stmts c,s,0,[],n,n,n,n,none,n,n,0⟩
  | some (.ClassDef _ _ _ l _ _ _ _ _ _ _) => (match l[k / 1000]? with
    | some (.FunctionDef a b c _ _ _ s _ _ _) => ⟨a,q a,b,.stmts c,s,0,[],n,n,n,n,none,n,n,0⟩
    | _ => default)
  | _ => default
noncomputable def x (k : Nat) : F := fun _ => ⟨n,none,.func (g k id),#[]⟩
noncomputable def X (k : Nat) (q : Str) : F := fun _ => ⟨n,none,.func (g k fun _ => q),#[]⟩
noncomputable def y (k : Nat) (m c : Value) : F := fun _ => ⟨.type "function",none,.func { g k id with globals := 3, pyModule := m, code := c },#[]⟩
noncomputable def Y (k : Nat) (q : Str) (m c : Value) : F := fun _ => ⟨.type "function",none,.func { g k (fun _ => q) with globals := 3, pyModule := m, code := c },#[]⟩
noncomputable def u (l : List Value) : F := fun _ => ⟨.type "tuple",none,.seq l.toArray 0,#[]⟩
noncomputable def z (l : List Value) : F := fun _ => ⟨n,none,.fields l.toArray,#[]⟩
noncomputable def V (s : String) (t : Tok) : Value := v (S s) t
noncomputable def q (s : String) (t1 t2 t3 : Tok) (l a b c e : Int) (r1 : Addr) (m : Int) (r2 r3 r4 r5 : Addr) (t : Int) (t4 : Tok) : F := fun _ => ⟨.type "code",none,.fields #[v (S s) t1,v (S s) t2,v (S "/claim/cut.py") t3,i l 0,i a 0,i b 0,i c 0,i e 0,r r1,.bool true,i m 0,r r2,n,r r3,r r4,r r5,i t 0,i l 0,v (S "/claim/cut.py") t4],#[]⟩
noncomputable def k (l : List Value) : F := fun _ => ⟨.type "code",none,.fields l.toArray,#[]⟩
noncomputable def w (f : F) (a b : Params → W.BT) : Params → W.BT := fun P => .node (f P) (a P) (b P)
noncomputable def e : Params → W.BT := fun _ => .nil
noncomputable def o (f : F) : Params → W.BT := w f e e
noncomputable def ha(p0:Nat)(p1:String)(p2:String)(p3:Nat)(p4:Nat):F:=Y p0 (S p1) (V p2 p3) (r p4)
noncomputable def hb(p0:String)(p1:Nat)(p2:String)(p3:String):F:=u [(V p0 p1),(V p2 (p1+1)),(V p3 (p1+2))]
noncomputable def hc(p0:String)(p1:Nat)(p2:String)(p3:Int)(p4:Int)(p5:Nat)(p6:Int)(p7:Nat):F:=k [(V p0 p1),(V p2 (p1+1)),(V "/claim/cut.py" (p1+2)),(i p3 0),(i p4 0),(i 0 0),(i 0 0),(i 3 0),(r p5),(.bool .true),(i 181 0),(r (p5+1)),n,(r (p5+2)),(r (p5+3)),(r (p5+4)),(i p6 0),(i p3 0),(V "/claim/cut.py" p7)]
noncomputable def hd(p0:String)(p1:Nat)(p2:Int)(p3:Nat)(p4:Int):F:=k [(V p0 p1),(V p0 (p1+1)),(V "/claim/cut.py" (p1+2)),(i p2 0),(i 0 0),(i 0 0),(i 0 0),(i 0 0),(r p3),(.bool .false),(i 181 0),(r (p3+1)),n,n,n,n,(i p4 0),(i p2 0),(V "/claim/cut.py" (p1+4))]
noncomputable def he(p0:Nat)(p1:Nat)(p2:String)(p3:Nat):F:=fun P=>⟨(.type "frame"),none,.plain,#[(some (r p0)),(some (r 3)),(some (r p1)),none,(some (V p2 p3)),none,(some (r 0))]⟩
noncomputable def hf(p0:Nat):F:=fun P=>⟨(.type "builtin_function_or_method"),none,(.fields #[(.builtin "object.__init_subclass__"),(r p0)]),#[]⟩
noncomputable def hg(p0:Nat):F:=fun P=>⟨(.type "super"),none,(.fields #[(r p0),(r p0),(r p0)]),#[]⟩
noncomputable def hh(p0:String)(p1:Nat)(p2:String):F:=u [(V p0 p1),(V p2 (p1+1))]
noncomputable def hi(p0:String)(p1:Nat)(p2:String)(p3:Int)(p4:Int)(p5:Nat)(p6:Int):F:=k [(V p0 p1),(V p2 (p1+1)),(V "/claim/cut.py" (p1+2)),(i p3 0),(i p4 0),(i 0 0),(i 0 0),(i 3 0),(r p5),(.bool .true),(i 181 0),(r (p5+1)),n,n,n,(r (p5+2)),(i p6 0),(i p3 0),(V "/claim/cut.py" (p1+4))]
noncomputable def hj(p0:String)(p1:Nat)(p2:Nat)(p3:Nat)(p4:Nat):F:=fun P=>⟨(.type "type"),none,(.cls ⟨(S p0),[(r 24)],[(r p1),(r 24),(.type "ValueError"),(.type "Exception"),(.type "BaseException"),(.type "object")],p2,(S p0),.true,[],[],.false,none,.false⟩),#[(some (r p3)),none,(some (V p0 p4)),(some (V p0 (p4+8))),(some (.builtin "ValueError.__new__")),(some (.bool .true))]⟩
noncomputable def hk(p0:Nat)(p1:Int)(p2:String)(p3:Nat)(p4:Nat)(p5:String)(p6:Nat)(p7:Nat)(p8:Nat):F:=fun P=>⟨(.type "dict"),none,(.dict #[(d P (S "__module__") p0 (v (S "treeasks.errors") 187)),(d P (S "__firstlineno__") (p0+4) (i p1 (p0+3))),(d P (S p2) p3 (r p4)),(d P (S p5) p6 (r p7)),(d P (S "__doc__") (p6+1) n)] p8),#[]⟩
noncomputable def hl(p0:String)(p1:Nat)(p2:String)(p3:String)(p4:String)(p5:String)(p6:String):F:=u [(V p0 p1),(V p2 (p1+1)),(V p3 (p1+2)),(V p4 (p1+3)),(V p5 (p1+4)),(V p6 (p1+5))]
noncomputable def hm(p0:String)(p1:Nat)(p2:String)(p3:String)(p4:String):F:=u [(V p0 p1),(V p2 (p1+1)),(V p3 (p1+2)),(V p4 (p1+3))]
noncomputable def hn(p0:Int)(p1:Nat):F:=z [(i p0 0),(i 4 0),(r p1)]
noncomputable def ho(p0:Nat)(p1:String)(p2:Int)(p3:Nat)(p4:Nat)(p5:Nat):F:=fun P=>⟨(.type "dict"),none,(.dict #[(d P (S "__module__") p0 (v (S "treeasks.errors") 187)),(d P (S "__qualname__") (p0+2) (v (S p1) (p0+1))),(d P (S "__firstlineno__") (p0+4) (i p2 (p0+3))),(d P (S "__init__") p3 (r p4)),(d P (S "__static_attributes__") p5 (r (p4+1)))] 5),#[]⟩
noncomputable def hp(p0:Nat)(p1:String)(p2:Int)(p3:Nat):F:=fun P=>⟨(.type "dict"),none,(.dict #[(d P (S "__module__") p0 (v (S "treeasks.errors") 187)),(d P (S "__qualname__") (p0+2) (v (S p1) (p0+1))),(d P (S "__firstlineno__") (p0+4) (i p2 (p0+3))),(d P (S "__static_attributes__") (p0+5) (r p3))] 4),#[]⟩
noncomputable def hq(p0:Nat)(p1:Nat):F:=fun P=>⟨(.type "getset_descriptor"),none,(.fields #[(V "__weakref__" p0),(r p1),(.builtin "ExceptionGroup.__weakref__"),n]),#[]⟩
noncomputable def hr(p0:Nat)(p1:Int)(p2:Nat):F:=fun P=>⟨(.type "dict"),none,(.dict #[(d P (S "__module__") p0 (v (S "treeasks.errors") 187)),(d P (S "__firstlineno__") (p0+4) (i p1 (p0+3))),(d P (S "__static_attributes__") (p0+5) (r p2)),(d P (S "__doc__") (p0+6) n)] 2),#[]⟩
noncomputable def zl:List (Nat×Nat×Nat)→List Value
  | []=>[]
  | (a,b,c)::t=>i (Int.ofNat a) 0::i (Int.ofNat b) 0::r c::zl t
def zz:List Value:=zl [(2,0,20),(4,0,33),(10,0,52),(15,0,71),(20,0,90),(25,0,109),(27,0,121),(30,0,133),(32,0,140),(37,0,147),(44,0,154),(54,0,161),(56,0,168),(62,0,175),(67,0,182),(75,0,189),(79,0,196),(86,0,203),(90,0,210),(93,0,217),(102,0,224),(105,0,231),(109,0,236),(111,0,243),(113,0,250),(120,0,255),(123,0,262),(168,0,337),(176,0,344),(183,0,351),(192,0,358),(199,0,363),(202,0,370),(205,0,377),(211,0,382),(216,0,387),(218,0,394),(226,0,399),(239,0,406)]
def A64:F:=fun P=>⟨(.type "dict"),none,(.dict #[(d P (S "__name__") 165 (v (S "treeasks.errors") 187)),(d P (S "__doc__") 166 n),(d P (S "__package__") 167 n),(d P (S "__loader__") 168 (.builtin "__main__.__loader__#opaque")),(d P (S "__spec__") 169 n),(d P (S "__annotations__") 170 (r 6)),(d P (S "__builtins__") 171 (r 4)),(d P (S "__file__") 173 (v (S "/claim/cut.py") 172)),(d P (S "__cached__") 174 n),(d P (S "AskError") 206 (r 24)),(d P (S "NoTree") 233 (r 44))] 11),#[]⟩
def a0k:F:=fun P=>⟨(.type "type"),none,(.cls ⟨(S "AskError"),[(.type "ValueError")],[(r 24),(.type "ValueError"),(.type "Exception"),(.type "BaseException"),(.type "object")],23,(S "AskError"),.true,[],[(r 44)],.false,none,.false⟩),#[(some (r 15)),none,(some (V "AskError" 189)),(some (V "AskError" 197)),(some (.builtin "ValueError.__new__")),(some (.bool .true))]⟩
def a0m:F:=z [(i 2 0),(i 0 0),(r 20),(i 4 0),(i 0 0),(r 33)]
def A86:F:=fun P=>⟨(.type "dict"),none,(.dict #[(d P (S "__name__") 165 (v (S "treeasks.errors") 187)),(d P (S "__doc__") 166 n),(d P (S "__package__") 167 n),(d P (S "__loader__") 168 (.builtin "__main__.__loader__#opaque")),(d P (S "__spec__") 169 n),(d P (S "__annotations__") 170 (r 6)),(d P (S "__builtins__") 171 (r 4)),(d P (S "__file__") 173 (v (S "/claim/cut.py") 172)),(d P (S "__cached__") 174 n),(d P (S "AskError") 206 (r 24)),(d P (S "NoTree") 233 (r 44)),(d P (S "NoAsks") 258 (r 63))] 12),#[]⟩
def a1c:F:=fun P=>⟨(.type "type"),none,(.cls ⟨(S "AskError"),[(.type "ValueError")],[(r 24),(.type "ValueError"),(.type "Exception"),(.type "BaseException"),(.type "object")],23,(S "AskError"),.true,[],[(r 44),(r 63)],.false,none,.false⟩),#[(some (r 15)),none,(some (V "AskError" 189)),(some (V "AskError" 197)),(some (.builtin "ValueError.__new__")),(some (.bool .true))]⟩
def a1e:F:=z [(i 2 0),(i 0 0),(r 20),(i 4 0),(i 0 0),(r 33),(i 10 0),(i 0 0),(r 52)]
def A108:F:=fun P=>⟨(.type "dict"),none,(.dict #[(d P (S "__name__") 165 (v (S "treeasks.errors") 187)),(d P (S "__doc__") 166 n),(d P (S "__package__") 167 n),(d P (S "__loader__") 168 (.builtin "__main__.__loader__#opaque")),(d P (S "__spec__") 169 n),(d P (S "__annotations__") 170 (r 6)),(d P (S "__builtins__") 171 (r 4)),(d P (S "__file__") 173 (v (S "/claim/cut.py") 172)),(d P (S "__cached__") 174 n),(d P (S "AskError") 206 (r 24)),(d P (S "NoTree") 233 (r 44)),(d P (S "NoAsks") 258 (r 63)),(d P (S "NoKeep") 283 (r 82))] 13),#[]⟩
def a1v:F:=fun P=>⟨(.type "type"),none,(.cls ⟨(S "AskError"),[(.type "ValueError")],[(r 24),(.type "ValueError"),(.type "Exception"),(.type "BaseException"),(.type "object")],23,(S "AskError"),.true,[],[(r 44),(r 63),(r 82)],.false,none,.false⟩),#[(some (r 15)),none,(some (V "AskError" 189)),(some (V "AskError" 197)),(some (.builtin "ValueError.__new__")),(some (.bool .true))]⟩
def a1x:F:=z [(i 2 0),(i 0 0),(r 20),(i 4 0),(i 0 0),(r 33),(i 10 0),(i 0 0),(r 52),(i 15 0),(i 0 0),(r 71)]
def A130:F:=fun P=>⟨(.type "dict"),none,(.dict #[(d P (S "__name__") 165 (v (S "treeasks.errors") 187)),(d P (S "__doc__") 166 n),(d P (S "__package__") 167 n),(d P (S "__loader__") 168 (.builtin "__main__.__loader__#opaque")),(d P (S "__spec__") 169 n),(d P (S "__annotations__") 170 (r 6)),(d P (S "__builtins__") 171 (r 4)),(d P (S "__file__") 173 (v (S "/claim/cut.py") 172)),(d P (S "__cached__") 174 n),(d P (S "AskError") 206 (r 24)),(d P (S "NoTree") 233 (r 44)),(d P (S "NoAsks") 258 (r 63)),(d P (S "NoKeep") 283 (r 82)),(d P (S "NoShare") 308 (r 101))] 14),#[]⟩
def a2h:F:=fun P=>⟨(.type "type"),none,(.cls ⟨(S "AskError"),[(.type "ValueError")],[(r 24),(.type "ValueError"),(.type "Exception"),(.type "BaseException"),(.type "object")],23,(S "AskError"),.true,[],[(r 44),(r 63),(r 82),(r 101)],.false,none,.false⟩),#[(some (r 15)),none,(some (V "AskError" 189)),(some (V "AskError" 197)),(some (.builtin "ValueError.__new__")),(some (.bool .true))]⟩
def a2j:F:=z [(i 2 0),(i 0 0),(r 20),(i 4 0),(i 0 0),(r 33),(i 10 0),(i 0 0),(r 52),(i 15 0),(i 0 0),(r 71),(i 20 0),(i 0 0),(r 90)]
def A152:F:=fun P=>⟨(.type "dict"),none,(.dict #[(d P (S "__name__") 165 (v (S "treeasks.errors") 187)),(d P (S "__doc__") 166 n),(d P (S "__package__") 167 n),(d P (S "__loader__") 168 (.builtin "__main__.__loader__#opaque")),(d P (S "__spec__") 169 n),(d P (S "__annotations__") 170 (r 6)),(d P (S "__builtins__") 171 (r 4)),(d P (S "__file__") 173 (v (S "/claim/cut.py") 172)),(d P (S "__cached__") 174 n),(d P (S "AskError") 206 (r 24)),(d P (S "NoTree") 233 (r 44)),(d P (S "NoAsks") 258 (r 63)),(d P (S "NoKeep") 283 (r 82)),(d P (S "NoShare") 308 (r 101)),(d P (S "NoPlace") 324 (r 113))] 15),#[]⟩
def a2y:F:=fun P=>⟨(.type "type"),none,(.cls ⟨(S "AskError"),[(.type "ValueError")],[(r 24),(.type "ValueError"),(.type "Exception"),(.type "BaseException"),(.type "object")],23,(S "AskError"),.true,[],[(r 44),(r 63),(r 82),(r 101),(r 113)],.false,none,.false⟩),#[(some (r 15)),none,(some (V "AskError" 189)),(some (V "AskError" 197)),(some (.builtin "ValueError.__new__")),(some (.bool .true))]⟩
def a30:F:=z [(i 2 0),(i 0 0),(r 20),(i 4 0),(i 0 0),(r 33),(i 10 0),(i 0 0),(r 52),(i 15 0),(i 0 0),(r 71),(i 20 0),(i 0 0),(r 90),(i 25 0),(i 0 0),(r 109)]
def A167:F:=fun P=>⟨(.type "dict"),none,(.dict #[(d P (S "__name__") 165 (v (S "treeasks.trees") 359)),(d P (S "__doc__") 166 n),(d P (S "__package__") 167 n),(d P (S "__loader__") 168 (.builtin "__main__.__loader__#opaque")),(d P (S "__spec__") 169 n),(d P (S "__annotations__") 170 (r 6)),(d P (S "__builtins__") 171 (r 4)),(d P (S "__file__") 173 (v (S "/claim/cut.py") 172)),(d P (S "__cached__") 174 n),(d P (S "AskError") 206 (r 24)),(d P (S "NoTree") 233 (r 44)),(d P (S "NoAsks") 258 (r 63)),(d P (S "NoKeep") 283 (r 82)),(d P (S "NoShare") 308 (r 101)),(d P (S "NoPlace") 324 (r 113)),(d P (S "TooMany") 340 (r 125)),(d P (S "is_whole") 349 (r 134)),(d P (S "is_between") 358 (r 141)),(d P (S "MOST_TIES") 362 (i 23 361)),(d P (S "MOST_ROOM") 364 (i 1000000 363)),(d P (S "has_two_lists") 373 (r 148)),(d P (S "look_at_tree") 385 (r 155))] 22),#[]⟩
def a3r:F:=fun P=>⟨(.type "type"),none,(.cls ⟨(S "AskError"),[(.type "ValueError")],[(r 24),(.type "ValueError"),(.type "Exception"),(.type "BaseException"),(.type "object")],23,(S "AskError"),.true,[],[(r 44),(r 63),(r 82),(r 101),(r 113),(r 125)],.false,none,.false⟩),#[(some (r 15)),none,(some (V "AskError" 189)),(some (V "AskError" 197)),(some (.builtin "ValueError.__new__")),(some (.bool .true))]⟩
def a3v:F:=z [(i 2 0),(i 0 0),(r 20),(i 4 0),(i 0 0),(r 33),(i 10 0),(i 0 0),(r 52),(i 15 0),(i 0 0),(r 71),(i 20 0),(i 0 0),(r 90),(i 25 0),(i 0 0),(r 109),(i 27 0),(i 0 0),(r 121),(i 30 0),(i 0 0),(r 133),(i 32 0),(i 0 0),(r 140),(i 37 0),(i 0 0),(r 147),(i 44 0),(i 0 0),(r 154)]
def A210:F:=fun P=>⟨(.type "dict"),none,(.dict #[(d P (S "__name__") 165 (v (S "treeasks.keeps") 474)),(d P (S "__doc__") 166 n),(d P (S "__package__") 167 n),(d P (S "__loader__") 168 (.builtin "__main__.__loader__#opaque")),(d P (S "__spec__") 169 n),(d P (S "__annotations__") 170 (r 6)),(d P (S "__builtins__") 171 (r 4)),(d P (S "__file__") 173 (v (S "/claim/cut.py") 172)),(d P (S "__cached__") 174 n),(d P (S "AskError") 206 (r 24)),(d P (S "NoTree") 233 (r 44)),(d P (S "NoAsks") 258 (r 63)),(d P (S "NoKeep") 283 (r 82)),(d P (S "NoShare") 308 (r 101)),(d P (S "NoPlace") 324 (r 113)),(d P (S "TooMany") 340 (r 125)),(d P (S "is_whole") 349 (r 134)),(d P (S "is_between") 358 (r 141)),(d P (S "MOST_TIES") 362 (i 23 361)),(d P (S "MOST_ROOM") 364 (i 1000000 363)),(d P (S "has_two_lists") 373 (r 148)),(d P (S "look_at_tree") 385 (r 155)),(d P (S "is_place") 393 (r 162)),(d P (S "are_ends") 402 (r 169)),(d P (S "MOST_ASKS") 406 (i 30 405)),(d P (S "MOST_SIZE") 408 (i 1000000 407)),(d P (S "MOST_WORTH") 410 (i 1000000000000 409)),(d P (S "is_ask") 422 (r 176)),(d P (S "look_at_asks") 432 (r 183)),(d P (S "look_at_ends") 443 (r 190)),(d P (S "climb") 454 (r 197)),(d P (S "way_between") 465 (r 204)),(d P (S "way_of") 473 (r 211)),(d P (S "look_at_keep") 487 (r 218)),(d P (S "lay_on") 497 (r 225))] 35),#[]⟩
def a5j:F:=z (zz.take 63)
def A282:F:=fun P=>⟨(.type "dict"),none,(.dict #[(d P (S "__name__") 165 (v (S "treeasks.gates") 542)),(d P (S "__doc__") 166 n),(d P (S "__package__") 167 n),(d P (S "__loader__") 168 (.builtin "__main__.__loader__#opaque")),(d P (S "__spec__") 169 n),(d P (S "__annotations__") 170 (r 6)),(d P (S "__builtins__") 171 (r 4)),(d P (S "__file__") 173 (v (S "/claim/cut.py") 172)),(d P (S "__cached__") 174 n),(d P (S "AskError") 206 (r 24)),(d P (S "NoTree") 233 (r 44)),(d P (S "NoAsks") 258 (r 63)),(d P (S "NoKeep") 283 (r 82)),(d P (S "NoShare") 308 (r 101)),(d P (S "NoPlace") 324 (r 113)),(d P (S "TooMany") 340 (r 125)),(d P (S "is_whole") 349 (r 134)),(d P (S "is_between") 358 (r 141)),(d P (S "MOST_TIES") 362 (i 23 361)),(d P (S "MOST_ROOM") 364 (i 1000000 363)),(d P (S "has_two_lists") 373 (r 148)),(d P (S "look_at_tree") 385 (r 155)),(d P (S "is_place") 393 (r 162)),(d P (S "are_ends") 402 (r 169)),(d P (S "MOST_ASKS") 406 (i 30 405)),(d P (S "MOST_SIZE") 408 (i 1000000 407)),(d P (S "MOST_WORTH") 410 (i 1000000000000 409)),(d P (S "is_ask") 422 (r 176)),(d P (S "look_at_asks") 432 (r 183)),(d P (S "look_at_ends") 443 (r 190)),(d P (S "climb") 454 (r 197)),(d P (S "way_between") 465 (r 204)),(d P (S "way_of") 473 (r 211)),(d P (S "look_at_keep") 487 (r 218)),(d P (S "lay_on") 497 (r 225)),(d P (S "load_with") 507 (r 232)),(d P (S "over_on") 513 (r 237)),(d P (S "over_with") 522 (r 244)),(d P (S "loads") 533 (r 251)),(d P (S "is_above_half") 541 (r 256))] 40),#[]⟩
def a6t:F:=z (zz.take 78)
def A315:F:=fun P=>⟨(.type "dict"),none,(.dict #[(d P (S "__name__") 165 (v (S "treeasks.gates") 542)),(d P (S "__doc__") 166 n),(d P (S "__package__") 167 n),(d P (S "__loader__") 168 (.builtin "__main__.__loader__#opaque")),(d P (S "__spec__") 169 n),(d P (S "__annotations__") 170 (r 6)),(d P (S "__builtins__") 171 (r 4)),(d P (S "__file__") 173 (v (S "/claim/cut.py") 172)),(d P (S "__cached__") 174 n),(d P (S "AskError") 206 (r 24)),(d P (S "NoTree") 233 (r 44)),(d P (S "NoAsks") 258 (r 63)),(d P (S "NoKeep") 283 (r 82)),(d P (S "NoShare") 308 (r 101)),(d P (S "NoPlace") 324 (r 113)),(d P (S "TooMany") 340 (r 125)),(d P (S "is_whole") 349 (r 134)),(d P (S "is_between") 358 (r 141)),(d P (S "MOST_TIES") 362 (i 23 361)),(d P (S "MOST_ROOM") 364 (i 1000000 363)),(d P (S "has_two_lists") 373 (r 148)),(d P (S "look_at_tree") 385 (r 155)),(d P (S "is_place") 393 (r 162)),(d P (S "are_ends") 402 (r 169)),(d P (S "MOST_ASKS") 406 (i 30 405)),(d P (S "MOST_SIZE") 408 (i 1000000 407)),(d P (S "MOST_WORTH") 410 (i 1000000000000 409)),(d P (S "is_ask") 422 (r 176)),(d P (S "look_at_asks") 432 (r 183)),(d P (S "look_at_ends") 443 (r 190)),(d P (S "climb") 454 (r 197)),(d P (S "way_between") 465 (r 204)),(d P (S "way_of") 473 (r 211)),(d P (S "look_at_keep") 487 (r 218)),(d P (S "lay_on") 497 (r 225)),(d P (S "load_with") 507 (r 232)),(d P (S "over_on") 513 (r 237)),(d P (S "over_with") 522 (r 244)),(d P (S "loads") 533 (r 251)),(d P (S "is_above_half") 541 (r 256)),(d P (S "Gate") 642 (r 327))] 41),#[]⟩
def a8h:F:=z (zz.take 81)
def A392:F:=fun P=>⟨(.type "dict"),none,(.dict #[(d P (S "__name__") 165 (v (S "law_treeasks_k69_gates_by_sizes") 643)),(d P (S "__doc__") 166 n),(d P (S "__package__") 167 n),(d P (S "__loader__") 168 (.builtin "__main__.__loader__#opaque")),(d P (S "__spec__") 169 n),(d P (S "__annotations__") 170 (r 6)),(d P (S "__builtins__") 171 (r 4)),(d P (S "__file__") 173 (v (S "/claim/cut.py") 172)),(d P (S "__cached__") 174 n),(d P (S "AskError") 206 (r 24)),(d P (S "NoTree") 233 (r 44)),(d P (S "NoAsks") 258 (r 63)),(d P (S "NoKeep") 283 (r 82)),(d P (S "NoShare") 308 (r 101)),(d P (S "NoPlace") 324 (r 113)),(d P (S "TooMany") 340 (r 125)),(d P (S "is_whole") 349 (r 134)),(d P (S "is_between") 358 (r 141)),(d P (S "MOST_TIES") 362 (i 23 361)),(d P (S "MOST_ROOM") 364 (i 1000000 363)),(d P (S "has_two_lists") 373 (r 148)),(d P (S "look_at_tree") 385 (r 155)),(d P (S "is_place") 393 (r 162)),(d P (S "are_ends") 402 (r 169)),(d P (S "MOST_ASKS") 406 (i 30 405)),(d P (S "MOST_SIZE") 408 (i 1000000 407)),(d P (S "MOST_WORTH") 410 (i 1000000000000 409)),(d P (S "is_ask") 422 (r 176)),(d P (S "look_at_asks") 432 (r 183)),(d P (S "look_at_ends") 443 (r 190)),(d P (S "climb") 454 (r 197)),(d P (S "way_between") 465 (r 204)),(d P (S "way_of") 473 (r 211)),(d P (S "look_at_keep") 487 (r 218)),(d P (S "lay_on") 497 (r 225)),(d P (S "load_with") 507 (r 232)),(d P (S "over_on") 513 (r 237)),(d P (S "over_with") 522 (r 244)),(d P (S "loads") 533 (r 251)),(d P (S "is_above_half") 541 (r 256)),(d P (S "Gate") 642 (r 327)),(d P (S "_law_pool") 654 (r 338)),(d P (S "_law_take") 663 (r 345)),(d P (S "_law_number") 672 (r 352)),(d P (S "_law_parents") 684 (r 359)),(d P (S "_law_rooms") 690 (r 364)),(d P (S "_law_ends") 699 (r 371)),(d P (S "_law_up") 708 (r 378)),(d P (S "_law_way") 714 (r 383)),(d P (S "_law_fits") 720 (r 388)),(d P (S "_law_prices") 732 (r 395)),(d P (S "_law_state_right") 738 (r 400)),(d P (S "_law_came") 756 (r 407))] 53),#[]⟩
def aal:F:=z (zz.take 117)
lay_quick Ob.A64
noncomputable def od : List F → List F
  | a::_::l=>a::od l
  | l=>l
noncomputable def ev : List F → List F
  | _::b::l=>b::ev l
  | _=>[]
noncomputable def bt : Nat → List F → Params → W.BT
  | k+1,f::l=>w f (bt k (od l)) (bt k (ev l))
  | _,_=>e
open W in
def lL (Q P0 P1:F):List F:=[boot_o_0,boot_o_1,boot_o_2,Q,boot_o_4,boot_o_5,boot_o_6,boot_o_7,boot_o_8,boot_o_9,boot_o_10,u [],P0,hd "<module>" 182 1 11 185,he 13 3 "__main__" 164,u [(.type "ValueError")],(fun P=>⟨(.type "builtin_function_or_method"),none,(.fields #[(.builtin "type.__prepare__"),(.type "type")]),#[]⟩),hp 196 "AskError" 2 22,u [],z [],hd "AskError" 191 2 18 194,he 20 17 "treeasks.errors" 187,u [],hk 196 2 "__static_attributes__" 201 22 "__weakref__" 203 25 3,P1,hq 202 24,hg 24,hf 24,u [(r 24)],(fun P=>⟨(.type "builtin_function_or_method"),none,(.fields #[(.builtin "type.__prepare__"),(.type "type")]),#[]⟩),ho 214 "NoTree" 4 227 41 230,u [],hn 6 40,hd "NoTree" 209 4 31 212,he 33 30 "treeasks.errors" 187,u [],z [],hb "self" 222 "part" "number",u [],X 2 (S "NoTree.__init__"),hc "__init__" 219 "NoTree.__init__" 6 3 35 225 226,ha 2 "NoTree.__init__" "treeasks.errors" 187 40,hh "number" 228 "part",hk 214 4 "__init__" 227 41 "__static_attributes__" 230 42 2,hj "NoTree" 44 43 28 207,hg 44,hf 44,u [(r 24)],(fun P=>⟨(.type "builtin_function_or_method"),none,(.fields #[(.builtin "type.__prepare__"),(.type "type")]),#[]⟩),ho 241 "NoAsks" 10 253 60 255,u [],hn 12 59,hd "NoAsks" 236 10 50 239,he 52 49 "treeasks.errors" 187,u [],z [],hh "self" 249 "number",u [],X 3 (S "NoAsks.__init__"),hc "__init__" 246 "NoAsks.__init__" 12 2 54 251 252,ha 3 "NoAsks.__init__" "treeasks.errors" 187 59,u [(V "number" 254)],hk 241 10 "__init__" 253 60 "__static_attributes__" 255 61 2,hj "NoAsks" 63 62 47 234,hg 63,hf 63,u [(r 24)],(fun P=>⟨(.type "builtin_function_or_method"),none,(.fields #[(.builtin "type.__prepare__"),(.type "type")]),#[]⟩),ho 266 "NoKeep" 15 278 79 280,u [],hn 17 78,hd "NoKeep" 261 15 69 264,he 71 68 "treeasks.errors" 187,u [],z [],hh "self" 274 "number",u [],X 4 (S "NoKeep.__init__"),hc "__init__" 271 "NoKeep.__init__" 17 2 73 276 277,ha 4 "NoKeep.__init__" "treeasks.errors" 187 78,u [(V "number" 279)],hk 266 15 "__init__" 278 79 "__static_attributes__" 280 80 2,hj "NoKeep" 82 81 66 259,hg 82,hf 82,u [(r 24)],(fun P=>⟨(.type "builtin_function_or_method"),none,(.fields #[(.builtin "type.__prepare__"),(.type "type")]),#[]⟩),ho 291 "NoShare" 20 303 98 305,u [],hn 22 97,hd "NoShare" 286 20 88 289,he 90 87 "treeasks.errors" 187,u [],z [],hh "self" 299 "number",u [],X 5 (S "NoShare.__init__"),hc "__init__" 296 "NoShare.__init__" 22 2 92 301 302,ha 5 "NoShare.__init__" "treeasks.errors" 187 97,u [(V "number" 304)],hk 291 20 "__init__" 303 98 "__static_attributes__" 305 99 2,hj "NoShare" 101 100 85 284,hg 101,hf 101,u [(r 24)],(fun P=>⟨(.type "builtin_function_or_method"),none,(.fields #[(.builtin "type.__prepare__"),(.type "type")]),#[]⟩),hp 316 "NoPlace" 25 111,u [],z [],hd "NoPlace" 311 25 107 314,he 109 106 "treeasks.errors" 187,u [],hr 316 25 111,hj "NoPlace" 113 112 104 309,hg 113,hf 113,u [(r 24)],(fun P=>⟨(.type "builtin_function_or_method"),none,(.fields #[(.builtin "type.__prepare__"),(.type "type")]),#[]⟩),hp 332 "TooMany" 27 123,u [],z [],hd "TooMany" 327 27 119 330,he 121 118 "treeasks.errors" 187,u [],hr 332 27 123,hj "TooMany" 125 124 116 325,hg 125,hf 125,u [],z [],u [(V "thing" 346)],u [],x 9,q "is_whole" 343 344 345 30 1 0 0 3 128 181 129 130 131 132 347 348,y 9 (V "treeasks.numbers" 341) (r 133),u [],z [],hb "thing" 353 "least" "most",u [],x 10,q "is_between" 350 351 352 32 3 0 0 3 135 181 136 137 138 139 356 357,y 10 (V "treeasks.numbers" 341) (r 140),u [],z [],hb "thing" 368 "parents" "rooms",u [],x 14,q "has_two_lists" 365 366 367 37 1 0 0 3 142 181 143 144 145 146 371 372,y 14 (V "treeasks.trees" 359) (r 147),u [],z [],hl "thing" 377 "parents" "rooms" "number" "parent" "room",u [],x 15,q "look_at_tree" 374 375 376 44 1 0 0 3 149 181 150 151 152 153 383 384,y 15 (V "treeasks.trees" 359) (r 154),u [],z [],hh "tree" 389 "thing",u [],x 16,q "is_place" 386 387 388 54 2 0 0 3 156 181 157 158 159 160 391 392,y 16 (V "treeasks.trees" 359) (r 161),u [],z [],hb "tree" 397 "one" "other",u [],x 17,q "are_ends" 394 395 396 56 3 0 0 3 163 181 164 165 166 167 400 401,y 17 (V "treeasks.trees" 359) (r 168),u [],z [],hl "tree" 414 "thing" "one" "other" "size" "worth",u [],x 22,q "is_ask" 411 412 413 62 2 0 0 3 170 181 171 172 173 174 420 421,y 22 (V "treeasks.asks" 403) (r 175),u [],z [],hm "tree" 426 "thing" "number" "ask",u [],x 23,q "look_at_asks" 423 424 425 67 2 0 0 3 177 181 178 179 180 181 430 431,y 23 (V "treeasks.asks" 403) (r 182),u [],z [],hb "tree" 438 "one" "other",u [],x 25,q "look_at_ends" 435 436 437 75 3 0 0 3 184 181 185 186 187 188 441 442,y 25 (V "treeasks.ways" 433) (r 189),u [],z [],u [(V "tree" 447),(V "one" 448),(V "other" 449),(V "way" 450),(V "low" 451)],u [],x 26,q "climb" 444 445 446 79 3 0 0 3 191 181 192 193 194 195 452 453,y 26 (V "treeasks.ways" 433) (r 196),u [],z [],u [(V "tree" 458),(V "one" 459),(V "other" 460),(V "way" 461),(V "meeting" 462)],u [],x 27,q "way_between" 455 456 457 86 3 0 0 3 198 181 199 200 201 202 463 464,y 27 (V "treeasks.ways" 433) (r 203),u [],z [],hh "tree" 469 "ask",u [],x 28,q "way_of" 466 467 468 90 2 0 0 3 205 181 206 207 208 209 471 472,y 28 (V "treeasks.ways" 433) (r 210),u [],z [],hl "tree" 479 "asks" "thing" "least" "place" "number",u [],x 30,q "look_at_keep" 476 477 478 93 3 0 0 3 212 181 213 214 215 216 485 486,y 30 (V "treeasks.keeps" 474) (r 217),u [],z [],hm "ask" 491 "way" "load" "tie",u [],x 31,q "lay_on" 488 489 490 102 3 0 0 3 219 181 220 221 222 223 495 496,y 31 (V "treeasks.keeps" 474) (r 224),u [],z [],hm "tree" 501 "ask" "load" "found",u [],x 32,q "load_with" 498 499 500 105 3 0 0 3 226 181 227 228 229 230 505 506,y 32 (V "treeasks.keeps" 474) (r 231),u [],z [],x 33,hi "over_on" 508 "over_on" 109 4 233 511,y 33 (V "treeasks.keeps" 474) (r 236),u [],z [],hb "tree" 517 "ask" "load",u [],x 34,q "over_with" 514 515 516 111 3 0 0 3 238 181 239 240 241 242 520 521,y 34 (V "treeasks.keeps" 474) (r 243),u [],z [],u [(V "tree" 526),(V "asks" 527),(V "keep" 528),(V "found" 529),(V "number" 530)],u [],x 35,q "loads" 523 524 525 113 3 0 0 3 245 181 246 247 248 249 531 532,y 35 (V "treeasks.keeps" 474) (r 250),u [],z [],x 37,hi "is_above_half" 536 "is_above_half" 120 2 252 539,y 37 (V "treeasks.rules" 534) (r 255),u [],(fun P=>⟨(.type "builtin_function_or_method"),none,(.fields #[(.builtin "type.__prepare__"),(.type "type")]),#[]⟩),(fun P=>⟨(.type "dict"),none,(.dict #[(d P (S "__module__") 551 (v (S "treeasks.gates") 542)),(d P (S "__qualname__") 553 (v (S "Gate") 552)),(d P (S "__firstlineno__") 555 (i 123 554)),(d P (S "__init__") 564 (r 270)),(d P (S "is_too_wide") 572 (r 277)),(d P (S "look_at_coming") 581 (r 284)),(d P (S "come") 594 (r 291)),(d P (S "load") 601 (r 298)),(d P (S "asks") 608 (r 305)),(d P (S "kept") 615 (r 312)),(d P (S "is_dear") 624 (r 319)),(d P (S "prices") 630 (r 324)),(d P (S "__static_attributes__") 635 (r 325))] 13),#[]⟩),u [],z [(i 125 0),(i 4 0),(r 269),(i 132 0),(i 4 0),(r 276),(i 135 0),(i 4 0),(r 283),(i 144 0),(i 4 0),(r 290),(i 153 0),(i 4 0),(r 297),(i 156 0),(i 4 0),(r 304),(i 159 0),(i 4 0),(r 311),(i 162 0),(i 4 0),(r 318),(i 165 0),(i 4 0),(r 323)],hd "Gate" 546 123 260 549,he 262 259 "treeasks.gates" 542,u [],z [],hb "self" 559 "tree" "by_sizes",u [],X 39 (S "Gate.__init__"),hc "__init__" 556 "Gate.__init__" 125 3 264 562 563,ha 39 "Gate.__init__" "treeasks.gates" 542 269,u [],z [],hh "self" 568 "ask",u [],X 1039 (S "Gate.is_too_wide"),hc "is_too_wide" 565 "Gate.is_too_wide" 132 2 271 570 571,ha 1039 "Gate.is_too_wide" "treeasks.gates" 542 276,u [],z [],hb "self" 576 "ask" "number",u [],X 2039 (S "Gate.look_at_coming"),hc "look_at_coming" 573 "Gate.look_at_coming" 135 2 278 579 580,ha 2039 "Gate.look_at_coming" "treeasks.gates" 542 283,u [],z [],u [(V "self" 585),(V "ask" 586),(V "one" 587),(V "other" 588),(V "size" 589),(V "worth" 590),(V "fits" 591)],u [],X 3039 (S "Gate.come"),hc "come" 582 "Gate.come" 144 2 285 592 593,ha 3039 "Gate.come" "treeasks.gates" 542 290,u [],z [],u [(V "self" 598)],u [],X 4039 (S "Gate.load"),hc "load" 595 "Gate.load" 153 1 292 599 600,ha 4039 "Gate.load" "treeasks.gates" 542 297,u [],z [],u [(V "self" 605)],u [],X 5039 (S "Gate.asks"),hc "asks" 602 "Gate.asks" 156 1 299 606 607,ha 5039 "Gate.asks" "treeasks.gates" 542 304,u [],z [],u [(V "self" 612)],u [],X 6039 (S "Gate.kept"),hc "kept" 609 "Gate.kept" 159 1 306 613 614,ha 6039 "Gate.kept" "treeasks.gates" 542 311,u [],z [],hb "self" 619 "load" "room",u [],X 7039 (S "Gate.is_dear"),hc "is_dear" 616 "Gate.is_dear" 162 3 313 622 623,ha 7039 "Gate.is_dear" "treeasks.gates" 542 318,u [],z [],X 8039 (S "Gate.prices"),hi "prices" 625 "Gate.prices" 165 1 320 628,ha 8039 "Gate.prices" "treeasks.gates" 542 323,hm "by_sizes" 631 "came" "held" "tree",(fun P=>⟨(.type "dict"),none,(.dict #[(d P (S "__module__") 551 (v (S "treeasks.gates") 542)),(d P (S "__firstlineno__") 555 (i 123 554)),(d P (S "__init__") 564 (r 270)),(d P (S "is_too_wide") 572 (r 277)),(d P (S "look_at_coming") 581 (r 284)),(d P (S "come") 594 (r 291)),(d P (S "load") 601 (r 298)),(d P (S "asks") 608 (r 305)),(d P (S "kept") 615 (r 312)),(d P (S "is_dear") 624 (r 319)),(d P (S "prices") 630 (r 324)),(d P (S "__static_attributes__") 635 (r 325)),(d P (S "__dict__") 637 (r 328)),(d P (S "__weakref__") 639 (r 329)),(d P (S "__doc__") 640 n)] 4),#[]⟩),(fun P=>⟨(.type "type"),none,(.cls ⟨(S "Gate"),[(.type "object")],[(r 327),(.type "object")],326,(S "Gate"),.true,[],[],.false,none,.false⟩),#[none,none,(some (V "Gate" 544)),(some (V "Gate" 552)),(some (.builtin "object.__new__")),(some (.bool .true))]⟩),(fun P=>⟨(.type "getset_descriptor"),none,(.fields #[(V "__dict__" 636),(r 327),(.builtin "function.__dict__"),(.builtin "function.__dict__#set")]),#[]⟩),hq 638 327,hg 327,hf 327,u [],z [],hm "_law_script" 648 "_law_k" "_law_cell" "_law_seed",u [],x 41,q "_law_pool" 645 646 647 168 2 0 0 3 332 181 333 334 335 336 652 653,y 41 (V "law_treeasks_k69_gates_by_sizes" 643) (r 337),u [],z [],hb "_law_pool_here" 658 "_law_many" "_law_found",u [],x 42,q "_law_take" 655 656 657 176 2 0 0 3 339 181 340 341 342 343 661 662,y 42 (V "law_treeasks_k69_gates_by_sizes" 643) (r 344),u [],z [],hb "_law_pool_here" 667 "_law_most" "_law_way_here",u [],x 43,q "_law_number" 664 665 666 183 2 0 0 3 346 181 347 348 349 350 670 671,y 43 (V "law_treeasks_k69_gates_by_sizes" 643) (r 351),u [],z [],hl "_law_pool_here" 676 "_law_most" "_law_shape" "_law_parents_here" "_law_place" "_law_up_here",u [],x 44,q "_law_parents" 673 674 675 192 2 0 0 3 353 181 354 355 356 357 682 683,y 44 (V "law_treeasks_k69_gates_by_sizes" 643) (r 358),u [],z [],x 45,hi "_law_rooms" 685 "_law_rooms" 199 3 360 688,y 45 (V "law_treeasks_k69_gates_by_sizes" 643) (r 363),u [],z [],hb "_law_pool_here" 694 "_law_many" "_law_one",u [],x 46,q "_law_ends" 691 692 693 202 2 0 0 3 365 181 366 367 368 369 697 698,y 46 (V "law_treeasks_k69_gates_by_sizes" 643) (r 370),u [],z [],hb "_law_parents_here" 703 "_law_place" "_law_found",u [],x 47,q "_law_up" 700 701 702 205 2 0 0 3 372 181 373 374 375 376 706 707,y 47 (V "law_treeasks_k69_gates_by_sizes" 643) (r 377),u [],z [],x 48,hi "_law_way" 709 "_law_way" 211 2 379 712,y 48 (V "law_treeasks_k69_gates_by_sizes" 643) (r 382),u [],z [],x 49,hi "_law_fits" 715 "_law_fits" 216 4 384 718,y 49 (V "law_treeasks_k69_gates_by_sizes" 643) (r 387),u [],z [],hl "_law_tree" 724 "_law_taken" "_law_sized" "_law_found" "_law_k" "_law_full",u [],x 50,q "_law_prices" 721 722 723 218 3 0 0 3 389 181 390 391 392 393 730 731,y 50 (V "law_treeasks_k69_gates_by_sizes" 643) (r 394),u [],z [],x 51,hi "_law_state_right" 733 "_law_state_right" 226 4 396 736,y 51 (V "law_treeasks_k69_gates_by_sizes" 643) (r 399),u [],z [],u [(V "_law_gate" 742),(V "_law_tree" 743),(V "_law_state" 744),(V "_law_ask_here" 745),(V "_law_sized" 746),(V "_law_taken" 747),(V "_law_came_here" 748),(V "_law_kept_ones" 749),(V "_law_way_here" 750),(V "_law_due" 751),(V "_law_found" 752),(V "_law_tie" 753)],u [],x 52,q "_law_came" 739 740 741 239 5 0 0 3 401 181 402 403 404 405 754 755,y 52 (V "law_treeasks_k69_gates_by_sizes" 643) (r 406)]
def Ttree_85 (Q : F) : Params → W.BT := bt 11 ((lL Q a0m a0k).take 47)
def _root_.PySem.W.Fast.tw6443737926016963230 : Params → W.BT := Ttree_85 PySem.W.Fast.tw6963075612888702905
theorem _root_.PySem.W.Fast.te6443737926016963230 : Ttree_85 Ob.A64 = PySem.W.Fast.tw6443737926016963230 := (congrArg Ttree_85 PySem.W.Fast.te6963075612888702905)
lay_quick Ob.A86
def Ttree_107 (Q : F) : Params → W.BT := bt 11 ((lL Q a1e a1c).take 66)
def _root_.PySem.W.Fast.tw12934734841707198264 : Params → W.BT := Ttree_107 PySem.W.Fast.tw11147188043990879120
theorem _root_.PySem.W.Fast.te12934734841707198264 : Ttree_107 Ob.A86 = PySem.W.Fast.tw12934734841707198264 := (congrArg Ttree_107 PySem.W.Fast.te11147188043990879120)
lay_quick Ob.A108
def Ttree_129 (Q : F) : Params → W.BT := bt 11 ((lL Q a1x a1v).take 85)
def _root_.PySem.W.Fast.tw246605353480864468 : Params → W.BT := Ttree_129 PySem.W.Fast.tw4549916873101738619
theorem _root_.PySem.W.Fast.te246605353480864468 : Ttree_129 Ob.A108 = PySem.W.Fast.tw246605353480864468 := (congrArg Ttree_129 PySem.W.Fast.te4549916873101738619)
lay_quick Ob.A130
def Ttree_151 (Q : F) : Params → W.BT := bt 11 ((lL Q a2j a2h).take 104)
def _root_.PySem.W.Fast.tw13285287398599327928 : Params → W.BT := Ttree_151 PySem.W.Fast.tw16405788764653981887
theorem _root_.PySem.W.Fast.te13285287398599327928 : Ttree_151 Ob.A130 = PySem.W.Fast.tw13285287398599327928 := (congrArg Ttree_151 PySem.W.Fast.te16405788764653981887)
lay_quick Ob.A152
def Ttree_166 (Q : F) : Params → W.BT := bt 11 ((lL Q a30 a2y).take 116)
def _root_.PySem.W.Fast.tw12719007293593954983 : Params → W.BT := Ttree_166 PySem.W.Fast.tw6053701103550676820
theorem _root_.PySem.W.Fast.te12719007293593954983 : Ttree_166 Ob.A152 = PySem.W.Fast.tw12719007293593954983 := (congrArg Ttree_166 PySem.W.Fast.te6053701103550676820)
lay_quick Ob.A167
def Ttree_209 (Q : F) : Params → W.BT := bt 11 ((lL Q a3v a3r).take 156)
def _root_.PySem.W.Fast.tw6724969962787796764 : Params → W.BT := Ttree_209 PySem.W.Fast.tw9136528746814694042
theorem _root_.PySem.W.Fast.te6724969962787796764 : Ttree_209 Ob.A167 = PySem.W.Fast.tw6724969962787796764 := (congrArg Ttree_209 PySem.W.Fast.te9136528746814694042)
lay_quick Ob.A210
def Ttree_281 (Q : F) : Params → W.BT := bt 11 ((lL Q a5j a3r).take 226)
def _root_.PySem.W.Fast.tw17250981442761054733 : Params → W.BT := Ttree_281 PySem.W.Fast.tw4607216799605739056
theorem _root_.PySem.W.Fast.te17250981442761054733 : Ttree_281 Ob.A210 = PySem.W.Fast.tw17250981442761054733 := (congrArg Ttree_281 PySem.W.Fast.te4607216799605739056)
lay_quick Ob.A282
def Ttree_314 (Q : F) : Params → W.BT := bt 11 ((lL Q a6t a3r).take 257)
def _root_.PySem.W.Fast.tw3419499846124821476 : Params → W.BT := Ttree_314 PySem.W.Fast.tw8639882437808014526
theorem _root_.PySem.W.Fast.te3419499846124821476 : Ttree_314 Ob.A282 = PySem.W.Fast.tw3419499846124821476 := (congrArg Ttree_314 PySem.W.Fast.te8639882437808014526)
lay_quick Ob.A315
def Ttree_391 (Q : F) : Params → W.BT := bt 11 ((lL Q a8h a3r).take 332)
def _root_.PySem.W.Fast.tw3014555504238046373 : Params → W.BT := Ttree_391 PySem.W.Fast.tw7411644258309847551
theorem _root_.PySem.W.Fast.te3014555504238046373 : Ttree_391 Ob.A315 = PySem.W.Fast.tw3014555504238046373 := (congrArg Ttree_391 PySem.W.Fast.te7411644258309847551)
lay_quick Ob.A392
def Ttree_469 (Q : F) : Params → W.BT := bt 11 ((lL Q aal a3r).take 408)
def _root_.PySem.W.Fast.tw9337301707340249136 : Params → W.BT := Ttree_469 PySem.W.Fast.tw10112147781207041975
theorem _root_.PySem.W.Fast.te9337301707340249136 : Ttree_469 Ob.A392 = PySem.W.Fast.tw9337301707340249136 := (congrArg Ttree_469 PySem.W.Fast.te10112147781207041975)
end
end Ob
namespace L2
open PySem PySem.Spec PyProof.Rows
abbrev Key:=Sum Int Str
def rA:Key→Value→Bool
 | .inl k,v=>Value.isInt k v
 | .inr x,v=>Value.isStrOf x v
def keyH (w:World):Key→Int
 | .inl k=>hashInt k
 | .inr x=>hashStr w x
theorem bf:∀ {k:Key} {v:Value},rA k v=true→(∃ i t,k=Sum.inl i∧v=Value.int i t)∨(∃ x t,k=Sum.inr x∧v=Value.str x t)
 | .inl i,v,h=>by
  obtain ⟨t,e⟩:=Value.isInt_shape (k:=i) (v:=v) h
  exact .inl ⟨i,t,rfl,e⟩
 | .inr x,v,h=>by
  obtain ⟨t,e⟩:=Value.isStrOf_shape (x:=x) (v:=v) h
  exact .inr ⟨x,t,rfl,e⟩
theorem tD (a b:Int):decide ((Sum.inl a:Key)=Sum.inl b)=(a == b):=by
 by_cases e:a=b
 ·subst e; simp
 ·have h : ¬ (Sum.inl a:Key)=Sum.inl b:=fun q=>e (Sum.inl.inj q)
  rw [decide_eq_false h]
  exact (beq_eq_false_iff_ne.mpr e).symm
theorem tU (a b:Str):decide ((Sum.inr a:Key)=Sum.inr b)=decide (a=b):=by
 by_cases e:a=b
 ·subst e; simp
 ·have h : ¬ (Sum.inr a:Key)=Sum.inr b:=fun q=>e (Sum.inr.inj q)
  rw [decide_eq_false h,decide_eq_false e]
theorem uk (a:Int) (b:Str):decide ((Sum.inl a:Key)=Sum.inr b)=false:=decide_eq_false (fun q=>nomatch q)
theorem sZ (a:Str) (b:Int):decide ((Sum.inr a:Key)=Sum.inl b)=false:=decide_eq_false (fun q=>nomatch q)
def jf (prog:Program) (w:World):PySem.KeyKind prog w Key where
 is:=rA
 hash:=keyH w
 inj:=fun v a b ha hb=>by
  rcases bf ha with ⟨i,t,rfl,rfl⟩ | ⟨x,t,rfl,rfl⟩
  ·rcases bf hb with ⟨j,u,rfl,e⟩ | ⟨y,u,rfl,e⟩
   ·injection e with e1 _; rw [e1]
   ·exact nomatch e
  ·rcases bf hb with ⟨j,u,rfl,e⟩ | ⟨y,u,rfl,e⟩
   ·exact nomatch e
   ·injection e with e1 _; rw [e1]
 byValue:=fun k v h=>by
  rcases bf h with ⟨i,t,rfl,rfl⟩ | ⟨x,t,rfl,rfl⟩ <;> rfl
 pyHash:=fun hv h=>by
  rcases bf hv with ⟨i,t,rfl,rfl⟩ | ⟨x,t,rfl,rfl⟩
  ·exact wpAny_pyHash_int h
  ·exact wpAny_pyHash_str h
 eqBool:=fun hu hv h=>by
  rcases bf hu with ⟨i,t,rfl,rfl⟩ | ⟨x,t,rfl,rfl⟩
  ·rcases bf hv with ⟨j,u,rfl,rfl⟩ | ⟨y,u,rfl,rfl⟩
   ·rw [tD] at h; exact wpAny_eqBool_int h
   ·rw [uk] at h; exact SeqAt.EqAt.int_str i t y u _ _ _ _ h
  ·rcases bf hv with ⟨j,u,rfl,rfl⟩ | ⟨y,u,rfl,rfl⟩
   ·rw [sZ] at h; exact SeqAt.EqAt.str_int x t j u _ _ _ _ h
   ·rw [tU] at h; exact wpAny_eqBool_str h
 «strs»:=fun k x t v h=>by
  rcases bf h with ⟨i,u,rfl,e⟩ | ⟨y,u,rfl,e⟩
  ·exact nomatch e
  ·injection e with e1 _
   subst e1
   cases v <;> rfl
inductive V where
 | non | bl (b:Bool) | int (i:Int) | str (x:Str) | byt (b:Array UInt8) | flt (b:UInt64) | ref (a:Addr) | ty (n:String)
 deriving DecidableEq
def aU:V→Value→Prop
 | .non,u=>u=Value.none
 | .bl b,u=>u=Value.bool b
 | .int i,u=>∃ t,u=Value.int i t
 | .str x,u=>∃ t,u=Value.str x t
 | .byt b,u=>∃ t,u=Value.bytes b t
 | .flt b,u=>∃ t,u=Value.float b t
 | .ref a,u=>u=Value.ref a
 | .ty n,u=>u=Value.type n
abbrev aI:List V→List Value→Prop:=Paired aU
theorem aI.length {xs:List V} {us:List Value} (r:aI xs us):xs.length=us.length:=Paired.length r
theorem aI.get:∀ {xs:List V} {us:List Value} {i:Nat} {x:V},aI xs us→xs[i]? = some x→∃ u,us[i]? = some u∧aU x u
 | _,_,_,_,.nil,e=>by simp at e
 | _,_,0,_,.cons r _,e=>by simp at e; subst e; exact ⟨_,rfl,r⟩
 | _,_,i + 1,x,.cons _ t,e=>by
  obtain ⟨u,h1,h2⟩:=aI.get (i:=i) (x:=x) t (by simpa using e)
  exact ⟨u,by simpa using h1,h2⟩
theorem aI.set {x:V} {u:Value} (r:aU x u):∀ {xs:List V} {us:List Value} (i:Nat),aI xs us→aI (xs.set i x) (us.set i u)
 | _,_,_,.nil=>.nil
 | _,_,0,.cons _ t=>.cons r t
 | _,_,i + 1,.cons q t=>.cons q (aI.set r i t)
theorem aI.append:∀ {xs ys:List V} {us ws:List Value},aI xs us→aI ys ws→aI (xs++ys) (us++ws)
 | _,_,_,_,.nil,s=>s
 | _,_,_,_,.cons r t,s=>.cons r (aI.append t s)
theorem aI.take:∀ {xs:List V} {us:List Value} (n:Nat),aI xs us→aI (xs.take n) (us.take n)
 | _,_,0,_=>.nil
 | _,_,_ + 1,.nil=>.nil
 | _,_,n + 1,.cons r t=>.cons r (aI.take n t)
theorem aI.drop:∀ {xs:List V} {us:List Value} (n:Nat),aI xs us→aI (xs.drop n) (us.drop n)
 | _,_,0,r=>r
 | _,_,_ + 1,.nil=>.nil
 | _,_,n + 1,.cons _ t=>aI.drop n t
def iD:Option V→Option Value→Prop
 | some v,some u=>aU v u
 | none,none=>True
 | _,_=>False
def KV {κ:Type}:List (κ×V)→List (κ×Value)→Prop:=Paired fun (p : κ×V) (q : κ×Value)=>p.1=q.1∧aU p.2 q.2
def kV:Key→V
 | .inl i=>.int i
 | .inr x=>.str x
inductive HO where

 | lst (xs:List V)

 | tup (xs:List V)

 | dK (kvs:List (Key×V)) | dT (kvs:List (List Key×V))

 | set (S:Int→Bool) (n:Nat)

 | ins (C dx:Addr) (fs:List (Str×V))

 | own (x:Addr)

 | xd (fs:List (Str×V))

 | met (f x:Addr)

 | rng (lo hi:Int)

 | frz (o:Obj) (u:HO)

 | tbl (ps:Array Value) (q:Str)

 | ext (φ:Heap→Prop)
abbrev Hp:=Addr→Option HO
def upd (H:Hp) (a:Addr) (o:HO):Hp:=fun b=>if b=a then some o else H b
theorem ax {H:Hp} {a:Addr} {o:HO}:upd H a o a=some o:=by unfold upd; rw [if_pos rfl]
theorem ag {H:Hp} {a b:Addr} {o:HO} (h:b≠a):upd H a o b=H b:=by unfold upd; rw [if_neg h]
theorem am {H:Hp} {a b:Addr} {o:HO} (h:H a=some o) (h':H b=none):a≠b:=by
 intro e; subst e; rw [h] at h'; cases h'
def TbV (H:Hp) (ps:Array Value) (q:Str):Prop:=TriplesOk ps.toList∧∀ pos cv,codeAmong pos ps.toList=some cv→∃ c o vs t,cv = .ref c∧H c=some (.frz o (.own 0))∧o.data = .fields vs∧vs[1]? = some (.str q t)
theorem TbV.mono {H H':Hp} {ps:Array Value} {q:Str} (h:TbV H ps q) (hf:∀ b o u,H b=some (.frz o u)→H' b=some (.frz o u)):TbV H' ps q:=⟨h.1,fun pos cv e=>let ⟨c,o,vs,t,a,b,r⟩:=h.2 pos cv e; ⟨c,o,vs,t,a,hf _ _ _ b,r⟩⟩
section
variable (P:Program) (w:World)
def bE (H:Hp) (h:Heap) (a:Addr):HO→Prop
 | .lst xs=>xs.length≤sizeLine∧∃ (its:List Value) (n:Nat),aI xs its∧h.get? a=some { cls:=.type "list",data:=.seq its.toArray n }
 | .tup xs=>xs.length≤sizeLine∧∃ its:List Value,aI xs its∧IsTup h a its.toArray
 | .dK kvs=>kvs.length≤sizeLine∧(a == sysModules)=false∧∃ vs,KV kvs vs∧h.DictOf (jf P w) a vs
 | .dT kvs=>kvs.length≤sizeLine∧(a == sysModules)=false∧∃ xs:List (List Key×Addr×Value),
  Paired (fun (p:List Key×V) (q:List Key×Addr×Value)=>p.1=q.1∧H q.2.1=some (.tup (p.1.map kV))∧aU p.2 q.2.2) kvs xs ∧
  ∃ o es ep,h.get? a=some o∧o.ExactDict∧o.data = .dict es ep∧es.toList=xs.map (entryOfKey (tupleKind (jf P w)))∧(xs.map (·.1)).Nodup
 | .set S n=>h.SetOf (intKind P w) a S n
 | .ins C dx fs=>H dx=some (.own a)∧fs.length≤1000∧dx≠a∧h.get? a=some (PySem.W.instObj C dx) ∧
  ∃ mA,h.Ns1 dx mA∧(∀ f,iD (fs.lookup f) (mA f))∧PySem.Within mA (fs.map (·.1))
 | .own _=>∃ o,h.get? a=some o
 | .xd fs=>∃ mA,h.Ns1 a mA∧∀ f,iD (fs.lookup f) (mA f)
 | .rng lo hi=>∃ t u v,h.get? a=some { cls:=.type "range",data:=.fields #[.int lo t,.int hi u,.int 1 v] }
 | .frz o u=>h.get? a=some o∧bE H h a u
 | .tbl ps q=>h.get? a=some { cls:=.none,data:=.fields ps }∧TbV H ps q
 | .met f x=>h.get? a=some (PySem.W.methodObj (.ref f) (.ref x))
 | .ext φ=>φ h∧(∃ o,h.get? a=some o)∧∀ h1 h2:Heap,φ h1→(∀ o,h1.get? a=some o→h2.get? a=some o)→φ h2
def HOk (H:Hp) (h:Heap):Prop:=∀ a o,H a=some o→bE P w H h a o
end
section
variable {P:Program} {w:World} {H H':Hp} {h h':Heap} {a:Addr} {o:HO}
theorem bE.lt (x:bE P w H h a o):a<h.objs.size:=by
 cases o with
 | lst xs=>obtain ⟨_,_,_,_,e⟩:=x; exact Heap.lt_size e
 | tup xs=>obtain ⟨_,_,_,p⟩:=x; exact p.lt
 | dK kvs=>obtain ⟨_,_,_,_,o,_,_,e,_⟩:=x; exact Heap.lt_size e
 | dT kvs=>obtain ⟨_,_,_,_,o,_,_,e,_⟩:=x; exact Heap.lt_size e
 | set S n=>obtain ⟨o,_,_,_,e,_⟩:=x; exact Heap.lt_size e
 | ins C dx fs=>obtain ⟨_,_,_,e,_⟩:=x; exact Heap.lt_size e
 | own y=>obtain ⟨_,e⟩:=x; exact Heap.lt_size e
 | xd fs=>obtain ⟨_,⟨_,_,_,e,_⟩,_⟩:=x; exact Heap.lt_size e
 | rng lo hi=>obtain ⟨_,_,_,e⟩:=x; exact Heap.lt_size e
 | frz ob u=>obtain ⟨e,_⟩:=x; exact Heap.lt_size e
 | tbl ps q=>obtain ⟨e,_⟩:=x; exact Heap.lt_size e
 | met f y=>exact Heap.lt_size (show h.get? a=some _ from x)
 | ext φ=>obtain ⟨_,⟨_,e⟩,_⟩:=x; exact Heap.lt_size e
theorem Paired.mapP {α β:Type} {F G : α→β→Prop}:∀ {l₁:List α} {l₂:List β},Paired F l₁ l₂→(∀ a b,F a b→G a b)→Paired G l₁ l₂
 | _,_,.nil,_=>.nil
 | _,_,.cons r t,f=>.cons (f _ _ r) (Paired.mapP t f)
theorem bE.stay (x:bE P w H h a o) (k:∀ b u,(b=a∨H b=some (.own a))→h.get? b=some u→h'.get? b=some u)
 (ho:∀ b,H b=some (.own a)→H' b=some (.own a)) (ht:∀ b xs,H b=some (.tup xs)→H' b=some (.tup xs)) (hf:∀ b o u,H b=some (.frz o u)→H' b=some (.frz o u)):bE P w H' h' a o:=by
 induction o with
 | lst xs=>obtain ⟨z,its,n,r,e⟩:=x; exact ⟨z,its,n,r,k _ _ (.inl rfl) e⟩
 | tup xs=>obtain ⟨z,its,r,ob,e,c⟩:=x; exact ⟨z,its,r,ob,k _ _ (.inl rfl) e,c⟩
 | dK kvs=>obtain ⟨z,y,vs,r,ob,es,ep,e,c⟩:=x; exact ⟨z,y,vs,r,ob,es,ep,k _ _ (.inl rfl) e,c⟩
 | dT kvs =>
  obtain ⟨z,y,xs,r,ob,es,ep,e,c⟩:=x
  exact ⟨z,y,xs,Paired.mapP r fun p q z=>⟨z.1,ht _ _ z.2.1,z.2.2⟩,ob,es,ep,k _ _ (.inl rfl) e,c⟩
 | set S n=>obtain ⟨ob,es,ep,t,e,c⟩:=x; exact ⟨ob,es,ep,t,k _ _ (.inl rfl) e,c⟩
 | ins C dx fs =>
  obtain ⟨d,z,ne,e,mA,⟨od,es,ep,e2,c⟩,r⟩:=x
  exact ⟨ho _ d,z,ne,k _ _ (.inl rfl) e,mA,⟨od,es,ep,k _ _ (.inr d) e2,c⟩,r⟩
 | own y=>obtain ⟨ob,e⟩:=x; exact ⟨ob,k _ _ (.inl rfl) e⟩
 | xd fs=>obtain ⟨mA,⟨od,es,ep,e,c⟩,r⟩:=x; exact ⟨mA,⟨od,es,ep,k _ _ (.inl rfl) e,c⟩,r⟩
 | rng lo hi=>obtain ⟨t,u,v,e⟩:=x; exact ⟨t,u,v,k _ _ (.inl rfl) e⟩
 | frz ob u ih=>obtain ⟨e,q⟩:=x; exact ⟨k _ _ (.inl rfl) e,ih q⟩
 | tbl ps q=>obtain ⟨e,v⟩:=x; exact ⟨k a _ (.inl rfl) e,v.mono hf⟩
 | met f y =>
  have e:h.get? a=some (PySem.W.methodObj (.ref f) (.ref y)):=x
  show h'.get? a=some (PySem.W.methodObj (.ref f) (.ref y))
  exact k a _ (.inl rfl) e
 | ext φ=>obtain ⟨p,⟨o,e⟩,st⟩:=x; exact ⟨st _ _ p fun o q=>k _ _ (.inl rfl) q,⟨o,k _ _ (.inl rfl) e⟩,st⟩
theorem HOk.lt (x:HOk P w H h) (e:H a=some o):a<h.objs.size:=(x a o e).lt
theorem HOk.fresh (x:HOk P w H h) (e:h.objs.size≤a):H a=none:=by
 cases q:H a with
 | none=>rfl
 | some u=>exact absurd (Nat.lt_of_lt_of_le (x.lt q) e) (Nat.lt_irrefl _)
theorem HOk.kept (x:HOk P w H h) (k:∀ b u,h.get? b=some u→h'.get? b=some u):HOk P w H h':=fun a o e =>
 (x a o e).stay (fun b u _ q=>k b u q) (fun _ q=>q) (fun _ _ q=>q) fun _ _ _ q=>q
theorem HOk.laid (x:HOk P w H h) (k:∀ b u,h.get? b=some u→h'.get? b=some u) (hp:h.objs.size≤a) (new:bE P w (upd H a o) h' a o):HOk P w (upd H a o) h':=fun b u e=>by
 have hn:=x.fresh hp
 by_cases hb:b=a
 ·subst hb; rw [ax] at e; cases e; exact new
 ·rw [ag hb] at e
  exact (x b u e).stay (fun c v _ q=>k c v q) (fun c q=>by rw [ag (am q hn)]; exact q) (fun c xs q=>by rw [ag (am q hn)]; exact q) fun c ob u q=>by rw [ag (am q hn)]; exact q
end
def Rd (H:Hp) (a:Addr) (u:HO):Prop:=H a=some u∨∃ o,H a=some (.frz o u)
theorem Rd.ok {P:Program} {w:World} {H:Hp} {h:Heap} {a:Addr} {u:HO} (r:Rd H a u) (x:HOk P w H h):bE P w H h a u:=by
 rcases r with r | ⟨o,r⟩
 ·exact x a u r
 ·obtain ⟨_,q⟩:=x a _ r
  exact q
def Mut:Option HO→Prop
 | some (.lst _)=>True
 | some (.dK _)=>True
 | some (.dT _)=>True
 | some (.set _ _)=>True
 | some (.ins _ _ _)=>True
 | some (.ext _)=>True
 | _=>False
section
variable {P:Program} {w:World} {H:Hp} {h h':Heap} {x e:Addr} {o':HO}
theorem HOk.write (ok:HOk P w H h) (mu:Mut (H x)) (he:e=x∨H e=some (.own x)) (k:∀ b u,b≠e→h.get? b=some u→h'.get? b=some u) (heo:∃ u,h'.get? e=some u)
 (new:bE P w (upd H x o') h' x o'):HOk P w (upd H x o') h':=fun b u q=>by
 have nown:∀ c y,H c=some (.own y)→c≠x:=fun c y r z=>by subst z; rw [r] at mu; exact mu
 have ntup:∀ c xs,H c=some (.tup xs)→c≠x:=fun c xs r z=>by subst z; rw [r] at mu; exact mu
 have nfrz:∀ c ob u,H c=some (.frz ob u)→c≠x:=fun c ob u r z=>by subst z; rw [r] at mu; exact mu
 by_cases hb:b=x
 ·subst hb; rw [ax] at q; cases q; exact new
 ·rw [ag hb] at q
  by_cases hbe:b=e
  ·have q':H b=some (.own x):=by
    rcases he with z | z
    ·exact absurd (hbe.trans z) hb
    ·rw [hbe]; exact z
   rw [q] at q'; cases q'
   obtain ⟨v,hv⟩:=heo
   exact ⟨v,by rw [hbe]; exact hv⟩
  ·refine (ok b u q).stay (fun c v hc r=>k c v ?_ r) (fun c r=>by rw [ag (nown c b r)]; exact r) (fun c xs r=>by rw [ag (ntup c xs r)]; exact r) fun c ob u r=>by rw [ag (nfrz c ob u r)]; exact r
   rcases hc with rfl | hc
   ·exact hbe
   ·rintro rfl
    rcases he with z | z
    ·exact nown c b hc z
    ·rw [hc] at z; cases z; exact hb rfl
end
structure Un (fs ex:List Addr) (H H':Hp) (h h':Heap):Prop where
 keep:∀ b o,h.get? b=some o→H b=none→b ∉ fs→b ∉ ex→h'.get? b=some o
 slot:∀ b o,h.get? b=some o→H b=none→b∈fs→b ∉ ex→∃ sl,h'.get? b=some { o with slots:=sl }
 free:∀ b o,h.get? b=some o→H b=none→b ∉ ex→H' b=none
 there:∀ b o,h.get? b=some o→b ∉ ex→∃ o',h'.get? b=some o'
 tups:∀ b xs,H b=some (.tup xs)→H' b=some (.tup xs)
 frzs:∀ b o u,H b=some (.frz o u)→H' b=some (.frz o u)
 tbls:∀ b ps q,H b=some (.tbl ps q)→∃ more,H' b=some (.tbl (ps++more) q)
section
variable {fs fs' ex ex':List Addr} {H H1 H2:Hp} {h h1 h2 h':Heap} {a x e:Addr} {o:HO}
theorem Un.any (u:Un fs ex H H1 h h1) {b:Addr} {ob:Obj} (q:h.get? b=some ob) (n:H b=none) (hx:b ∉ ex):∃ sl,h1.get? b=some { ob with slots:=sl }:=by
 by_cases hb:b∈fs
 ·exact u.slot b ob q n hb hx
 ·exact ⟨ob.slots,u.keep b ob q n hb hx⟩
theorem Un.kept (k:∀ b u,h.get? b=some u→h'.get? b=some u):Un fs ex H H h h' :=
 ⟨fun b ob q _ _ _=>k b ob q,fun b ob q _ _ _=>⟨ob.slots,k b ob q⟩,fun _ _ _ n _=>n,fun b ob q _=>⟨ob,k b ob q⟩,fun _ _ q=>q,fun _ _ _ q=>q,fun _ ps _ q=>⟨#[],by rw [q]; simp⟩⟩
theorem Un.refl:Un fs ex H H h h:=Un.kept fun _ _ q=>q
theorem Un.laid (k:∀ b u,h.get? b=some u→h'.get? b=some u) (hp:h.objs.size≤a) (hn:H a=none):Un fs ex H (upd H a o) h h' where
 keep:=fun b u q _ _ _=>k b u q
 slot:=fun b u q _ _ _=>⟨u.slots,k b u q⟩
 free:=fun b u q n _=>by rw [ag (Nat.ne_of_lt (Nat.lt_of_lt_of_le (Heap.lt_size q) hp))]; exact n
 there:=fun b u q _=>⟨u,k b u q⟩
 tups:=fun b xs q=>by rw [ag (am q hn)]; exact q
 frzs:=fun b u xs q=>by rw [ag (am q hn)]; exact q
 tbls:=fun b ps _ q=>⟨#[],by rw [ag (am q hn),q]; simp⟩
theorem Un.write (mu:Mut (H x)) (he:e=x∨H e=some (.own x)) (k:∀ b u,b≠e→h.get? b=some u→h'.get? b=some u) (heo:∃ u,h'.get? e=some u):Un fs ex H (upd H x o) h h':=by
 have hx:∀ b,H b=none→b≠x:=fun b n z=>by subst z; rw [n] at mu; exact mu
 have hb:∀ b,H b=none→b≠e:=fun b n z=>by
  subst z
  rcases he with r | r
  ·exact hx b n r
  ·rw [n] at r; cases r
 have hm:∀ b u,H b=some u→¬ Mut (some u)→b≠x:=fun b u q nm z=>by subst z; rw [q] at mu; exact nm mu
 refine ⟨fun b u q n _ _=>k b u (hb b n) q,fun b u q n _ _=>⟨u.slots,k b u (hb b n) q⟩,fun b u q n _=>by rw [ag (hx b n)]; exact n,fun b u q _=>?_,
  fun b xs q=>by rw [ag (hm b _ q fun z=>z)]; exact q,fun b u xs q=>by rw [ag (hm b _ q fun z=>z)]; exact q,fun b ps _ q=>⟨#[],by rw [ag (hm b _ q fun z=>z),q]; simp⟩⟩
 by_cases hbe:b=e
 ·subst hbe; exact heo
 ·exact ⟨u,k b u hbe q⟩
end
def mU (v:Value):Obj:=⟨v,none,.freed,#[]⟩
def mP (h:Heap) (H:Hp) (i:Addr):Obj:=match H i with
 | some (.tbl _ q)=>mU (.str q 0)
 | some _=>mU .none
 | none=>match h.get? i with
  | some o=>o
  | none=>mU .none
def eW (h:Heap) (H:Hp):Heap:=⟨Array.ofFn (n:=h.objs.size) fun i=>mP h H i,h.life⟩
theorem f8 (h:Heap) (H:Hp):(eW h H).objs.size=h.objs.size:=by simp [eW]
theorem jU {h:Heap} {H:Hp} {b:Addr} {o:Obj} (e:(eW h H).objs[b]? = some o):b<h.objs.size∧o=mP h H b:=by
 obtain ⟨hb,e⟩:=Array.getElem?_eq_some_iff.mp e
 rw [f8] at hb
 refine ⟨hb,?_⟩
 rw [← e]; simp [eW]
theorem nofree {h:Heap} {b:Addr} {o:Obj} (e:h.get? b=some o):h.objs[b]? = some o∧o.data≠.freed:=by
 unfold Heap.get? at e
 split at e
 ·cases e
 ·rename_i hn
  refine ⟨e,fun z=>?_⟩
  obtain ⟨c,d,da,sl⟩:=o
  have z:da = .freed:=z
  subst z
  exact hn c d sl e
theorem qO {h:Heap} {b:Addr} {o:Obj} (e:h.objs[b]? = some o) (n:o.data≠.freed):h.get? b=some o:=by
 unfold Heap.get?
 split
 ·rename_i c d sl e'
  rw [e] at e'; cases e'
  exact absurd rfl n
 ·exact e
theorem oX {h:Heap} {H:Hp} {b:Addr} {o:Obj} (e:h.get? b=some o) (n:H b=none):(eW h H).get? b=some o:=by
 have hb:b<(eW h H).objs.size:=by rw [f8]; exact Heap.lt_size e
 refine qO ?_ (nofree e).2
 rw [Array.getElem?_eq_getElem hb]
 have:(eW h H).objs[b]=mP h H b:=by simp [eW]
 rw [this]; unfold mP; rw [n,e]
theorem rk {h:Heap} {H:Hp} {b:Addr} {o:Obj} (e:(eW h H).get? b=some o):h.get? b=some o∧H b=none:=by
 obtain ⟨e1,nf⟩:=nofree e
 obtain ⟨_,e2⟩:=jU e1
 unfold mP at e2
 split at e2
 ·rw [e2] at nf; exact absurd rfl nf
 ·rw [e2] at nf; exact absurd rfl nf
 ·rename_i hn
  split at e2
  ·rename_i o' e3
   exact ⟨e3.trans (by rw [e2]),hn⟩
  ·rw [e2] at nf; exact absurd rfl nf
def TMk (base:Heap) (P:Addr) (q:Str):Prop:=base.objs[P]? = some (mU (.str q 0))
def TbM (base:Heap) (H:Hp):Prop:=∀ P q,TMk base P q→∃ ps,H P=some (.tbl ps q)
theorem TbM.un {base h h':Heap} {H H':Hp} {fs ex:List Addr} (x:TbM base H) (u:Un fs ex H H' h h'):TbM base H':=fun P q m=>let ⟨ps,z⟩:=x P q m; let ⟨more,y⟩:=u.tbls P ps q z; ⟨_,y⟩
theorem TbM.hid {h:Heap} {H:Hp}:TbM (eW h H) H:=fun P q m=>by
 obtain ⟨_,e⟩:=jU m
 unfold mP at e
 split at e
 ·rename_i ps q' hq
  have e:mU (.str q 0)=mU (.str q' 0):=e
  cases e; exact ⟨ps,hq⟩
 ·cases e
 ·split at e
  ·rename_i o e3
   have:=(nofree e3).2
   rw [← e] at this; exact absurd rfl this
  ·cases e
structure Mod (K:PySem.W.Frag) (mg:Str→Option Value) (base:Heap):Prop where
 kin:K.In base
 glob:base.Ns mainGlobals mg
 blt:∃ mb,base.Ns builtinsNs mb∧∀ x:Str,x ≠ "__name__" → mb x=bootBuiltins x
 nolimit:base.NoLimit
structure Cx where
 prog:Program
 w:World
 K:PySem.W.Frag
 mg:Str→Option Value
 base:Heap
 A:Around
 N:List Str
 s₀:Shared
 H₀:Hp
 env:Env
 outer:List Env
 stack:List Env
 ex:List Addr
 fn:Str→Bool
 calm:Bool
 pn:List (Addr×Obj)
 xe:Value→Shared→Prop
def frs (l:List Env):List Addr:=l.filterMap (·.frame)
abbrev Cx.fs (X:Cx):List Addr:=frs X.outer
def Vis (sc:Scope) (x:Str):Prop:=sc.names.lookup x=some .local∨sc.names.lookup x=some .cell∨sc.names.lookup x=some .free
def Loc (sc:Scope) (x:Str):Prop:=sc.names.lookup x=some .local∨sc.names.lookup x=some .cell
def Look (env:Env) (h:Heap) (m:Str→Option Value) (x:Str) (u:Value):Prop :=
 (env.kindOf x=some .local∧m x=some u)∨((env.kindOf x=some .cell∨env.kindOf x=some .free)∧∃ c,env.cells.lookup x=some c∧h.IsCell c (some u))
structure Cx.Ok (X:Cx):Prop where
 mod:Mod X.K X.mg X.base
 kind:X.env.scope.kind = .function
 glob:X.env.globals=mainGlobals
 blt:X.env.builtins=builtinsNs
 above:X.s₀.heap.objs.size≤X.env.locals
 inj:∀ x y c,X.env.cells.lookup x=some c→X.env.cells.lookup y=some c→x=y
 has:∀ x,(X.env.kindOf x=some .cell∨X.env.kindOf x=some .free)→∃ c,X.env.cells.lookup x=some c
 cab:∀ x c,X.fn x=true→X.env.cells.lookup x=some c→X.s₀.heap.objs.size≤c
 hd:X.calm=true→X.A.handled=none
 frames:X.A.frames=some X.stack
 stk:X.stack=X.outer∨(X.stack=X.env :: X.outer∧X.env.frame=some X.env.locals)
 exf:∀ b∈X.ex,b≠X.env.locals∧∀ x c,X.env.cells.lookup x=some c→c≠b
 bs:∀ b o,X.base.get? b=some o→X.s₀.heap.get? b=some o∧X.H₀ b=none
 bsz:X.base.objs.size≤X.s₀.heap.objs.size
 noex:∀ b o,X.base.get? b=some o→b ∉ X.ex
 exfs:∀ b∈X.ex,b ∉ X.fs
 funs:X.s₀.heap.FunFrames X.base X.outer
 frf:∀ b∈X.fs,X.H₀ b=none
 tb:TbM X.base X.H₀
structure Inv (X:Cx) (pins:List (Addr×Obj)) (σ:List (Option V)) (H:Hp) (s:Shared):Prop where
 ok:X.Ok
 os:s.os=X.s₀.os
 bare:AllBare s.gens
 base:Un X.fs X.ex X.H₀ H X.s₀.heap s.heap
 loc:∃ m,s.heap.Ns X.env.locals m∧∀ (i:Nat) (x:Str) (v:V),X.N[i]? = some x→σ[i]? = some (some v)→Vis X.env.scope x→∃ u,aU v u∧Look X.env s.heap m x u
 cell:∀ x c,X.env.cells.lookup x=some c→∃ v,s.heap.IsCell c v
 free:H X.env.locals=none
 freeC:∀ x c,X.env.cells.lookup x=some c→H c=none
 pin:∀ p∈X.pn++pins,s.heap.get? p.1=some p.2∧H p.1=none∧p.1≠X.env.locals∧p.1 ∉ X.fs∧∀ v,p.2.data≠.cell v
 hok:HOk X.prog X.w H s.heap
 len : σ.length=X.N.length
section
variable {X:Cx} {pins:List (Addr×Obj)} {σ:List (Option V)} {H H':Hp} {s:Shared} {h':Heap}
theorem Cx.Ok.nofr (ok:X.Ok) {b:Addr} {o:Obj} (e:X.base.get? b=some o):b ∉ X.fs:=fun hb=>by
 have:=(ok.funs.mem hb).1
 rw [e] at this; cases this
theorem Inv.bs (I:Inv X pins σ H s):∀ b o,X.base.get? b=some o→s.heap.get? b=some o∧H b=none:=fun b o e =>
 ⟨I.base.keep b o (I.ok.bs b o e).1 (I.ok.bs b o e).2 (I.ok.nofr e) (I.ok.noex b o e),I.base.free b o (I.ok.bs b o e).1 (I.ok.bs b o e).2 (I.ok.noex b o e)⟩
theorem Inv.bk (I:Inv X pins σ H s):∀ b o,X.base.get? b=some o→s.heap.get? b=some o:=fun b o e=>(I.bs b o e).1
theorem Inv.mod (I:Inv X pins σ H s):Mod X.K X.mg X.base:=I.ok.mod
theorem Inv.kIn (I:Inv X pins σ H s):X.K.In s.heap:=I.ok.mod.kin.keeps I.bk
theorem Inv.fr (I:Inv X pins σ H s):∃ m,Fr X.base X.env.locals s.heap m :=
 let ⟨m,hn,_⟩:=I.loc
 ⟨m,hn,I.bk,Nat.le_trans I.ok.bsz I.ok.above⟩
theorem Inv.lt (I:Inv X pins σ H s):X.env.locals<s.heap.objs.size:=let ⟨_,hn,_⟩:=I.loc; hn.lt
theorem Inv.sz (I:Inv X pins σ H s):X.s₀.heap.objs.size≤s.heap.objs.size:=Nat.le_trans I.ok.above (Nat.le_of_lt I.lt)
theorem Inv.nofs (I:Inv X pins σ H s) {a:Addr} (h:s.heap.objs.size≤a):a ∉ X.fs:=fun hb=>by
 obtain ⟨_,o,ho,_⟩:=I.ok.funs.mem hb
 exact absurd (Nat.lt_of_lt_of_le (Heap.lt_size ho) (Nat.le_trans I.sz h)) (Nat.lt_irrefl _)
theorem Inv.cne (I:Inv X pins σ H s):∀ x c,X.env.cells.lookup x=some c→c≠X.env.locals:=fun x c e z=>by
 obtain ⟨v,o,ho,hd⟩:=I.cell x c e
 obtain ⟨m,⟨o',es,ep,ho',hd',_⟩,_⟩:=I.loc
 rw [z,ho'] at ho; cases ho; rw [hd'] at hd; cases hd
theorem Inv.funs (I:Inv X pins σ H s):s.heap.FunFrames X.base X.outer:=by
 have all:∀ (l:List Env),(∀ b∈frs l,b∈X.fs)→X.s₀.heap.FunFrames X.base l→s.heap.FunFrames X.base l:=by
  intro l
  induction l with
  | nil=>intro _ _; trivial
  | cons env r ih =>
   intro hs hl
   obtain ⟨hk,⟨L,o,hf,hn,ho,hd⟩,hr⟩:=hl
   have hL:L∈X.fs:=hs L (by unfold frs; rw [List.filterMap_cons,hf]; exact List.mem_cons_self)
   obtain ⟨sl,e⟩:=I.base.slot L o ho (I.ok.frf L hL) hL fun z=>I.ok.exfs L z hL
   exact ⟨hk,⟨L,_,hf,hn,e,hd⟩,ih (fun b hb=>hs b (by unfold frs; rw [List.filterMap_cons,hf]; exact List.mem_cons_of_mem _ hb)) hr⟩
 exact all X.outer (fun _ hb=>hb) I.ok.funs
theorem Inv.stack (I:Inv X pins σ H s):s.heap.FunFrames X.base X.stack:=by
 rcases I.ok.stk with e | ⟨e,hf⟩
 ·rw [e]; exact I.funs
 ·rw [e]
  obtain ⟨m,hn,_⟩:=I.loc
  refine .cons (by rw [I.ok.kind]; decide) hf hn ?_ I.funs
  exact Heap.get?_none_of_le (Nat.le_trans I.ok.bsz I.ok.above)
theorem Inv.stkSub (I:Inv X pins σ H s):∀ b∈frs X.stack,b∈X.env.locals :: X.fs:=fun b hb=>by
 rcases I.ok.stk with e | ⟨e,hf⟩
 ·rw [e] at hb; exact List.mem_cons_of_mem _ hb
 ·rw [e] at hb
  unfold frs at hb
  rw [List.filterMap_cons,hf] at hb
  exact hb
theorem Inv.stkFree (I:Inv X pins σ H s):∀ b∈frs X.stack,H b=none:=fun b hb=>by
 rcases List.mem_cons.mp (I.stkSub b hb) with e | hb
 ·rw [e]; exact I.free
 ·obtain ⟨_,o,ho,_⟩:=I.ok.funs.mem hb
  exact I.base.free b o ho (I.ok.frf b hb) fun z=>I.ok.exfs b z hb
theorem Inv.step {g':Array GenState} {t':Nat} {d':Drawn} {ch:List Addr} (I:Inv X pins σ H s)
 (hch:∀ b∈ch,(b∈X.ex∨X.s₀.heap.objs.size≤b)∧b≠X.env.locals∧(∀ x c,X.env.cells.lookup x=some c→c≠b)∧∀ p∈X.pn++pins,p.1≠b)
 (keep:∀ b o,b≠X.env.locals→b ∉ X.fs→b ∉ ch→s.heap.get? b=some o→H b=none→h'.get? b=some o)
 (slot:∀ b o,b≠X.env.locals→b∈X.fs→b ∉ ch→s.heap.get? b=some o→H b=none→∃ sl,h'.get? b=some { o with slots:=sl }) (free:∀ b o,b ∉ ch→s.heap.get? b=some o→H b=none→H' b=none)
 (there:∀ b o,b ∉ ch→s.heap.get? b=some o→∃ o',h'.get? b=some o')
 (tups:∀ b xs,H b=some (.tup xs)→H' b=some (.tup xs)) (frzs:∀ b o u,H b=some (.frz o u)→H' b=some (.frz o u)) (tbls:∀ b ps q,H b=some (.tbl ps q)→∃ more,H' b=some (.tbl (ps++more) q))
 (ns:∀ m,s.heap.Ns X.env.locals m→h'.Ns X.env.locals m) (hok:HOk X.prog X.w H' h') (hg:AllBare g') :
 Inv X pins σ H' { s with heap:=h',gens:=g',drawn:=d',toks:=t' }:=by
 have neL:∀ b o,X.s₀.heap.get? b=some o→b≠X.env.locals:=fun b o e=>Nat.ne_of_lt (Nat.lt_of_lt_of_le (Heap.lt_size e) I.ok.above)
 have neC:∀ b o,X.s₀.heap.get? b=some o→b ∉ X.ex→b ∉ ch:=fun b o e hx hb=>by
  rcases (hch b hb).1 with z | z
  ·exact hx z
  ·exact absurd (Nat.lt_of_lt_of_le (Heap.lt_size e) z) (Nat.lt_irrefl _)
 have cellK:∀ x c,X.env.cells.lookup x=some c→∀ v,s.heap.IsCell c v→h'.IsCell c v:=fun x c e v ⟨o,ho,hd⟩=>by
  have nch:c ∉ ch:=fun z=>(hch c z).2.2.1 x c e rfl
  by_cases hc:c∈X.fs
  ·obtain ⟨sl,q⟩:=slot c o (I.cne x c e) hc nch ho (I.freeC x c e)
   exact ⟨_,q,hd⟩
  ·exact ⟨o,keep c o (I.cne x c e) hc nch ho (I.freeC x c e),hd⟩
 refine ⟨I.ok,I.os,hg,⟨fun b o e n hb hx=>?_,fun b o e n hb hx=>?_,fun b o e n hx=>?_,fun b o e hx=>?_,fun b xs e=>tups b xs (I.base.tups b xs e),fun b o xs e=>frzs b o xs (I.base.frzs b o xs e),fun b ps q e=>?_⟩,?_,fun x c e=>?_,?_,fun x c e=>?_,fun p hp=>?_,hok,I.len⟩
 ·exact keep b o (neL b o e) hb (neC b o e hx) (I.base.keep b o e n hb hx) (I.base.free b o e n hx)
 ·obtain ⟨sl,e1⟩:=I.base.slot b o e n hb hx
  obtain ⟨sl',e2⟩:=slot b _ (neL b o e) hb (neC b o e hx) e1 (I.base.free b o e n hx)
  exact ⟨sl',e2⟩
 ·obtain ⟨o',e1⟩:=I.base.there b o e hx
  exact free b o' (neC b o e hx) e1 (I.base.free b o e n hx)
 ·obtain ⟨o',e1⟩:=I.base.there b o e hx
  exact there b o' (neC b o e hx) e1
 ·obtain ⟨m1,e1⟩:=I.base.tbls b ps q e
  obtain ⟨m2,e2⟩:=tbls b _ q e1
  exact ⟨m1++m2,by rw [e2,Array.append_assoc]⟩
 ·obtain ⟨m,hn,hl⟩:=I.loc
  refine ⟨m,ns m hn,fun i x v e1 e2 e3=>?_⟩
  obtain ⟨u,r,l⟩:=hl i x v e1 e2 e3
  refine ⟨u,r,?_⟩
  rcases l with l | ⟨k,c,e,z⟩
  ·exact .inl l
  ·exact .inr ⟨k,c,e,cellK x c e _ z⟩
 ·obtain ⟨v,z⟩:=I.cell x c e
  exact ⟨v,cellK x c e v z⟩
 ·obtain ⟨m,⟨o,_,_,ho,_⟩,_⟩:=I.loc
  exact free _ o (fun z=>(hch _ z).2.1 rfl) ho I.free
 ·obtain ⟨v,o,ho,hd⟩:=I.cell x c e
  exact free c o (fun z=>(hch c z).2.2.1 x c e rfl) ho (I.freeC x c e)
 ·obtain ⟨e,n,ne,nf,d⟩:=I.pin p hp
  have nch:p.1 ∉ ch:=fun z=>(hch p.1 z).2.2.2 p hp rfl
  exact ⟨keep p.1 p.2 ne nf nch e n,free p.1 p.2 nch e n,ne,nf,d⟩
theorem Inv.un {t':Nat} (I:Inv X pins σ H s) (u:Un X.fs [] H H' s.heap h') (hok:HOk X.prog X.w H' h'):Inv X pins σ H' { s with heap:=h',toks:=t' }:=by
 obtain ⟨m,⟨o,es,ep,ho,r⟩,_⟩:=id I.loc
 obtain ⟨sl,hL⟩:=u.any ho I.free (by simp)
 exact I.step (g':=s.gens) (d':=s.drawn) (ch:=[]) (fun _ z=>nomatch z) (fun b o _ hb _ e n=>u.keep b o e n hb (by simp)) (fun b o _ hb _ e n=>u.slot b o e n hb (by simp)) (fun b o _ e n=>u.free b o e n (by simp)) (fun b o _ e=>u.there b o e (by simp)) u.tups u.frzs u.tbls (fun m' hm=>by
  obtain ⟨o',es',ep',ho',r'⟩:=hm
  rw [ho] at ho'; cases ho'
  exact ⟨_,es',ep',hL,r'⟩) hok I.bare
theorem Inv.call {g':Array GenState} {t':Nat} {d':Drawn} {ch:List Addr} (I:Inv X pins σ H s) (u:Un (frs X.stack) ch H H' s.heap h') (hok:HOk X.prog X.w H' h') (hg:AllBare g')
 (hch:∀ b∈ch,(b∈X.ex∨X.s₀.heap.objs.size≤b)∧b≠X.env.locals∧(∀ x c,X.env.cells.lookup x=some c→c≠b)∧∀ p∈X.pn++pins,p.1≠b) :
 Inv X pins σ H' { s with heap:=h',gens:=g',drawn:=d',toks:=t' }:=by
 obtain ⟨m,⟨o,es,ep,ho,r⟩,_⟩:=id I.loc
 obtain ⟨sl,hL⟩:=u.any ho I.free fun z=>(hch _ z).2.1 rfl
 exact I.step (ch:=ch) hch (fun b o hL hb hc e n=>u.keep b o e n (fun z=>(List.mem_cons.mp (I.stkSub b z)).elim hL hb) hc) (fun b o _ _ hc e n=>u.any e n hc) (fun b o hc e n=>u.free b o e n hc) (fun b o hc e=>u.there b o e hc) u.tups u.frzs u.tbls (fun m' hm=>by
  obtain ⟨o',es',ep',ho',r'⟩:=hm
  rw [ho] at ho'; cases ho'
  exact ⟨_,es',ep',hL,r'⟩) hok hg
theorem Inv.turned {t':Nat} {it:Addr} (I:Inv X pins σ H s) (k:∀ b o,b≠it→s.heap.get? b=some o→h'.get? b=some o) (hn:H it=none) (hL:it≠X.env.locals)
 (h1:it∈X.ex∨X.s₀.heap.objs.size≤it) (h2:∀ x c,X.env.cells.lookup x=some c→c≠it) (h3:∀ p∈X.pn++pins,p.1≠it):Inv X pins σ H { s with heap:=h',toks:=t' }:=by
 have nit:∀ b u,H b=some u→b≠it:=fun b u e z=>by rw [z,hn] at e; cases e
 refine I.step (g':=s.gens) (d':=s.drawn) (ch:=[it]) (fun b hb=>?_) (fun b o _ _ hc e _=>k b o (fun z=>hc (by simp [z])) e) (fun b o _ _ hc e _=>⟨o.slots,k b o (fun z=>hc (by simp [z])) e⟩) (fun _ _ _ _ n=>n)
  (fun b o hc e=>⟨o,k b o (fun z=>hc (by simp [z])) e⟩) (fun _ _ e=>e) (fun _ _ _ e=>e) (fun b ps _ e=>⟨#[],by rw [e]; simp⟩) (fun m hm=>?_) (fun b u e=>?_) I.bare
 ·have e:b=it:=by simpa using hb
  subst e
  exact ⟨h1,hL,h2,h3⟩
 ·obtain ⟨o,es,ep,ho,r⟩:=hm
  exact ⟨o,es,ep,k _ o (Ne.symm hL) ho,r⟩
 ·refine (I.hok b u e).stay (fun c v hc q=>k c v ?_ q) (fun _ q=>q) (fun _ _ q=>q) fun _ _ _ q=>q
  rcases hc with z | z
  ·rw [z]; exact nit b u e
  ·exact nit c _ z
theorem Inv.tok (I:Inv X pins σ H s) (t:Nat):Inv X pins σ H { s with toks:=t }:=I.un (h':=s.heap) (t':=t) Un.refl I.hok
theorem Inv.kept {t':Nat} (I:Inv X pins σ H s) (k:∀ b u,s.heap.get? b=some u→h'.get? b=some u):Inv X pins σ H { s with heap:=h',toks:=t' }:=I.un (Un.kept k) (I.hok.kept k)
theorem Inv.laid {a:Addr} {o:HO} {t':Nat} (I:Inv X pins σ H s) (k:∀ b u,s.heap.get? b=some u→h'.get? b=some u) (hp:s.heap.objs.size≤a) (new:bE X.prog X.w (upd H a o) h' a o) :
 Inv X pins σ (upd H a o) { s with heap:=h',toks:=t' }:=I.un (Un.laid k hp (I.hok.fresh hp)) (I.hok.laid k hp new)
theorem Inv.write {x e:Addr} {o:HO} {t':Nat} (I:Inv X pins σ H s) (mu:Mut (H x)) (he:e=x∨H e=some (.own x)) (k:∀ b u,b≠e→s.heap.get? b=some u→h'.get? b=some u) (heo:∃ u,h'.get? e=some u)
 (new:bE X.prog X.w (upd H x o) h' x o):Inv X pins σ (upd H x o) { s with heap:=h',toks:=t' }:=I.un (Un.write mu he k heo) (I.hok.write mu he k heo new)
theorem Inv.weak {σ':List (Option V)} (I:Inv X pins σ H s) (hl : σ'.length=σ.length) (w:∀ (i:Nat) v,σ'[i]? = some (some v)→σ[i]? = some (some v)):Inv X pins σ' H s :=
 ⟨I.ok,I.os,I.bare,I.base,let ⟨m,hn,hl'⟩:=I.loc; ⟨m,hn,fun i x v e1 e2 e3=>hl' i x v e1 (w i v e2) e3⟩,I.cell,I.free,I.freeC,I.pin,I.hok,hl.trans I.len⟩
theorem Inv.pins_of {pins':List (Addr×Obj)} (I:Inv X pins σ H s) (h:∀ p∈pins',s.heap.get? p.1=some p.2∧H p.1=none∧p.1≠X.env.locals∧p.1 ∉ X.fs∧∀ v,p.2.data≠.cell v):Inv X pins' σ H s :=
 ⟨I.ok,I.os,I.bare,I.base,I.loc,I.cell,I.free,I.freeC,fun p hp=>(List.mem_append.mp hp).elim (fun z=>I.pin p (List.mem_append_left _ z)) (h p),I.hok,I.len⟩
theorem kj {N:List Str} (hN:N.Nodup) {i j:Nat} {x:Str} (a:N[i]? = some x) (b:N[j]? = some x):i=j:=by
 obtain ⟨h1,e1⟩:=List.getElem?_eq_some_iff.mp a
 obtain ⟨h2,e2⟩:=List.getElem?_eq_some_iff.mp b
 exact (List.getElem_inj hN).mp (e1.trans e2.symm)
theorem iL {M:Model} {A:Around} {E:Value→Shared→Prop} {i:Nat} {x:Str} {v:V} {u:Value} {Q:Unit→Shared→Prop} (I:Inv X pins σ H s) (hN:X.N.Nodup) (hi:X.N[i]? = some x) (hx:Loc X.env.scope x) (r:aU v u)
 (h:∀ s',Inv X pins (σ.set i (some v)) H s'→(∃ a,Heap.SameBut a s.heap s'.heap∧(a=X.env.locals∨X.env.cells.lookup x=some a))→Q () s') (hf:X.fn x=true∨X.env.scope.names.lookup x=some .local:=by first | exact .inl rfl | exact .inr rfl | assumption):wpAny M A (storeName X.env x u) Q E s:=by
 obtain ⟨m,hn,hl⟩:=id I.loc
 have hcls:(X.env.scope.kind == .class||(X.env.scope.kind == .module&&X.env.locals != X.env.globals))=false:=by rw [I.ok.kind]; rfl
 have hiσ:i<σ.length:=by rw [I.len]; exact (List.getElem?_eq_some_iff.mp hi).1
 have cne:=I.cne
 have tracked:∀ {a:Addr} {h':Heap},(∃ o,s.heap.get? a=some o∧H a=none)→Heap.SameBut a s.heap h'→HOk X.prog X.w H h':=fun {a h'} ha hs b ob e=>by
  obtain ⟨_,_,hfree⟩:=ha
  refine (I.hok b ob e).stay (fun c w' hc q=>(hs.2 c ?_).trans q) (fun _ q=>q) (fun _ _ q=>q) fun _ _ _ q=>q
  rintro rfl
  rcases hc with rfl | hc
  ·rw [hfree] at e; cases e
  ·rw [hfree] at hc; cases hc
 rcases hx with hk | hk
 ·refine wpAny_storeName_local hk hn (fun h' hn' hs=>?_) hcls
  obtain ⟨oL,_,_,hoL,_⟩:=id hn
  refine h _ ⟨I.ok,I.os,I.bare,⟨fun b o e n hb hx=>?_,fun b o e n hb hx=>?_,I.base.free,fun b o e hx=>?_,I.base.tups,I.base.frzs,I.base.tbls⟩,⟨_,hn',fun j y v' e1 e2 e3=>?_⟩,fun y c e=>?_,I.free,I.freeC,fun p hp=>?_,tracked ⟨oL,hoL,I.free⟩ hs,by simpa using I.len⟩ ⟨_,hs,.inl rfl⟩
  ·exact (hs.2 b (Nat.ne_of_lt (Nat.lt_of_lt_of_le (Heap.lt_size e) I.ok.above))).trans (I.base.keep b o e n hb hx)
  ·obtain ⟨sl,e1⟩:=I.base.slot b o e n hb hx
   exact ⟨sl,(hs.2 b (Nat.ne_of_lt (Nat.lt_of_lt_of_le (Heap.lt_size e) I.ok.above))).trans e1⟩
  ·obtain ⟨o',e1⟩:=I.base.there b o e hx
   exact ⟨o',(hs.2 b (Nat.ne_of_lt (Nat.lt_of_lt_of_le (Heap.lt_size e) I.ok.above))).trans e1⟩
  ·by_cases hj:j=i
   ·subst hj
    rw [hi] at e1; cases e1
    rw [List.getElem?_set_self hiσ] at e2
    cases e2
    exact ⟨u,r,.inl ⟨hk,by simp⟩⟩
   ·rw [List.getElem?_set_ne (Ne.symm hj)] at e2
    obtain ⟨u',r',q⟩:=hl j y v' e1 e2 e3
    refine ⟨u',r',?_⟩
    rcases q with ⟨k,e⟩ | ⟨k,c,e,z⟩
    ·refine .inl ⟨k,?_⟩
     have:y≠x:=fun e=>hj (kj hN e1 (e ▸ hi))
     simp [this,e]
    ·exact .inr ⟨k,c,e,z.sameBut hs (cne y c e)⟩
  ·obtain ⟨w',z⟩:=I.cell y c e
   exact ⟨w',z.sameBut hs (cne y c e)⟩
  ·obtain ⟨e,n,ne,nf,d⟩:=I.pin p hp
   exact ⟨(hs.2 p.1 ne).trans e,n,ne,nf,d⟩
 ·have hfn:X.fn x=true:=by
   rcases hf with z | z
   ·exact z
   ·rw [z] at hk; cases hk
  obtain ⟨c,hc⟩:=I.ok.has x (.inl hk)
  obtain ⟨w',z⟩:=I.cell x c hc
  refine wpAny_storeName_cell I.ok.kind hk hc z (fun h' hc' hs=>?_)
  obtain ⟨oc,hoc,hocd⟩:=id z
  refine h { s with heap:=h' } ⟨I.ok,I.os,I.bare,⟨fun b o e n hb hx=>?_,fun b o e n hb hx=>?_,I.base.free,fun b o e hx=>?_,I.base.tups,I.base.frzs,I.base.tbls⟩,⟨m,hn.sameBut hs (Ne.symm (cne x c hc)),fun j y v' e1 e2 e3=>?_⟩,fun y c' e=>?_,I.free,I.freeC,fun p hp=>?_,tracked ⟨oc,hoc,I.freeC x c hc⟩ hs,by simpa using I.len⟩ ⟨c,hs,.inr hc⟩
  ·exact (hs.2 b (Nat.ne_of_lt (Nat.lt_of_lt_of_le (Heap.lt_size e) (I.ok.cab x c hfn hc)))).trans (I.base.keep b o e n hb hx)
  ·obtain ⟨sl,e1⟩:=I.base.slot b o e n hb hx
   exact ⟨sl,(hs.2 b (Nat.ne_of_lt (Nat.lt_of_lt_of_le (Heap.lt_size e) (I.ok.cab x c hfn hc)))).trans e1⟩
  ·obtain ⟨o',e1⟩:=I.base.there b o e hx
   exact ⟨o',(hs.2 b (Nat.ne_of_lt (Nat.lt_of_lt_of_le (Heap.lt_size e) (I.ok.cab x c hfn hc)))).trans e1⟩
  ·by_cases hj:j=i
   ·subst hj
    rw [hi] at e1; cases e1
    rw [List.getElem?_set_self hiσ] at e2
    cases e2
    exact ⟨u,r,.inr ⟨.inl hk,c,hc,hc'⟩⟩
   ·rw [List.getElem?_set_ne (Ne.symm hj)] at e2
    obtain ⟨u',r',q⟩:=hl j y v' e1 e2 e3
    refine ⟨u',r',?_⟩
    rcases q with q | ⟨k,c',e,z'⟩
    ·exact .inl q
    ·refine .inr ⟨k,c',e,z'.sameBut hs ?_⟩
     rintro rfl
     exact hj (kj hN e1 (I.ok.inj _ _ _ e hc ▸ hi))
  ·by_cases hcc:c'=c
   ·subst hcc; exact ⟨_,hc'⟩
   ·obtain ⟨w2,z2⟩:=I.cell y c' e
    exact ⟨w2,z2.sameBut hs hcc⟩
  ·obtain ⟨e,n,ne,nf,d⟩:=I.pin p hp
   refine ⟨(hs.2 p.1 ?_).trans e,n,ne,nf,d⟩
   intro q
   rw [q,hoc] at e
   have q':oc=p.2:=Option.some.inj e
   exact d w' (by rw [← q']; exact hocd)
theorem fu {M:Model} {A:Around} {E:Value→Shared→Prop} {i:Nat} {x:Str} {v:V} {u:Value} {Q:Unit→Shared→Prop} (I:Inv X pins σ H s) (hN:X.N.Nodup) (hi:X.N[i]? = some x) (hx:Loc X.env.scope x) (r:aU v u)
 (h:∀ s',Inv X pins (σ.set i (some v)) H s'→Q () s') (hf:X.fn x=true∨X.env.scope.names.lookup x=some .local:=by first | exact .inl rfl | exact .inr rfl | assumption):wpAny M A (storeName X.env x u) Q E s :=
 iL I hN hi hx r (fun s' I' _=>h s' I') hf
theorem Inv.call' {s':Shared} {ch:List Addr} (I:Inv X pins σ H s) (ho:s'.os=s.os) (u:Un (frs X.stack) ch H H' s.heap s'.heap) (hok:HOk X.prog X.w H' s'.heap) (hg:AllBare s'.gens)
 (hch:∀ b∈ch,(b∈X.ex∨X.s₀.heap.objs.size≤b)∧b≠X.env.locals∧(∀ x c,X.env.cells.lookup x=some c→c≠b)∧∀ p∈X.pn++pins,p.1≠b):Inv X pins σ H' s':=by
 obtain ⟨h',g',d',t',o'⟩:=s'
 have e:o'=s.os:=ho
 subst e
 exact I.call (g':=g') (t':=t') (d':=d') u hok hg hch
end
abbrev XK:=Value→Option Addr→Hp→Prop
abbrev St:=List (Option V)
abbrev VK:=V→Hp→Prop
abbrev TE:=St→Hp→VK→Prop
abbrev TT:=St→Hp→(Bool→Hp→Prop)→Prop
abbrev TA:=St→Hp→(List V→Hp→Prop)→Prop
structure Ends where
 nx:St→Hp→Prop
 rt:VK
 bk:St→Hp→Prop:=fun _ _=>False
 ct:St→Hp→Prop:=fun _ _=>False
abbrev TS:=Ends→St→Hp→Prop
def EP (X:Cx) (pins:List (Addr×Obj)) (σ:St) (Q:VK) (u:Value) (s':Shared):Prop:=∃ v H',Inv X pins σ H' s'∧aU v u∧Q v H'
def TP (X:Cx) (pins:List (Addr×Obj)) (σ:St) (Q:Bool→Hp→Prop) (b:Bool) (s':Shared):Prop:=∃ H',Inv X pins σ H' s'∧Q b H'
def AP (X:Cx) (pins:List (Addr×Obj)) (σ:St) (Q:List V→Hp→Prop) (us:List Value) (s':Shared):Prop:=∃ vs H',Inv X pins σ H' s'∧aI vs us∧Q vs H'
def SP (X:Cx) (pins:List (Addr×Obj)) (D:Ends) (f:Flow) (s':Shared):Prop :=
 match f with
 | .next=>∃ σ' H',Inv X pins σ' H' s'∧D.nx σ' H'
 | .brk=>∃ σ' H',Inv X pins σ' H' s'∧D.bk σ' H'
 | .cont=>∃ σ' H',Inv X pins σ' H' s'∧D.ct σ' H'
 | .ret u=>∃ v σ' H',Inv X pins σ' H' s'∧aU v u∧D.rt v H'
structure PE (X:Cx) (e:Expr) (t:TE):Prop where
 go:∀ (pins:List (Addr×Obj)) (s:Shared) (σ:St) (H:Hp) (Q:VK),Inv X pins σ H s→t σ H Q→wpAny (model X.prog X.w) X.A (eval e X.env) (EP X pins σ Q) X.xe s
instance {X:Cx} {e:Expr} {t:TE}:CoeFun (PE X e t) fun _=>∀ (pins:List (Addr×Obj)) (s:Shared) (σ:St) (H:Hp) (Q:VK),Inv X pins σ H s→t σ H Q→wpAny (model X.prog X.w) X.A (eval e X.env) (EP X pins σ Q) X.xe s:=⟨fun h=>h.go⟩
structure PT (X:Cx) (e:Expr) (t:TT):Prop where
 go:∀ (pins:List (Addr×Obj)) (s:Shared) (σ:St) (H:Hp) (Q:Bool→Hp→Prop),Inv X pins σ H s→t σ H Q→wpAny (model X.prog X.w) X.A (isTrue e X.env (eval e X.env)) (TP X pins σ Q) X.xe s
instance {X:Cx} {e:Expr} {t:TT}:CoeFun (PT X e t) fun _=>∀ (pins:List (Addr×Obj)) (s:Shared) (σ:St) (H:Hp) (Q:Bool→Hp→Prop),Inv X pins σ H s→t σ H Q→wpAny (model X.prog X.w) X.A (isTrue e X.env (eval e X.env)) (TP X pins σ Q) X.xe s:=⟨fun h=>h.go⟩
structure PW (X:Cx) (e:Expr) (t:TT):Prop where
 go:∀ (whole:Sem Value) (pins:List (Addr×Obj)) (s:Shared) (σ:St) (H:Hp) (Q:Bool→Hp→Prop),Inv X pins σ H s→t σ H Q→wpAny (model X.prog X.w) X.A (isTrue e X.env whole) (TP X pins σ Q) X.xe s
instance {X:Cx} {e:Expr} {t:TT}:CoeFun (PW X e t) fun _=>∀ (whole:Sem Value) (pins:List (Addr×Obj)) (s:Shared) (σ:St) (H:Hp) (Q:Bool→Hp→Prop),Inv X pins σ H s→t σ H Q→wpAny (model X.prog X.w) X.A (isTrue e X.env whole) (TP X pins σ Q) X.xe s:=⟨fun h=>h.go⟩
theorem PW.pt {X:Cx} {e:Expr} {t:TT} (h:PW X e t):PT X e t:=⟨h.go _⟩
structure PA (X:Cx) (es:List Expr) (t:TA):Prop where
 go:∀ (pos:Pos) (pins:List (Addr×Obj)) (s:Shared) (σ:St) (H:Hp) (Q:List V→Hp→Prop),Inv X pins σ H s→t σ H Q→wpAny (model X.prog X.w) X.A (spliced (backTo pos (starEach es X.env))) (AP X pins σ Q) X.xe s
instance {X:Cx} {es:List Expr} {t:TA}:CoeFun (PA X es t) fun _=>∀ (pos:Pos) (pins:List (Addr×Obj)) (s:Shared) (σ:St) (H:Hp) (Q:List V→Hp→Prop),Inv X pins σ H s→t σ H Q→wpAny (model X.prog X.w) X.A (spliced (backTo pos (starEach es X.env))) (AP X pins σ Q) X.xe s:=⟨fun h=>h.go⟩
structure PS (X:Cx) (st:Stmt) (t:TS):Prop where
 go:∀ (pins:List (Addr×Obj)) (s:Shared) (σ:St) (H:Hp) (D:Ends),Inv X pins σ H s→t D σ H→wpAny (model X.prog X.w) X.A (exec st X.env) (SP X pins D) X.xe s
instance {X:Cx} {st:Stmt} {t:TS}:CoeFun (PS X st t) fun _=>∀ (pins:List (Addr×Obj)) (s:Shared) (σ:St) (H:Hp) (D:Ends),Inv X pins σ H s→t D σ H→wpAny (model X.prog X.w) X.A (exec st X.env) (SP X pins D) X.xe s:=⟨fun h=>h.go⟩
structure PSs (X:Cx) (st:List Stmt) (t:TS):Prop where
 go:∀ (pins:List (Addr×Obj)) (s:Shared) (σ:St) (H:Hp) (D:Ends),Inv X pins σ H s→t D σ H→wpAny (model X.prog X.w) X.A (execs st X.env) (SP X pins D) X.xe s
instance {X:Cx} {st:List Stmt} {t:TS}:CoeFun (PSs X st t) fun _=>∀ (pins:List (Addr×Obj)) (s:Shared) (σ:St) (H:Hp) (D:Ends),Inv X pins σ H s→t D σ H→wpAny (model X.prog X.w) X.A (execs st X.env) (SP X pins D) X.xe s:=⟨fun h=>h.go⟩
theorem thn {α:Type} {t:Sem α} {Q Q' : α→Shared→Prop} {M:Model} {A:Around} {E:Value→Shared→Prop} {s:Shared} (h:wpAny M A t Q E s) (hQ:∀ a s,Q a s→Q' a s):wpAny M A t Q' E s:=wpAny_mono h hQ fun _ _ x=>x
section
variable {X:Cx}
theorem bin {a b:Expr} {ta tb:TE} (ha:PE X a ta) (hb:PE X b tb) {pins:List (Addr×Obj)} {s:Shared} {σ:St} {H:Hp} {R:V→V→Hp→Prop} (I:Inv X pins σ H s) (h:ta σ H fun x H1=>tb σ H1 fun y H2=>R x y H2)
 {α:Type} {Q : α→Shared→Prop} {f:Value→Value→Sem α}
 (hf:∀ v u s2 x y H2,Inv X pins σ H2 s2→aU x v→aU y u→R x y H2→wpAny (model X.prog X.w) X.A (f v u) Q X.xe s2) :
 wpAny (model X.prog X.w) X.A (eval a X.env) (fun v s₁=>wpAny (model X.prog X.w) X.A (eval b X.env) (fun u s₂=>wpAny (model X.prog X.w) X.A (f v u) Q X.xe s₂) X.xe s₁) X.xe s:=by
 refine thn (ha pins s σ H _ I h) fun v s1 ⟨x,H1,I1,r1,q1⟩=>?_
 refine thn (hb pins s1 σ H1 _ I1 q1) fun u s2 ⟨y,H2,I2,r2,q2⟩=>?_
 exact hf v u s2 x y H2 I2 r1 r2 q2
def tVar (i:Nat):TE:=fun σ H Q=>∃ v,σ[i]? = some (some v)∧Q v H
def tC (v:V):TE:=fun _ H Q=>Q v H
theorem bB {i:Nat} {x:Str} {pos:Pos} (hN:X.N[i]? = some x) (hv:Vis X.env.scope x) (hd:(x == ("__debug__":Str))=false:=by decide) (hcd:(x == ("__classdict__":Str))=false:=by decide):PE X (.Name x pos) (tVar i):=by
 (try refine ⟨?_⟩); intro pins s σ H Q I h
 obtain ⟨v,e,h⟩:=h
 obtain ⟨m,hn,hl⟩:=I.loc
 obtain ⟨u,r,l⟩:=hl i x v hN e hv
 have fin:EP X pins σ Q u s:=⟨v,H,I,r,h⟩
 rcases l with ⟨hk,hm⟩ | ⟨hk,c,hc,hcell⟩
 ·exact wpAny_Name (wpAny_loadName_local I.ok.kind hk hn hm fin) hd
 ·rcases hk with hk | hk
  ·exact wpAny_Name (wpAny_loadName_cell I.ok.kind hk hc hcell fin) hd
  ·exact wpAny_Name (wpAny_loadName_free I.ok.kind hk hc hcell fin hcd) hd
theorem nM {i j pos}:PE X (.Constant (.int i) j pos) (tC (.int i)):=⟨fun _ _ _ H _ I h=>wpAny_Constant_int ⟨.int i,H,I.tok _,⟨_,rfl⟩,h⟩⟩
theorem rG {b j pos}:PE X (.Constant (.bool b) j pos) (tC (.bl b)):=⟨fun _ _ _ H _ I h=>Constant_bool ⟨.bl b,H,I,rfl,h⟩⟩
theorem tO {j pos}:PE X (.Constant .none j pos) (tC .non):=⟨fun _ _ _ H _ I h=>Constant_none ⟨.non,H,I,rfl,h⟩⟩
def Gl (X:Cx) (x:Str):Prop:=X.env.kindOf x=some .globalImplicit
theorem jl {E:Value→Shared→Prop} {pins:List (Addr×Obj)} {s:Shared} {σ:St} {H:Hp} {x:Str} {u:Value} {pos:Pos} {Q:Value→Shared→Prop} (I:Inv X pins σ H s) (hg:Gl X x) (hm:X.mg x=some u) (h:Q u s)
 (hd:(x == ("__debug__":Str))=false:=by decide):wpAny (model X.prog X.w) X.A (eval (.Name x pos) X.env) Q E s :=
 Calls.Name_function_global I.ok.kind hg (Calls.loadGlobal_global (by rw [I.ok.glob]; exact I.mod.glob.keeps I.bk) hm h) hd
theorem fg {E:Value→Shared→Prop} {pins:List (Addr×Obj)} {s:Shared} {σ:St} {H:Hp} {x:Str} {u:Value} {pos:Pos} {Q:Value→Shared→Prop} (I:Inv X pins σ H s) (hg:Gl X x) (hm:X.mg x=none) (hv:bootBuiltins x=some u) (h:Q u s)
 (hn:x ≠ "__name__":=by decide) (hd:(x == ("__debug__":Str))=false:=by decide):wpAny (model X.prog X.w) X.A (eval (.Name x pos) X.env) Q E s:=by
 obtain ⟨mb,h1,h2⟩:=I.mod.blt
 exact Calls.Name_function_global I.ok.kind hg (Calls.loadGlobal_builtin (by rw [I.ok.glob]; exact I.mod.glob.keeps I.bk) hm (by rw [I.ok.blt]; exact h1.keeps I.bk) ((h2 x hn).trans hv) h) hd
theorem rh {x:Str} {v:V} {u:Value} {pos:Pos} (hg:Gl X x) (hm:X.mg x=some u) (r:aU v u) (hd:(x == ("__debug__":Str))=false:=by decide):PE X (.Name x pos) (tC v):=⟨fun _ _ _ H _ I h=>jl I hg hm ⟨v,H,I,r,h⟩ hd⟩
theorem bV {x:Str} {v:V} {u:Value} {pos:Pos} (hg:Gl X x) (hm:X.mg x=none) (hv:bootBuiltins x=some u) (r:aU v u) (hn:x ≠ "__name__":=by decide) (hd:(x == ("__debug__":Str))=false:=by decide):PE X (.Name x pos) (tC v):=⟨fun _ _ _ H _ I h=>fg I hg hm hv ⟨v,H,I,r,h⟩ hn hd⟩
variable {a b:Expr} {ta tb:TE} {pos:Pos}
def tB (t:TE):TT:=fun σ H Q=>t σ H fun x H1=>∃ c,x = .bl c∧Q c H1
theorem uh {e:Expr} {t:TE} (h:PE X e t) (he:∀ whole,isTrue e X.env whole=(do let v ← whole; standAt e.pos; holding [v] (truthy v)):=by intro _; rfl):PT X e (tB t):=by
 (try refine ⟨?_⟩); intro pins s σ H Q I hw
 refine isTrue_plain (thn (h pins s σ H _ I hw) fun v s1 ⟨x,H1,I1,r1,q1⟩=>?_) (he _)
 obtain ⟨d,rfl,q⟩:=q1
 cases r1
 exact wpAny_truthy_bool ⟨H1,I1,q⟩
variable {tA tB':TT} {rest:List Expr}
def tAnd (t u:TT):TT:=fun σ H Q=>t σ H fun c H1=>if c=true then u σ H1 Q else Q false H1
def tOr (t u:TT):TT:=fun σ H Q=>t σ H fun c H1=>if c=true then Q true H1 else u σ H1 Q
def tNot (t:TT):TT:=fun σ H Q=>t σ H fun c H1=>Q (!c) H1
theorem qK (ha:PT X a tA):PW X (.BoolOp .And [a] pos) tA:=by
 (try refine ⟨?_⟩); intro wh pins s σ H Q I h
 refine isTrue_and (thn (ha pins s σ H Q I h) fun c s1 e=>?_)
 cases c with
 | true=>exact isTrue_and_nil e
 | false=>exact e
theorem tK (ha:PT X a tA):PW X (.BoolOp .Or [a] pos) tA:=by
 (try refine ⟨?_⟩); intro wh pins s σ H Q I h
 refine isTrue_or (thn (ha pins s σ H Q I h) fun c s1 e=>?_)
 cases c with
 | false=>exact isTrue_or_nil e
 | true=>exact e
theorem t4 (ha:PT X a tA) (hb:PW X (.BoolOp .And (b :: rest) pos) tB'):PW X (.BoolOp .And (a :: b :: rest) pos) (tAnd tA tB'):=by
 (try refine ⟨?_⟩); intro wh pins s σ H Q I h
 refine isTrue_and (thn (ha pins s σ H _ I h) fun c s1 ⟨H1,I1,q1⟩=>?_)
 cases c with
 | true=>exact hb wh pins s1 σ H1 Q I1 q1
 | false=>exact ⟨H1,I1,q1⟩
theorem pw_or (ha:PT X a tA) (hb:PW X (.BoolOp .Or (b :: rest) pos) tB'):PW X (.BoolOp .Or (a :: b :: rest) pos) (tOr tA tB'):=by
 (try refine ⟨?_⟩); intro wh pins s σ H Q I h
 refine isTrue_or (thn (ha pins s σ H _ I h) fun c s1 ⟨H1,I1,q1⟩=>?_)
 cases c with
 | true=>exact ⟨H1,I1,q1⟩
 | false=>exact hb wh pins s1 σ H1 Q I1 q1
theorem ux (ha:PT X a tA):PT X (.UnaryOp .Not a pos) (tNot tA):=by
 (try refine ⟨?_⟩); intro pins s σ H Q I h
 exact isTrue_not (ha pins s σ H (fun c H1=>Q (!c) H1) I h)
def tAndV (ta tb:TE):TE:=fun σ H Q=>ta σ H fun x H1=>∃ c,x = .bl c∧if c=true then tb σ H1 Q else Q (.bl false) H1
def tNotV (ta:TE):TE:=fun σ H Q=>ta σ H fun x H1=>∃ c,x = .bl c∧Q (.bl (!c)) H1
theorem sh {op} {t:TE} (h:PE X a t):PE X (.BoolOp op [a] pos) t:=⟨fun pins s σ H Q I hw=>BoolOp_one (h pins s σ H Q I hw)⟩
theorem sJ (ha:PE X a ta) (hb:PE X (.BoolOp .And (b :: rest) pos) tb):PE X (.BoolOp .And (a :: b :: rest) pos) (tAndV ta tb):=by
 (try refine ⟨?_⟩); intro pins s σ H Q I h
 refine BoolOp_and (thn (ha pins s σ H _ I h) fun v s1 ⟨x,H1,I1,r1,q1⟩=>?_)
 obtain ⟨c,rfl,q1⟩:=q1
 cases r1
 refine wpAny_truthy_bool ?_
 cases c with
 | true=>exact hb pins s1 σ H1 Q I1 q1
 | false=>exact ⟨.bl false,H1,I1,rfl,q1⟩
theorem sj (ha:PE X a ta):PE X (.UnaryOp .Not a pos) (tNotV ta):=by
 (try refine ⟨?_⟩); intro pins s σ H Q I h
 refine UnaryOp_ (thn (ha pins s σ H _ I h) fun v s1 ⟨x,H1,I1,r1,q1⟩=>?_)
 obtain ⟨c,rfl,q1⟩:=q1
 cases r1
 exact not_of (wpAny_truthy_bool ⟨.bl (!c),H1,I1,rfl,q1⟩)
def tIf (t:TT) (ta tb:TE):TE:=fun σ H Q=>t σ H fun c H1=>if c=true then ta σ H1 Q else tb σ H1 Q
theorem nR {c:Expr} (hc:PT X c tA) (ha:PE X a ta) (hb:PE X b tb):PE X (.IfExp c a b pos) (tIf tA ta tb):=by
 (try refine ⟨?_⟩); intro pins s σ H Q I h
 refine wpAny_IfExp (thn (hc pins s σ H _ I h) fun d s1 ⟨H1,I1,q1⟩=>?_)
 cases d with
 | true=>exact ha pins s1 σ H1 Q I1 q1
 | false=>exact hb pins s1 σ H1 Q I1 q1
end
def SqL (K:PySem.W.Frag) (H:Hp) (a:Addr) (xs:List V):Prop :=
 Rd H a (.lst xs) ∨
  ∃ (o:Obj) (its:Array Value) (n:Nat),K.lookup a=some o∧o.cls = .type "list" ∧ o.dict=none∧o.data = .seq its n∧its.size≤sizeLine∧aI xs its.toList
def SqT (K:PySem.W.Frag) (H:Hp) (a:Addr) (xs:List V):Prop :=
 Rd H a (.tup xs) ∨
  ∃ (o:Obj) (its:Array Value) (n:Nat),K.lookup a=some o∧o.cls = .type "tuple" ∧ o.data = .seq its n∧its.size≤sizeLine∧aI xs its.toList
def absV:Value→Option V
 | .none=>some .non
 | .bool b=>some (.bl b)
 | .int i _=>some (.int i)
 | .str x _=>some (.str x)
 | .bytes b _=>some (.byt b)
 | .float b _=>some (.flt b)
 | .ref a=>some (.ref a)
 | .type n=>some (.ty n)
 | _=>none
theorem aU.abs {x:V} {u:Value} (r:aU x u):absV u=some x:=by
 cases x with
 | non=>cases r; rfl
 | bl _=>cases r; rfl
 | int _=>obtain ⟨t,rfl⟩:=r; rfl
 | str _=>obtain ⟨t,rfl⟩:=r; rfl
 | byt _=>obtain ⟨t,rfl⟩:=r; rfl
 | flt _=>obtain ⟨t,rfl⟩:=r; rfl
 | ref _=>cases r; rfl
 | ty _=>cases r; rfl
theorem aU.inj {x y:V} {u:Value} (r:aU x u) (q:aU y u):x=y:=Option.some.inj (r.abs.symm.trans q.abs)
theorem aI.inj:∀ {xs ys:List V} {us:List Value},aI xs us→aI ys us→xs=ys
 | _,_,_,.nil,.nil=>rfl
 | _,_,_,.cons r t,.cons r' t'=>by rw [r.inj r',aI.inj t t']
section
variable {X:Cx} {pins:List (Addr×Obj)} {σ:St} {H:Hp} {s:Shared} {a:Addr} {xs ys:List V}
theorem SqL.of {K:PySem.W.Frag} (h:H a=some (.lst xs)):SqL K H a xs:=.inl (.inl h)
theorem SqT.of {K:PySem.W.Frag} (h:H a=some (.tup xs)):SqT K H a xs:=.inl (.inl h)
theorem Inv.list (I:Inv X pins σ H s) (h:SqL X.K H a xs):∃ its:List Value,aI xs its∧PlainL s.heap a its.toArray∧xs.length≤sizeLine:=by
 rcases h with h | ⟨o,its,n,hk,hc,hd,hs,hz,r⟩
 ·obtain ⟨z,its,n,r,e⟩:=h.ok I.hok
  exact ⟨its,r,⟨_,n,e,rfl,rfl,rfl⟩,z⟩
 ·refine ⟨its.toList,r,⟨o,n,I.kIn a o hk,hc,hd,by simpa using hs⟩,?_⟩
  have e:=r.length
  simp only [Array.length_toList] at e
  omega
theorem Inv.tuple (I:Inv X pins σ H s) (h:SqT X.K H a xs):∃ its:List Value,aI xs its∧IsTup s.heap a its.toArray∧xs.length≤sizeLine:=by
 rcases h with h | ⟨o,its,n,hk,hc,hs,hz,r⟩
 ·obtain ⟨z,its,r,p⟩:=h.ok I.hok
  exact ⟨its,r,p,z⟩
 ·refine ⟨its.toList,r,⟨o,I.kIn a o hk,hc,n,by simpa using hs⟩,?_⟩
  have e:=r.length
  simp only [Array.length_toList] at e
  omega
theorem Inv.list_inj (I:Inv X pins σ H s) (h:SqL X.K H a xs) (h':SqL X.K H a ys):xs=ys:=by
 obtain ⟨its,r,⟨o,n,e,_,_,d⟩,_⟩:=I.list h
 obtain ⟨its',r',⟨o',n',e',_,_,d'⟩,_⟩:=I.list h'
 rw [e] at e'; cases e'
 rw [d] at d'
 injection d' with d1 _
 have:its=its':=by simpa using congrArg Array.toList d1
 subst this
 exact r.inj r'
end
abbrev Cx.wish (X:Cx) (E:Value→Shared→Prop):Cx:={ X with xe:=E }
abbrev Cx.nox (X:Cx):Cx:=X.wish fun _ _=>False
theorem Cx.Ok.wish {X:Cx} (ok:X.Ok) (E:Value→Shared→Prop):(X.wish E).Ok :=
 ⟨ok.mod,ok.kind,ok.glob,ok.blt,ok.above,ok.inj,ok.has,ok.cab,ok.hd,ok.frames,ok.stk,ok.exf,ok.bs,ok.bsz,ok.noex,ok.exfs,ok.funs,ok.frf,ok.tb⟩
theorem Cx.Ok.unwish {X:Cx} {E:Value→Shared→Prop} (ok:(X.wish E).Ok):X.Ok :=
 ⟨ok.mod,ok.kind,ok.glob,ok.blt,ok.above,ok.inj,ok.has,ok.cab,ok.hd,ok.frames,ok.stk,ok.exf,ok.bs,ok.bsz,ok.noex,ok.exfs,ok.funs,ok.frf,ok.tb⟩
section
variable {X:Cx} {pins:List (Addr×Obj)} {σ:St} {H:Hp} {s:Shared} {E:Value→Shared→Prop}
theorem Inv.wish (I:Inv X pins σ H s) (E:Value→Shared→Prop):Inv (X.wish E) pins σ H s:=⟨I.ok.wish E,I.os,I.bare,I.base,I.loc,I.cell,I.free,I.freeC,I.pin,I.hok,I.len⟩
theorem Inv.unwish (I:Inv (X.wish E) pins σ H s):Inv X pins σ H s:=⟨I.ok.unwish,I.os,I.bare,I.base,I.loc,I.cell,I.free,I.freeC,I.pin,I.hok,I.len⟩
theorem SP.unwish {D:Ends} {f:Flow} {s':Shared} (h:SP (X.wish E) pins D f s'):SP X pins D f s':=by
 cases f with
 | next=>obtain ⟨σ',H',I,q⟩:=h; exact ⟨σ',H',I.unwish,q⟩
 | brk=>obtain ⟨σ',H',I,q⟩:=h; exact ⟨σ',H',I.unwish,q⟩
 | cont=>obtain ⟨σ',H',I,q⟩:=h; exact ⟨σ',H',I.unwish,q⟩
 | ret u=>obtain ⟨v,σ',H',I,r,q⟩:=h; exact ⟨v,σ',H',I.unwish,r,q⟩
theorem PSs.nox {st:List Stmt} {t:TS} (h:PSs X.nox st t):PSs X st t:=⟨fun pins s σ H D I hw =>
 wpAny_mono (h pins s σ H D (I.wish _) hw) (fun _ _ q=>q.unwish) fun _ _ z=>False.elim z⟩
end
section
variable {X:Cx} {st:Stmt} {rest:List Stmt} {t u:TS} {e:Expr} {te:TE} {pos:Pos}
def tNext:TS:=fun D σ H=>D.nx σ H
def tSeq (t u:TS):TS:=fun D σ H=>t { D with nx:=u D } σ H
theorem qA:PSs X [] tNext:=⟨fun _ _ σ H _ I h=>wpAny_execs_nil ⟨σ,H,I,h⟩⟩
theorem km (h1:PS X st t) (h2:PSs X rest u):PSs X (st :: rest) (tSeq t u):=by
 (try refine ⟨?_⟩); intro pins s σ H D I h
 refine wpAny_execs_cons (thn (h1 pins s σ H { D with nx:=u D } I h) fun f s1 q=>?_)
 cases f with
 | next =>
  obtain ⟨σ',H',I',q⟩:=q
  exact h2 pins s1 σ' H' D I' q
 | ret v=>exact q
 | brk=>exact q
 | cont=>exact q
theorem qw (h1:PS X st t):PSs X [st] t:=by
 (try refine ⟨?_⟩); intro pins s σ H D I h
 refine wpAny_execs_cons (thn (h1 pins s σ H D I h) fun f s1 q=>?_)
 cases f with
 | next=>exact wpAny_execs_nil q
 | ret v=>exact q
 | brk=>exact q
 | cont=>exact q
theorem Inv.quiet {pins:List (Addr×Obj)} {σ:St} {H:Hp} {s:Shared} (I:Inv X pins σ H s):interactive X.env=false:=by simp [interactive,I.ok.kind]
def tDrop (te:TE):TS:=fun D σ H=>te σ H fun _ H1=>D.nx σ H1
theorem gO (he:PE X e te) (hs:swapsWith e none pos.line X.env=pure false:=by rfl):PS X (.Expr e pos) (tDrop te):=by
 (try refine ⟨?_⟩); intro pins s σ H D I h
 exact wpAny_Expr_any (thn (he pins s σ H _ I h) fun v s1 ⟨x,H1,I1,r1,q1⟩=>⟨σ,H1,I1,q1⟩) I.quiet hs
def tRet (te:TE):TS:=fun D σ H=>te σ H D.rt
theorem nH (he:PE X e te):PS X (.Return (some e) pos) (tRet te):=by
 (try refine ⟨?_⟩); intro pins s σ H D I h
 exact wpAny_Return_some (thn (he pins s σ H _ I h) fun v s1 ⟨x,H1,I1,r1,q1⟩=>⟨x,σ,H1,I1,r1,q1⟩)
def tIfS (c:TT) (t u:TS):TS:=fun D σ H=>c σ H fun b H1=>if b=true then t D σ H1 else u D σ H1
theorem ps_if {c:Expr} {a b:List Stmt} {tc:TT} (hc:PT X c tc) (ha:PSs X a t) (hb:PSs X b u):PS X (.If c a b pos) (tIfS tc t u):=by
 (try refine ⟨?_⟩); intro pins s σ H D I h
 refine wpAny_If (thn (hc pins s σ H _ I h) fun d s1 ⟨H1,I1,q1⟩=>?_)
 cases d with
 | true=>exact ha pins s1 σ H1 D I1 q1
 | false=>exact hb pins s1 σ H1 D I1 q1
def tf:TS:=fun _ _ _=>False
theorem oJ:PS X st tf:=⟨fun _ _ _ _ _ _ h=>h.elim⟩
end
abbrev TG:=V→St→Hp→(St→Hp→Prop)→Prop
abbrev TGs:=List V→St→Hp→(St→Hp→Prop)→Prop
structure PG (X:Cx) (target:Expr) (t:TG):Prop where
 go:∀ (pins:List (Addr×Obj)) (s:Shared) (σ:St) (H:Hp) (v:V) (u:Value) (Q:St→Hp→Prop),Inv X pins σ H s→aU v u→t v σ H Q →
  wpAny (model X.prog X.w) X.A (assign target X.env u) (fun _ s'=>∃ σ' H',Inv X pins σ' H' s'∧Q σ' H') X.xe s
instance {X:Cx} {target:Expr} {t:TG}:CoeFun (PG X target t) fun _=>∀ (pins:List (Addr×Obj)) (s:Shared) (σ:St) (H:Hp) (v:V) (u:Value) (Q:St→Hp→Prop),Inv X pins σ H s→aU v u→t v σ H Q →
 wpAny (model X.prog X.w) X.A (assign target X.env u) (fun _ s'=>∃ σ' H',Inv X pins σ' H' s'∧Q σ' H') X.xe s:=⟨fun h=>h.go⟩
structure PGs (X:Cx) (ts:List Expr) (t:TGs):Prop where
 go:∀ (pins:List (Addr×Obj)) (s:Shared) (σ:St) (H:Hp) (vs:List V) (us:List Value) (Q:St→Hp→Prop),Inv X pins σ H s→aI vs us→t vs σ H Q →
  wpAny (model X.prog X.w) X.A (assignInOrder ((assignEach ts X.env).map (·.2)) us) (fun _ s'=>∃ σ' H',Inv X pins σ' H' s'∧Q σ' H') X.xe s
instance {X:Cx} {ts:List Expr} {t:TGs}:CoeFun (PGs X ts t) fun _=>∀ (pins:List (Addr×Obj)) (s:Shared) (σ:St) (H:Hp) (vs:List V) (us:List Value) (Q:St→Hp→Prop),Inv X pins σ H s→aI vs us→t vs σ H Q →
 wpAny (model X.prog X.w) X.A (assignInOrder ((assignEach ts X.env).map (·.2)) us) (fun _ s'=>∃ σ' H',Inv X pins σ' H' s'∧Q σ' H') X.xe s:=⟨fun h=>h.go⟩
abbrev pC:=V→V→V→Hp→(Hp→Prop)→Prop
def PSet (X:Cx) (t:pC):Prop :=
 ∀ (pins:List (Addr×Obj)) (s:Shared) (σ:St) (H:Hp) (o i v:V) (ov iv u:Value) (Q:Hp→Prop),Inv X pins σ H s→aU o ov→aU i iv→aU v u→t o i v H Q →
  wpAny (model X.prog X.w) X.A (setItem ov iv u) (fun _ s'=>∃ H',Inv X pins σ H' s'∧Q H') X.xe s
abbrev TIp:=V→V→Hp→VK→Prop
def PIp (X:Cx) (op:Operator) (t:TIp):Prop :=
 ∀ (pins:List (Addr×Obj)) (s:Shared) (σ:St) (H:Hp) (x y:V) (v u:Value) (Q:VK),Inv X pins σ H s→aU x v→aU y u→t x y H Q →
  wpAny (model X.prog X.w) X.A (inplaceOp op v u) (EP X pins σ Q) X.xe s
section
variable {X:Cx} {pos:Pos}
def ip (i:Nat):TG:=fun v σ H Q=>Q (σ.set i (some v)) H
theorem a9 {i:Nat} {x:Str} (hN:X.N.Nodup) (hi:X.N[i]? = some x) (hx:Loc X.env.scope x) (hf:X.fn x=true∨X.env.scope.names.lookup x=some .local:=by first | exact .inl rfl | exact .inr rfl | assumption):PG X (.Name x pos) (ip i):=by
 (try refine ⟨?_⟩); intro pins s σ H v u Q I r h
 exact wpAny_assign_Name (fu I hN hi hx r (fun s' I'=>⟨_,H,I',h⟩) hf)
def gNil:TGs:=fun vs σ H Q=>vs=[]∧Q σ H
def rL (t:TG) (u:TGs):TGs:=fun vs σ H Q=>∃ v r,vs=v :: r∧t v σ H fun σ' H'=>u r σ' H' Q
theorem gR:PGs X [] gNil:=by
 (try refine ⟨?_⟩); intro pins s σ H vs us Q I r h
 obtain ⟨e,h⟩:=h
 subst e
 cases r
 exact assignInOrder_nil ⟨σ,H,I,h⟩
theorem cp {e:Expr} {es:List Expr} {t:TG} {u:TGs} (h1:PG X e t) (h2:PGs X es u)
 (hs:(assignEach (e :: es) X.env).map (·.2)=assign e X.env :: (assignEach es X.env).map (·.2):=by rfl):PGs X (e :: es) (rL t u):=by
 (try refine ⟨?_⟩); intro pins s σ H vs us Q I r h
 obtain ⟨v,vr,e1,h⟩:=h
 subst e1
 cases r with
 | cons r rr =>
  rw [hs]
  refine assignInOrder_cons (thn (h1 pins s σ H _ _ _ I r h) fun _ s1 ⟨σ1,H1,I1,q1⟩=>?_)
  exact h2 pins s1 σ1 H1 _ _ Q I1 rr q1
def gTup (K:PySem.W.Frag) (n:Nat) (t:TGs):TG:=fun v σ H Q=>∃ a xs,v = .ref a∧SqT K H a xs∧xs.length=n∧t xs σ H Q
theorem jC {es:List Expr} {k:Nat} {t:TGs} {n:Nat} (hc:X.calm=true) (h:PGs X es t)
 (hn:(assignEach es X.env).length=n:=by rfl) (hst:(assignEach es X.env).findIdx? (·.1)=none:=by rfl):PG X (.Tuple es k pos) (gTup X.K n t):=by
 (try refine ⟨?_⟩); intro pins s σ H v u Q I r hw
 obtain ⟨a,xs,e1,hq,hl,hw⟩:=hw
 subst e1
 cases r
 obtain ⟨its,rv,ht,hz⟩:=I.tuple hq
 refine assign_Tuple_tuple (I.ok.hd hc) ht (by simp [hn,← hl,rv.length]) hst fun h' hx=>?_
 have I1:Inv X pins σ H { s with heap:=h' }:=I.kept (t':=s.toks) fun b o e=>hx b o (Nat.ne_of_lt (Heap.lt_size e)) e
 exact h pins _ σ H xs _ Q I1 (by simpa using rv) hw
def gSub (to ti:TE) (t:pC):TG:=fun v σ H Q=>to σ H fun o H1=>ti σ H1 fun i H2=>t o i v H2 fun H3=>Q σ H3
theorem uz {o i:Expr} {to ti:TE} {t:pC} (ho:PE X o to) (hi:PE X i ti) (hs:PSet X t)
 (ha:∀ v,assign (.Subscript o i pos) X.env v=(do
  let ov ← holding [v] (eval o X.env)
  let iv ← holding [v,ov] (eval i X.env)
  standAt pos
  holding [v,ov,iv] (setItem ov iv v)
  release [v,ov,iv] []):=by intro _; rfl):PG X (.Subscript o i pos) (gSub to ti t):=by
 (try refine ⟨?_⟩); intro pins s σ H v u Q I r h
 rw [ha]
 refine wpAny_bind (wpAny_holding (thn (ho pins s σ H _ I h) fun ov s1 ⟨x,H1,I1,r1,q1⟩=>?_))
 refine wpAny_bind (wpAny_holding (thn (hi pins s1 σ H1 _ I1 q1) fun iv s2 ⟨y,H2,I2,r2,q2⟩=>?_))
 refine wpAny_bind (wpAny_standAt (wpAny_bind (wpAny_holding (thn (hs pins s2 σ H2 x y v ov iv u _ I2 r1 r2 r q2) fun _ s3 ⟨H3,I3,q3⟩=>?_))))
 exact wpAny_release ⟨σ,H3,I3,q3⟩
def p5 (te:TE) (g:TG):TS:=fun D σ H=>te σ H fun x H1=>g x σ H1 D.nx
theorem jG {tg e:Expr} {te:TE} {g:TG} (he:PE X e te) (hg:PG X tg g) (hs:swapsWithSole [tg] e pos.line X.env=pure false:=by rfl) (hw:swappedStores [tg] e X.env=pure none:=by rfl)
 (h1:(assignEach [tg] X.env).map (·.2)=[assign tg X.env]:=by rfl):PS X (.Assign [tg] e pos) (p5 te g):=by
 (try refine ⟨?_⟩); intro pins s σ H D I h
 refine wpAny_Assign_stores (thn (he pins s σ H _ I h) fun v s1 ⟨x,H1,I1,r1,q1⟩=>?_) hs hw
 rw [h1]
 exact thn (hg pins s1 σ H1 x v _ I1 r1 q1) fun _ s2 q=>q
theorem kP {i:Nat} {x:Str} {e:Expr} {te:TE} {pos':Pos} (hN:X.N.Nodup) (hi:X.N[i]? = some x) (hx:Loc X.env.scope x) (he:PE X e te) (hs:swapsWith e (some (.Name x pos')) pos.line X.env=pure false:=by rfl) (hf:X.fn x=true∨X.env.scope.names.lookup x=some .local:=by first | exact .inl rfl | exact .inr rfl | assumption) :
 PS X (.Assign [.Name x pos'] e pos) (p5 te (ip i)):=by
 (try refine ⟨?_⟩); intro pins s σ H D I h
 refine wpAny_Assign_Name (thn (he pins s σ H _ I h) fun v s1 ⟨y,H1,I1,r1,q1⟩=>?_) hs
 exact fu I1 hN hi hx r1 (fun s2 I2=>⟨_,H1,I2,q1⟩) hf
def tPar (i j:Nat) (ta:TA):TS:=fun D σ H=>ta σ H fun vs H1=>∃ v w,vs=[v,w]∧D.nx ((σ.set i (some v)).set j (some w)) H1
theorem tJ {i j:Nat} {x y:Str} {a b:Expr} {ta:TA} {px py pt:Pos} {kt k2 pt2} (hc:X.calm=true) (hN:X.N.Nodup) (hi:X.N[i]? = some x) (hj:X.N[j]? = some y) (hij:i≠j)
 (hx:X.env.scope.names.lookup x=some .local) (hy:X.env.scope.names.lookup y=some .local) (ha:PA X [a,b] ta)
 (hw:swappedStores [.Tuple [.Name x px,.Name y py] kt pt] (.Tuple [a,b] k2 pt2) X.env=pure (some [x,y]))
 (hs:swapsWithSole [.Tuple [.Name x px,.Name y py] kt pt] (.Tuple [a,b] k2 pt2) pos.line X.env=pure false:=by rfl) :
 PS X (.Assign [.Tuple [.Name x px,.Name y py] kt pt] (.Tuple [a,b] k2 pt2) pos) (tPar i j ta):=by
 (try refine ⟨?_⟩); intro pins s σ H D I h
 rw [exec_Assign_arm]
 refine wpAny_bind (wpAny_standAt ?_)
 rw [hs]
 refine wpAny_bind (wpAny_pure ?_)
 rw [if_neg (by decide)]
 refine wpAny_bind (Tuple_ (thn (ha _ pins s σ H _ I h) fun us s1 ⟨vs,H1,I1,r1,q1⟩=>?_))
 obtain ⟨v,w,e1,q1⟩:=q1
 subst e1
 obtain ⟨u1,u2,rfl,rv,rw'⟩:∃ u1 u2,us=[u1,u2]∧aU v u1∧aU w u2:=by
  cases r1 with
  | cons p q =>
   cases q with
   | cons p' q' =>
    cases q'
    exact ⟨_,_,rfl,p,p'⟩
 refine wpAny_newObj_type ?_ (by show 2≤sizeLine; decide)
 have I2:Inv X pins σ H1 { s1 with heap:=s1.heap.push { cls:=.type "tuple",data:=.seq [u1,u2].toArray } }:=I1.kept (t':=s1.toks) fun b o e=>Heap.get?_push_of_some _ e
 rw [hw]
 refine wpAny_bind (wpAny_pure ?_)
 show wpAny (model X.prog X.w) X.A (do rule "assign.swapped-stores"; let items ← unpackItems (.ref s1.heap.objs.size) 2 none; assignInOrder [fun v=>bindName X.env y v,fun v=>bindName X.env x v] items.reverse; pure Flow.next) _ _ _
 refine wpAny_bind (wpAny_rule (wpAny_bind (unpackItems_tuple (items:=#[u1,u2]) (I.ok.hd hc) (IsTup.new s1.heap _) fun h' hx'=>?_)))
 have I3:=I2.kept (h':=h') (t':=s1.toks) fun b o e=>hx' b o (Nat.ne_of_lt (Heap.lt_size e)) e
 show wpAny _ _ (assignInOrder [fun v=>bindName X.env y v,fun v=>bindName X.env x v] [u2,u1] >>= fun _=>pure Flow.next) _ _ _
 refine wpAny_bind (assignInOrder_cons (wpAny_bindName (fu I3 hN hj (.inl hy) rw' (fun s2 I4=>?_) (.inr hy))))
 refine assignInOrder_cons (wpAny_bindName (fu I4 hN hi (.inl hx) rv (fun s3 I5=>assignInOrder_nil (wpAny_pure ?_)) (.inr hx)))
 rw [List.set_comm _ _ (Ne.symm hij)] at I5
 exact ⟨_,H1,I5,q1⟩
def tAugS (to ti te:TE) (tget:V→V→Hp→VK→Prop) (tip:TIp) (tset:pC):TS:=fun D σ H=>to σ H fun o H1=>ti σ H1 fun i H2=>tget o i H2 fun x H3=>te σ H3 fun y H4=>tip x y H4 fun z H5=>tset o i z H5 fun H6=>D.nx σ H6
def PGet (X:Cx) (t:V→V→Hp→VK→Prop):Prop :=
 ∀ (pins:List (Addr×Obj)) (s:Shared) (σ:St) (H:Hp) (o i:V) (ov iv:Value) (Q:VK),Inv X pins σ H s→aU o ov→aU i iv→t o i H Q →
  wpAny (model X.prog X.w) X.A (getItem ov iv) (EP X pins σ Q) X.xe s
theorem qC {o i e:Expr} {to ti te:TE} {tget:V→V→Hp→VK→Prop} {tip:TIp} {tset:pC} {op:Operator} {tpos:Pos} (ho:PE X o to) (hi:PE X i ti) (hg:PGet X tget) (he:PE X e te) (hp:PIp X op tip) (hs:PSet X tset)
 (ha:∀ ov iv new,augStore i ov iv new=(do holding [new,ov,iv] (setItem ov iv new); release [new,ov,iv] []; pure .next):=by intros; rfl):PS X (.AugAssign (.Subscript o i tpos) op e pos) (tAugS to ti te tget tip tset):=by
 (try refine ⟨?_⟩); intro pins s σ H D I h
 refine wpAny_AugAssign_SubscriptAny (thn (ho pins s σ H _ I h) fun ov s1 ⟨x1,H1,I1,r1,q1⟩=>?_) ha
 refine thn (hi pins s1 σ H1 _ I1 q1) fun iv s2 ⟨x2,H2,I2,r2,q2⟩=>?_
 refine thn (hg pins s2 σ H2 x1 x2 ov iv _ I2 r1 r2 q2) fun old s3 ⟨x3,H3,I3,r3,q3⟩=>?_
 refine thn (he pins s3 σ H3 _ I3 q3) fun v s4 ⟨x4,H4,I4,r4,q4⟩=>?_
 refine thn (hp pins s4 σ H4 x3 x4 old v _ I4 r3 r4 q4) fun new s5 ⟨x5,H5,I5,r5,q5⟩=>?_
 exact thn (hs pins s5 σ H5 x1 x2 x5 ov iv new _ I5 r1 r2 r5 q5) fun _ s6 ⟨H6,I6,q6⟩=>⟨σ,H6,I6,q6⟩
def ipI (f:Int→Int→Int):TIp:=fun x y H Q=>∃ i j,x = .int i∧y = .int j∧Q (.int (f i j)) H
theorem ut:PIp X .Add (ipI fun i j=>i + j):=by
 (try refine ⟨?_⟩); intro pins s σ H x y v u Q I r1 r2 h
 obtain ⟨i,j,e1,e2,q⟩:=h
 subst e1; subst e2
 obtain ⟨t,rfl⟩:=r1
 obtain ⟨t',rfl⟩:=r2
 exact iadd_int ⟨.int _,H,I.tok _,⟨_,rfl⟩,q⟩
end
section
variable {X:Cx} {pos:Pos}
def ug (c:TT) (tb:TS):TS:=fun D σ H=>∃ W:Nat→St→Hp→Prop,(∃ m,W m σ H)∧∀ m σ H,W m σ H →
 c σ H fun b H1=>if b=true then ∃ N:St→Hp→Prop,(∀ σ' H',N σ' H'→∃ m',m'<m∧W m' σ' H')∧tb { D with nx:=N,ct:=N,bk:=D.nx } σ H1 else D.nx σ H1
theorem pS {c:Expr} {body:List Stmt} {tc:TT} {tb:TS} (hp:PassesOwn (model X.prog X.w) X.A X.env X.xe) (hc:PT X c tc) (hb:PSs X body tb):PS X (.While c body [] pos) (ug tc tb):=by
 (try refine ⟨?_⟩); intro pins s σ H D I h
 obtain ⟨W,⟨m0,w0⟩,turn⟩:=h
 refine wpAny_While (codeAny_whileLoop (fun n s'=>∃ σ' H',Inv X pins σ' H' s'∧W n σ' H') ?_ m0 ⟨σ,H,I,w0⟩)
 rintro n s1 ⟨σ1,H1,I1,w1⟩
 refine wpAny_passesOwn hp (thn (hc pins s1 σ1 H1 _ I1 (turn n σ1 H1 w1)) fun b s2 ⟨H2,I2,q2⟩=>?_)
 cases b with
 | true =>
  obtain ⟨N,hN,q2⟩:=q2
  rw [if_pos rfl]
  refine wpAny_passesOwn hp (thn (hb pins s2 σ1 H2 _ I2 q2) fun f s3 q3=>?_)
  cases f with
  | next =>
   obtain ⟨σ3,H3,I3,n3⟩:=q3
   obtain ⟨m',hm,w3⟩:=hN σ3 H3 n3
   exact ⟨m',hm,σ3,H3,I3,w3⟩
  | cont =>
   obtain ⟨σ3,H3,I3,n3⟩:=q3
   obtain ⟨m',hm,w3⟩:=hN σ3 H3 n3
   exact ⟨m',hm,σ3,H3,I3,w3⟩
  | brk=>exact q3
  | ret v=>exact q3
 | false =>
  rw [if_neg Bool.false_ne_true]
  exact wpAny_execs_nil ⟨σ1,H2,I2,q2⟩
end
structure It where
 go:Nat→Hp→Prop
 yld:Nat→Hp→V→Hp→Prop
 stop:Nat→Hp→Prop
def ju (X:Cx) (pins:List (Addr×Obj)) (H:Hp) (b:Addr):Prop :=
 H b=none∧b≠X.env.locals∧b ∉ X.fs∧(b∈X.ex∨X.s₀.heap.objs.size≤b)∧(∀ x c,X.env.cells.lookup x=some c→c≠b)∧∀ p∈X.pn++pins,p.1≠b
theorem Inv.fpOk {X:Cx} {pins:List (Addr×Obj)} {σ:St} {H H':Hp} {s:Shared} {b:Addr} (I:Inv X pins σ H s) (hb:s.heap.objs.size≤b) (hn:H' b=none):ju X pins H' b:=by
 refine ⟨hn,Nat.ne_of_gt (Nat.lt_of_lt_of_le I.lt hb),I.nofs hb,.inr (Nat.le_trans I.sz hb),fun x c e z=>?_,fun p hp z=>?_⟩
 ·obtain ⟨v,q⟩:=I.cell x c e
  exact absurd (Nat.lt_of_lt_of_le q.lt (by rw [z]; exact hb)) (Nat.lt_irrefl _)
 ·exact absurd (Nat.lt_of_lt_of_le (Heap.lt_size (I.pin p hp).1) (by rw [z]; exact hb)) (Nat.lt_irrefl _)
structure Turn (P:Program) (w:World) (K:PySem.W.Frag) (tg:Expr) (J:It) (fp:List Addr) (it:Addr) (tn:Nat→Heap→Prop):Prop where
 mem:it∈fp
 obj:∀ i h,tn i h→∀ b∈fp,∃ o,h.get? b=some o∧∀ v,o.data≠.cell v
 keep:∀ i h h',tn i h→(∀ b∈fp,∀ o,h.get? b=some o→h'.get? b=some o)→tn i h'
 item:∀ (X:Cx),X.prog=P→X.w=w→X.K=K→X.calm=true→∀ (i:Nat) (pins:List (Addr×Obj)) (s:Shared) (σ:St) (H:Hp) (E:Value→Shared→Prop),Inv X pins σ H s→(∀ b∈fp,ju X pins H b)→tn i s.heap→J.go i H →
  wpAny (model P w) X.A (pyNext (.ref it)) (fun r s1=>∃ u,r=some u ∧
   wpAny (model P w) X.A (letOwnedTupleGo tg (.ref it) u) (fun _ s2=>∃ x H',Inv X pins σ H' s2∧aU x u∧J.yld i H x H'∧tn (i + 1) s2.heap∧∀ b∈fp,H' b=none) E s1) E s
 done:∀ (X:Cx),X.prog=P→X.w=w→X.K=K→X.calm=true→∀ (i:Nat) (pins:List (Addr×Obj)) (s:Shared) (σ:St) (H:Hp) (E:Value→Shared→Prop),Inv X pins σ H s→(∀ b∈fp,ju X pins H b)→tn i s.heap→J.stop i H →
  wpAny (model P w) X.A (pyNext (.ref it)) (fun r s1=>r=none∧Inv X pins σ H s1) E s
 self:∀ (A:Around) (i:Nat) (s:Shared) (Q:Value→Shared→Prop) (E:Value→Shared→Prop),tn i s.heap→Q (.ref it) s→wpAny (model P w) A (pyIter (.ref it)) Q E s
abbrev TI:=St→Hp→(It→Hp→Prop)→Prop
def PIE (X:Cx) (pins:List (Addr×Obj)) (σ:St) (tg:Expr) (R:It→Hp→Prop) (itv:Value) (s2:Shared):Prop :=
 ∃ (it:Addr) (fp:List Addr) (tn:Nat→Heap→Prop) (J:It) (H':Hp),itv = .ref it∧Inv X pins σ H' s2∧Turn X.prog X.w X.K tg J fp it tn∧tn 0 s2.heap∧(∀ b∈fp,ju X pins H' b)∧R J H'
structure PI (X:Cx) (tg iter:Expr) (wi:TI):Prop where
 go:∀ (pins:List (Addr×Obj)) (s:Shared) (σ:St) (H:Hp) (R:It→Hp→Prop),Inv X pins σ H s→wi σ H R →
  wpAny (model X.prog X.w) X.A (eval iter X.env) (fun v s1=>wpAny (model X.prog X.w) X.A (pyIter v) (PIE X pins σ tg R) X.xe s1) X.xe s
instance {X:Cx} {tg iter:Expr} {wi:TI}:CoeFun (PI X tg iter wi) fun _=>∀ (pins:List (Addr×Obj)) (s:Shared) (σ:St) (H:Hp) (R:It→Hp→Prop),Inv X pins σ H s→wi σ H R →
 wpAny (model X.prog X.w) X.A (eval iter X.env) (fun v s1=>wpAny (model X.prog X.w) X.A (pyIter v) (PIE X pins σ tg R) X.xe s1) X.xe s:=⟨fun h=>h.go⟩
theorem rp {M:Model} {A:Around} {E:Value→Shared→Prop} {s:Shared} {tg:Expr} {it:Addr} {u:Value} {o:Obj} {n:String} {vs:Array Value} {Q:Unit→Shared→Prop} (ho:s.heap.get? it=some o) (hc:o.cls = .type n) (hd:o.data = .fields vs)
 (hn : ["enumerate","zip","dict_itemiterator","dict_reverseitemiterator","odict_iterator","itertools.zip_longest","itertools.pairwise"].contains n=false) (hQ:Q () s):wpAny M A (letOwnedTupleGo tg (.ref it) u) Q E s:=by
 unfold letOwnedTupleGo
 cases tg <;> first
  | exact wpAny_pure hQ
  | (cases u <;> first
   | exact wpAny_pure hQ
   | (refine wpAny_bind (wpAny_load ho ?_)
      rw [hc,hd]
      show wpAny M A (if (["enumerate","zip","dict_itemiterator","dict_reverseitemiterator","odict_iterator","itertools.zip_longest","itertools.pairwise"].contains n&&vs[0]? == some (rawInt _))=true then _ else _) Q E s
      rw [if_neg (by intro h; rw [hn,Bool.false_and] at h; cases h)]
      exact wpAny_pure hQ))
def Itl (K:PySem.W.Frag) (a:Addr):It :=
 ⟨fun i H=>∃ xs x,SqL K H a xs∧xs[i]? = some x,fun i H x H'=>H'=H∧∀ xs,SqL K H a xs→xs[i]? = some x,fun i H=>∃ xs,SqL K H a xs∧xs.length≤i⟩
def Itr (lo:Int) (n:Nat):It:=⟨fun i _=>i<n,fun i H x H'=>H'=H∧x = .int (lo + i),fun i _=>n≤i⟩
theorem my {P:Program} {w:World} {K:PySem.W.Frag} {tg:Expr} (a it:Addr):Turn P w K tg (Itl K a) [it] it (fun i h=>h.IsListIter it a i) where
 mem:=by simp
 obj:=fun i h st b hb=>by
  have e:b=it:=by simpa using hb
  subst e
  obtain ⟨o,e,c,d⟩:=st
  exact ⟨o,e,fun v z=>by rw [d] at z; cases z⟩
 keep:=fun i h h' st k=>st.at fun o e=>k it (by simp) o e
 item:=by
  intro X hP hw hK hc i pins s σ H E I hf st hg
  subst hP hw hK
  obtain ⟨xs,x,hq,hx⟩:=hg
  obtain ⟨its,rv,p,hz⟩:=I.list hq
  obtain ⟨u,hu,ru⟩:=rv.get hx
  obtain ⟨f0,f1,f2,f3,f4,f5⟩:=hf it (by simp)
  refine wpAny_pyNext_list_item st p.isList (x:=u) (by simpa using hu) fun h' st' sb=>?_
  have I1:Inv X pins σ H { s with heap:=h' }:=I.turned (t':=s.toks) (fun b o hb e=>(sb.2 b hb).trans e) f0 f1 f3 f4 f5
  obtain ⟨o,e,c,d⟩:=id st'
  exact ⟨u,rfl,rp (s:={ s with heap:=h' }) e c d (by decide) ⟨x,H,I1,ru,⟨rfl,fun ys hy=>by rw [I.list_inj hy hq]; exact hx⟩,st',fun b hb=>(hf b hb).1⟩⟩
 done:=by
  intro X hP hw hK hc i pins s σ H E I hf st hg
  subst hP hw hK
  obtain ⟨xs,hq,hx⟩:=hg
  obtain ⟨its,rv,p,hz⟩:=I.list hq
  obtain ⟨f0,f1,f2,f3,f4,f5⟩:=hf it (by simp)
  have hl:=rv.length
  exact wpAny_pyNext_list_end (I.ok.hd hc) st p.isList (by simp; omega) fun h' eb=>⟨rfl,I.turned (t':=s.toks) (fun b o hb e=>eb b o hb e) f0 f1 f3 f4 f5⟩
 self:=fun _ _ _ _ _ st h=>wpAny_pyIter_listiter st h
theorem kZ {P:Program} {w:World} {K:PySem.W.Frag} {tg:Expr} (it:Addr) (lo:Int) (n:Nat):Turn P w K tg (Itr lo n) [it] it (fun i h=>IsRangeIter h it (lo + (i:Nat) * 1) ((n:Int) - (i:Nat)) 1) where
 mem:=by simp
 obj:=fun i h st b hb=>by
  have e:b=it:=by simpa using hb
  subst e
  exact ⟨_,st,fun v z=>by
   have z':Data.fields _=Data.cell v:=z
   cases z'⟩
 keep:=fun i h h' st k=>k it (by simp) _ st
 item:=by
  intro X hP hw hK hc i pins s σ H E I hf st hg
  subst hP hw hK
  obtain ⟨f0,f1,f2,f3,f4,f5⟩:=hf it (by simp)
  have W:=Walks.range (prog:=X.prog) (w:=X.w) (I.ok.hd hc) it lo 1 n
  refine W.item i s _ _ hg st fun v h' tk hv st' kk=>?_
  obtain ⟨t,rfl⟩:=hv
  have I1:Inv X pins σ H { s with heap:=h',toks:=tk }:=I.turned (fun b o hb e=>kk b o (by simpa using hb) e) f0 f1 f3 f4 f5
  refine ⟨_,rfl,rp (s:={ s with heap:=h',toks:=tk }) (n:="range_iterator") st' rfl rfl (by decide) ⟨.int (lo + i),H,I1,⟨t,?_⟩,⟨rfl,rfl⟩,st',fun b hb=>(hf b hb).1⟩⟩
  rw [Int.mul_one]
 done:=by
  intro X hP hw hK hc i pins s σ H E I hf st hg
  subst hP hw hK
  obtain ⟨f0,f1,f2,f3,f4,f5⟩:=hf it (by simp)
  exact wpAny_pyNext_range_end (I.ok.hd hc) st (by have:n≤i:=hg; omega) fun h' eb=>⟨rfl,I.turned (t':=s.toks) (fun b o hb e=>eb b o hb e) f0 f1 f3 f4 f5⟩
 self:=fun _ _ _ _ _ st h=>wpAny_pyIter_rangeiter st h
section
variable {X:Cx} {tg:Expr}
def iList (K:PySem.W.Frag) (tl:TE):TI:=fun σ H R=>tl σ H fun x H1=>∃ a,x = .ref a∧(∃ xs,SqL K H1 a xs)∧R (Itl K a) H1
theorem l5 {l:Expr} {tl:TE} (hl:PE X l tl):PI X tg l (iList X.K tl):=by
 (try refine ⟨?_⟩); intro pins s σ H R I h
 refine thn (hl pins s σ H _ I h) fun v s1 ⟨x,H1,I1,r1,q1⟩=>?_
 obtain ⟨a,e,⟨xs,hq⟩,q⟩:=q1
 subst e
 cases r1
 obtain ⟨its,rv,p,hz⟩:=I1.list hq
 refine wpAny_pyIter_list p.isList ?_
 refine ⟨s1.heap.objs.size,[s1.heap.objs.size],_,_,H1,rfl,I1.kept (t':=s1.toks) fun b o e=>Heap.get?_push_of_some _ e,my a _,⟨_,Heap.get?_push_size _ rfl,rfl,rfl⟩,fun b hb=>?_,q⟩
 have e:b=s1.heap.objs.size:=by simpa using hb
 subst e
 exact I1.fpOk (Nat.le_refl _) (I1.hok.fresh (Nat.le_refl _))
theorem kh {pins:List (Addr×Obj)} {σ:St} {H:Hp} {s:Shared} {R:It→Hp→Prop} {E:Value→Shared→Prop} {lo hi:Int} {t u v:Tok} {tk:Nat} (I:Inv X pins σ H s) (h1 : -(2 ^ 62)≤lo) (h2:lo<2 ^ 62) (h3 : -(2 ^ 62)≤hi) (h4:hi<2 ^ 62)
 (q:R (Itr lo (hi - lo).toNat) H):wpAny (model X.prog X.w) X.A (pyIter (.ref s.heap.objs.size)) (PIE X pins σ tg R) E { s with heap:=s.heap.push { cls:=.type "range",data:=.fields #[.int lo t,.int hi u,.int 1 v] },toks:=tk }:=by
 refine wpAny_pyIter_range (IsRange.new ..) (small_one h1 h2 h3 h4) ?_
 have I1:Inv X pins σ H { s with heap:=s.heap.push { cls:=.type "range",data:=.fields #[.int lo t,.int hi u,.int 1 v] },toks:=tk }:=I.kept fun b o e=>Heap.get?_push_of_some _ e
 refine ⟨(s.heap.push { cls:=.type "range",data:=.fields #[.int lo t,.int hi u,.int 1 v] }).objs.size,[(s.heap.push { cls:=.type "range",data:=.fields #[.int lo t,.int hi u,.int 1 v] }).objs.size],_,_,H,rfl,
  I1.kept (t':=tk) fun b o e=>Heap.get?_push_of_some _ e,kZ _ lo (hi - lo).toNat,?_,fun b hb=>?_,q⟩
 ·have e1:lo + ((0:Nat):Int) * 1=lo:=by simp
  have e2:(((hi - lo).toNat:Nat):Int) - ((0:Nat):Int)=Builtin.Range.rangeSize lo hi 1:=by rw [rangeSize_one]; split <;> omega
  show IsRangeIter _ _ (lo + ((0:Nat):Int) * 1) ((((hi - lo).toNat:Nat):Int) - ((0:Nat):Int)) 1
  rw [e1,e2]
  exact Heap.get?_push_size _ rfl
 ·have e:b=(s.heap.push { cls:=.type "range",data:=.fields #[.int lo t,.int hi u,.int 1 v] }).objs.size:=by simpa using hb
  subst e
  exact I1.fpOk (Nat.le_refl _) (I1.hok.fresh (Nat.le_refl _))
def iRng1 (ta:TA):TI:=fun σ H R=>ta σ H fun vs H1=>∃ j:Int,vs=[.int j]∧-(2 ^ 62)≤j∧j<2 ^ 62∧R (Itr 0 j.toNat) H1
def iRng2 (ta:TA):TI:=fun σ H R=>ta σ H fun vs H1=>∃ i j:Int,vs=[.int i,.int j]∧(-(2 ^ 62)≤i∧i<2 ^ 62∧-(2 ^ 62)≤j∧j<2 ^ 62)∧R (Itr i (j - i).toNat) H1
theorem m7 {a:Expr} {ta:TA} {p pos:Pos} (hg:Gl X "range") (hm:X.mg "range" = none) (ha:PA X [a] ta) (hs:starEach [a] X.env=[(false,eval a X.env)]:=by rfl):PI X tg (.Call (.Name "range" p) [a] [] pos) (iRng1 ta):=by
 (try refine ⟨?_⟩); intro pins s σ H R I h
 refine Call_ (fg I hg hm boot_range (PyProof.Rows.callWith_type1 (thn (ha pos pins s σ H _ I h) fun us s1 ⟨vs,H1,I1,r1,q1⟩=>?_) hs rfl))
 obtain ⟨j,e,q1,q2,q⟩:=q1
 subst e
 cases r1 with
 | cons r rr =>
  cases rr
  obtain ⟨t,rfl⟩:=r
  exact call_range_1 (kh I1 (by omega) (by omega) q1 q2 (by simpa using q))
theorem mK {a b:Expr} {ta:TA} {p pos:Pos} (hg:Gl X "range") (hm:X.mg "range" = none) (ha:PA X [a,b] ta) (hs:starEach [a,b] X.env=[(false,eval a X.env),(false,eval b X.env)]:=by rfl) (hs2:starEach [b] X.env=[(false,eval b X.env)]:=by rfl) :
 PI X tg (.Call (.Name "range" p) [a,b] [] pos) (iRng2 ta):=by
 (try refine ⟨?_⟩); intro pins s σ H R I h
 refine Call_ (fg I hg hm boot_range (PyProof.Rows.callWith_type1 (thn (ha pos pins s σ H _ I h) fun us s1 ⟨vs,H1,I1,r1,q1⟩=>?_) (by rw [hs,hs2]) (by rw [hs2]; rfl)))
 obtain ⟨i,j,e,⟨q1,q2,q3,q4⟩,q⟩:=q1
 subst e
 cases r1 with
 | cons r rr =>
  cases rr with
  | cons r' rr =>
   cases rr
   obtain ⟨t,rfl⟩:=r
   obtain ⟨t',rfl⟩:=r'
   exact call_range_2 (kh I1 q1 q2 q3 q4 q)
def tFor (wi:TI) (g:TG) (tb:TS):TS:=fun D σ H=>wi σ H fun J H1=>∃ W:Nat→Nat→St→Hp→Prop,(∃ m,W 0 m σ H1)∧∀ i m σ H,W i m σ H →
 (J.stop i H∧D.nx σ H)∨(J.go i H∧∃ N:St→Hp→Prop,(∀ σ' H',N σ' H'→∃ m',m'<m∧W (i + 1) m' σ' H')∧∀ x H',J.yld i H x H'→g x σ H' fun σ2 H2=>tb { D with nx:=N,ct:=N,bk:=D.nx } σ2 H2)
def g8 (fp:List Addr) (h:Heap):List (Addr×Obj):=fp.filterMap fun b=>(h.get? b).map fun o=>(b,o)
theorem bZ {fp:List Addr} {h:Heap} {b:Addr} {o:Obj} (hb:b∈fp) (e:h.get? b=some o):(b,o)∈g8 fp h:=List.mem_filterMap.mpr ⟨b,hb,by rw [e]; rfl⟩
theorem iR {fp:List Addr} {h:Heap} {p:Addr×Obj} (hp:p∈g8 fp h):p.1∈fp∧h.get? p.1=some p.2:=by
 obtain ⟨b,hb,e⟩:=List.mem_filterMap.mp hp
 cases q:h.get? b with
 | none=>rw [q] at e; cases e
 | some o =>
  rw [q] at e
  have e':(b,o)=p:=Option.some.inj e
  subst e'
  exact ⟨hb,q⟩
theorem Inv.pinned {pins:List (Addr×Obj)} {σ:St} {H:Hp} {s:Shared} {fp:List Addr} (I:Inv X pins σ H s) (hf:∀ b∈fp,ju X pins H b) (ho:∀ b∈fp,∃ o,s.heap.get? b=some o∧∀ v,o.data≠.cell v):Inv X (pins++g8 fp s.heap) σ H s :=
 I.pins_of fun p hp=>(List.mem_append.mp hp).elim (fun z=>I.pin p (List.mem_append_right _ z)) fun z=>by
  obtain ⟨hb,e⟩:=iR z
  obtain ⟨f0,f1,f2,_⟩:=hf p.1 hb
  obtain ⟨o,e',d⟩:=ho p.1 hb
  rw [e] at e'; cases e'
  exact ⟨e,f0,f1,f2,d⟩
theorem Inv.unpinned {pins pl:List (Addr×Obj)} {σ:St} {H:Hp} {s:Shared} (I:Inv X (pins++pl) σ H s):Inv X pins σ H s:=I.pins_of fun p hp=>I.pin p (List.mem_append_right _ (List.mem_append_left _ hp))
theorem oB {iter:Expr} {body:List Stmt} {wi:TI} {g:TG} {tb:TS} {pos:Pos} (hp:PassesOwn (model X.prog X.w) X.A X.env X.xe) (hc:X.calm=true) (hi:PI X tg iter wi) (hg:PG X tg g) (hb:PSs X body tb)
 (hs:∀ x,foldedSetIterable iter X.env x=pure x:=by intro _; rfl):PS X (.For tg iter body [] pos) (tFor wi g tb):=by
 (try refine ⟨?_⟩); intro pins s σ H D I h
 refine wpAny_For (thn (hi pins s σ H _ I h) fun v s1 h1=>thn h1 fun itv s2 h2=>?_) hs
 obtain ⟨it,fp,tn,J,H2,e,I2,T,st2,f2,W,⟨m0,w0⟩,turn⟩:=h2
 subst e
 -- what stays true of the iterator's objects through the loop
 have stat:∀ {H':Hp},(∀ b∈fp,H' b=none)→∀ b∈fp,ju X pins H' b:=fun hn b hb=>⟨hn b hb,(f2 b hb).2⟩
 refine codeAny_forLoop_any (fun n s'=>∃ i σ' H',Inv X pins σ' H' s'∧tn i s'.heap∧(∀ b∈fp,H' b=none)∧W i n σ' H') ?_ m0 ⟨0,σ,H2,I2,st2,fun b hb=>(f2 b hb).1,w0⟩
 rintro n s3 ⟨i,σ3,H3,I3,st3,fr3,w3⟩
 rcases turn i n σ3 H3 w3 with ⟨stop,qn⟩ | ⟨go,N,hN,step⟩
 ·refine wpAny_passesOwn hp (thn (T.done X rfl rfl rfl hc i pins s3 σ3 H3 X.xe I3 (stat fr3) st3 stop) fun r s4 ⟨hr,I4⟩=>?_)
  subst hr
  exact wpAny_execs_nil ⟨σ3,H3,I4,qn⟩
 ·refine wpAny_passesOwn hp (thn (T.item X rfl rfl rfl hc i pins s3 σ3 H3 X.xe I3 (stat fr3) st3 go) fun r s4 ⟨u,hr,h4⟩=>?_)
  subst hr
  refine wpAny_passesOwn hp (thn h4 fun _ s5 ⟨x,H5,I5,r5,y5,st5,fr5⟩=>?_)
  have I5':=I5.pinned (stat fr5) (T.obj _ _ st5)
  refine wpAny_passesOwn hp (thn (hg _ s5 σ3 H5 x u _ I5' r5 (step x H5 y5)) fun _ s6 ⟨σ6,H6,I6,q6⟩=>?_)
  refine wpAny_passesOwn hp (thn (hb _ s6 σ6 H6 _ I6 q6) fun f s7 q7=>?_)
  have again:∀ {σ7:St} {H7:Hp},Inv X (pins++g8 fp s5.heap) σ7 H7 s7→N σ7 H7→∃ m,m<n∧∃ i σ' H',Inv X pins σ' H' s7∧tn i s7.heap∧(∀ b∈fp,H' b=none)∧W i m σ' H':=fun {σ7 H7} I7 n7=>by
   obtain ⟨m',hm,w7⟩:=hN σ7 H7 n7
   refine ⟨m',hm,i + 1,σ7,H7,I7.unpinned,T.keep _ _ _ st5 fun b hb o e=>(I7.pin (b,o) (List.mem_append_right _ (List.mem_append_right _ (bZ hb e)))).1,fun b hb=>?_,w7⟩
   obtain ⟨o,e,d⟩:=T.obj _ _ st5 b hb
   exact (I7.pin (b,o) (List.mem_append_right _ (List.mem_append_right _ (bZ hb e)))).2.1
  cases f with
  | next=>obtain ⟨σ7,H7,I7,n7⟩:=q7; exact again I7 n7
  | cont=>obtain ⟨σ7,H7,I7,n7⟩:=q7; exact again I7 n7
  | brk=>obtain ⟨σ7,H7,I7,q7⟩:=q7; exact ⟨σ7,H7,I7.unpinned,q7⟩
  | ret v=>obtain ⟨x7,σ7,H7,I7,r7,q7⟩:=q7; exact ⟨x7,σ7,H7,I7.unpinned,r7,q7⟩
end
abbrev R2:=V→V→Hp→VK→Prop
def OpR (X:Cx) (f:Value→Value→Sem Value) (r:R2):Prop :=
 ∀ (pins:List (Addr×Obj)) (s:Shared) (σ:St) (H:Hp) (x y:V) (v u:Value) (Q:VK),Inv X pins σ H s→aU x v→aU y u→r x y H Q →
  wpAny (model X.prog X.w) X.A (f v u) (EP X pins σ Q) X.xe s
def cM (X:Cx) (f:Value) (r:List V→Hp→VK→Prop):Prop :=
 ∀ (pins:List (Addr×Obj)) (s:Shared) (σ:St) (H:Hp) (xs:List V) (us:List Value) (Q:VK),Inv X pins σ H s→aI xs us→r xs H Q →
  wpAny (model X.prog X.w) X.A (call f us) (EP X pins σ Q) X.xe s
def TruR (X:Cx) (r:V→Hp→(Bool→Hp→Prop)→Prop):Prop :=
 ∀ (pins:List (Addr×Obj)) (s:Shared) (σ:St) (H:Hp) (x:V) (v:Value) (Q:Bool→Hp→Prop),Inv X pins σ H s→aU x v→r x H Q →
  wpAny (model X.prog X.w) X.A (truthy v) (TP X pins σ Q) X.xe s
def tOp (r:R2) (ta tb:TE):TE:=fun σ H Q=>ta σ H fun x H1=>tb σ H1 fun y H2=>r x y H2 Q
def rI (C:Int→Int→Prop) (g:Int→Int→V):R2:=fun x y H Q=>∃ i j,x = .int i∧y = .int j∧C i j∧Q (g i j) H
def rI0 (g:Int→Int→V):R2:=fun x y H Q=>∃ i j,x = .int i∧y = .int j∧Q (g i j) H
section
variable {X:Cx} {a b c:Expr} {ta tb tc:TE} {pos:Pos}
theorem binT (ha:PE X a ta) (hb:PE X b tb) {pins:List (Addr×Obj)} {s:Shared} {σ:St} {H:Hp} {R:V→V→Hp→Prop} (I:Inv X pins σ H s)
 (h:ta σ H fun x H1=>tb σ H1 fun y H2=>R x y H2) {Q:Value→Shared→Prop} {f:Value→Value→Sem Value}
 (hf:∀ v u s2 x y H2,Inv X pins σ H2 s2→aU x v→aU y u→R x y H2→wpAny (model X.prog X.w) X.A (f v u) Q X.xe s2) :
 wpAny (model X.prog X.w) X.A (eval a X.env) (fun v s₁=>wpAny (model X.prog X.w) X.A (eval b X.env) (fun u s₂=>wpAny (model X.prog X.w) X.A (f v u) Q X.xe s₂) X.xe s₁) X.xe s:=by
 refine thn (ha pins s σ H _ I h) fun v s1 ⟨x,H1,I1,r1,q1⟩=>?_
 refine thn (hb pins s1 σ H1 _ I1 q1) fun u s2 ⟨y,H2,I2,r2,q2⟩=>?_
 exact hf v u s2 x y H2 I2 r1 r2 q2
theorem oh {op:Operator} {r:R2} (ho:OpR X (binaryOp op) r) (ha:PE X a ta) (hb:PE X b tb):PE X (.BinOp a op b pos) (tOp r ta tb):=by
 (try refine ⟨?_⟩); intro pins s σ H Q I h
 exact wpAny_BinOp (binT ha hb I h fun v u s2 x y H2 I2 rx ry q=>ho pins s2 σ H2 x y v u Q I2 rx ry q)
theorem opI {f:Value→Value→Sem Value} {C:Int→Int→Prop} {g:Int→Int→Int}
 (rule:∀ (i j:Int) (t u:Tok) (s:Shared) (Q:Value→Shared→Prop) (E:Value→Shared→Prop),C i j→Q (.int (g i j) s.toks) { s with toks:=s.toks + 1 }→wpAny (model X.prog X.w) X.A (f (.int i t) (.int j u)) Q E s) :
 OpR X f (rI C fun i j=>.int (g i j)):=by
 (try refine ⟨?_⟩); intro pins s σ H x y v u Q I rx ry h
 obtain ⟨i,j,rfl,rfl,hc,q⟩:=h
 obtain ⟨t,rfl⟩:=rx
 obtain ⟨t',rfl⟩:=ry
 exact rule i j t t' s _ _ hc ⟨.int (g i j),H,I.tok _,⟨_,rfl⟩,q⟩
theorem opI0 {f:Value→Value→Sem Value} {g:Int→Int→Int}
 (rule:∀ (i j:Int) (t u:Tok) (s:Shared) (Q:Value→Shared→Prop) (E:Value→Shared→Prop),Q (.int (g i j) s.toks) { s with toks:=s.toks + 1 }→wpAny (model X.prog X.w) X.A (f (.int i t) (.int j u)) Q E s) :
 OpR X f (rI0 fun i j=>.int (g i j)):=by
 (try refine ⟨?_⟩); intro pins s σ H x y v u Q I rx ry h
 obtain ⟨i,j,rfl,rfl,q⟩:=h
 obtain ⟨t,rfl⟩:=rx
 obtain ⟨t',rfl⟩:=ry
 exact rule i j t t' s _ _ ⟨.int (g i j),H,I.tok _,⟨_,rfl⟩,q⟩
theorem opB0 {f:Value→Value→Sem Value} {g:Int→Int→Bool}
 (rule:∀ (i j:Int) (t u:Tok) (s:Shared) (Q:Value→Shared→Prop) (E:Value→Shared→Prop),Q (.bool (g i j)) s→wpAny (model X.prog X.w) X.A (f (.int i t) (.int j u)) Q E s) :
 OpR X f (rI0 fun i j=>.bl (g i j)):=by
 (try refine ⟨?_⟩); intro pins s σ H x y v u Q I rx ry h
 obtain ⟨i,j,rfl,rfl,q⟩:=h
 obtain ⟨t,rfl⟩:=rx
 obtain ⟨t',rfl⟩:=ry
 exact rule i j t t' s _ _ ⟨.bl (g i j),H,I,rfl,q⟩
def CDiv (i j:Int):Prop:=0<j∧j<1073741824
def CPow (i j:Int):Prop:=0≤j∧j≤1000000∧i.natAbs<2 ^ 64
def CMul (i j:Int):Prop:=(-(2 ^ 64)<i∧i<2 ^ 64)∨(-(2 ^ 64)<j∧j<2 ^ 64)
theorem CMul.ok {i j:Int} (h:CMul i j):IntMulOk i j:=by
 rcases h with ⟨h1,h2⟩ | ⟨h1,h2⟩
 ·exact .of_left (intBits_le_64 h1 h2)
 ·exact .of_right (intBits_le_64 h1 h2)
theorem bo:OpR X (binaryOp .Add) (rI0 fun i j=>.int (i + j)):=opI0 fun _ _ _ _ _ _ _ q=>add_int q
theorem bz:OpR X (binaryOp .Sub) (rI0 fun i j=>.int (i - j)):=opI0 fun _ _ _ _ _ _ _ q=>sub_int q
theorem dA:OpR X (binaryOp .Mult) (rI CMul fun i j=>.int (i * j)):=opI fun _ _ _ _ _ _ _ hc q=>mul_int q hc.ok
theorem lN:OpR X (binaryOp .FloorDiv) (rI CDiv fun i j=>.int (i / j)):=opI fun i j _ _ _ _ _ hc q=>by
 have h1:(0:Int)<j:=hc.1
 have h2:j<1073741824:=hc.2
 exact floordiv_int (by omega) (by rw [Int.fdiv_eq_ediv_of_nonneg i (by omega)]; exact q) (.inl (PyProof.noPylong_small (by omega)))
theorem cN:OpR X (binaryOp .Mod) (rI (fun _ j=>0<j) fun i j=>.int (i % j)):=opI fun i j _ _ _ _ _ hc q=>by
 have h1:(0:Int)<j:=hc
 exact mod_int' (by omega) (by rw [Int.fmod_eq_emod_of_nonneg i (by omega)]; exact q)
theorem gr:OpR X (binaryOp .Pow) (rI CPow fun i j=>.int (i ^ j.toNat)):=opI fun _ _ _ _ _ _ _ hc q=>pow_int_small hc.1 hc.2.1 hc.2.2 q
end
section
variable {X:Cx} {a b c:Expr} {ta tb tc:TE} {pos:Pos}
theorem rC:OpR X (compareOp .Lt) (rI0 fun i j=>.bl (decide (i<j))):=opB0 fun _ _ _ _ _ _ _ q=>lt_int q
theorem l9:OpR X (compareOp .LtE) (rI0 fun i j=>.bl (decide (i≤j))):=opB0 fun _ _ _ _ _ _ _ q=>le_int q
theorem gJ:OpR X (compareOp .Gt) (rI0 fun i j=>.bl (decide (j<i))):=opB0 fun _ _ _ _ _ _ _ q=>gt_int q
theorem op_ge:OpR X (compareOp .GtE) (rI0 fun i j=>.bl (decide (j≤i))):=opB0 fun _ _ _ _ _ _ _ q=>ge_int q
theorem aL (b:Expr) {op:CmpOp} (h:op≠.In:=by decide) (h2:op≠.NotIn:=by decide):behindInMarks op b=false:=by
 have e1:(op == CmpOp.In)=false:=by cases op <;> first | rfl | exact absurd rfl h
 have e2:(op == CmpOp.NotIn)=false:=by cases op <;> first | rfl | exact absurd rfl h2
 cases b <;> simp [behindInMarks,e1,e2]
theorem qX {op:CmpOp} {r:R2} (ho:OpR X (compareOp op) r) (ha:PE X a ta) (hb:PE X b tb) (hm:behindInMarks op b=false):PE X (.Compare a [op] [b] pos) (tOp r ta tb):=by
 (try refine ⟨?_⟩); intro pins s σ H Q I h
 exact wpAny_Compare1 (binT ha hb I h fun v u s2 x y H2 I2 rx ry q=>ho pins s2 σ H2 x y v u Q I2 rx ry q) hm
def rF (t:TE):TT:=fun σ H Q=>t σ H fun x H'=>∃ k,x = .bl k∧Q k H'
theorem ql {op:CmpOp} {r:R2} (ho:OpR X (compareOp op) r) (ha:PE X a ta) (hb:PE X b tb) (hm:behindInMarks op b=false):PT X (.Compare a [op] [b] pos) (rF (tOp r ta tb)):=by
 (try refine ⟨?_⟩); intro pins s σ H Q I h
 refine wpAny_isTrue_Compare1 (thn (ha pins s σ H _ I h) fun v s1 ⟨x,H1,I1,r1,q1⟩=>thn (hb pins s1 σ H1 _ I1 q1) fun u s2 ⟨y,H2,I2,r2,q2⟩ =>
  thn (ho pins s2 σ H2 x y v u _ I2 r1 r2 q2) fun c s3 ⟨z,H3,I3,r3,k,e,q3⟩=>?_) hm
 subst e
 cases r3
 exact wpAny_truthy_bool ⟨H3,I3,q3⟩
def oO (r r':R2) (ta tb tc:TE):TE:=fun σ H Q=>ta σ H fun x H1=>tb σ H1 fun y H2=>r x y H2 fun z H3=>∃ k,z = .bl k ∧
 (if k=true then tc σ H3 fun w' H4=>r' y w' H4 Q else Q (.bl false) H3)
theorem o6 {op op':CmpOp} {r r':R2} (ho:OpR X (compareOp op) r) (ho':OpR X (compareOp op') r') (ha:PE X a ta) (hb:PE X b tb) (hc:PE X c tc)
 (hm:lastMarks [op,op'] [b,c]=false:=by with_unfolding_all rfl):PE X (.Compare a [op,op'] [b,c] pos) (oO r r' ta tb tc):=by
 (try refine ⟨?_⟩); intro pins s σ H Q I h
 refine Compare_chain (thn (ha pins s σ H _ I h) fun v s1 ⟨x,H1,I1,r1,q1⟩=>chain_link (thn (hb pins s1 σ H1 _ I1 q1) fun u s2 ⟨y,H2,I2,r2,q2⟩ =>
  thn (ho pins s2 σ H2 x y v u _ I2 r1 r2 q2) fun d s3 ⟨z,H3,I3,r3,k,e,q3⟩=>?_)) hm
 subst e
 cases r3
 refine wpAny_truthy_bool ?_
 cases k with
 | false=>exact ite_ff ⟨.bl false,H3,I3,rfl,q3⟩
 | true=>exact ite_tt (chain_last (thn (hc pins s3 σ H3 _ I3 q3) fun w' s4 ⟨z',H4,I4,r4,q4⟩=>ho' pins s4 σ H4 y z' u w' Q I4 r2 r4 q4))
def TruV (K:PySem.W.Frag) (x:V) (H:Hp) (k:Bool):Prop :=
 match x with
 | .non=>k=false
 | .bl b=>k=b
 | .int i=>k=(i != 0)
 | .str y=>y.length≤sizeLine∧k=((y.length:Int) != 0)
 | .byt y=>y.size≤sizeLine∧k=((y.size:Int) != 0)
 | .ref p=>(∃ xs,SqL K H p xs∧k = !xs.isEmpty)∨(∃ xs,SqT K H p xs∧k = !xs.isEmpty)∨∃ kvs,H p=some (.dK kvs)∧k = !kvs.isEmpty
 | _=>False
theorem lz {κ:Type} {kvs:List (κ×V)} {vs:List (κ×Value)} (r:KV kvs vs):(!vs.isEmpty) = !kvs.isEmpty:=by
 cases r <;> rfl
theorem io {xs:List V} {its:List Value} (r:aI xs its):(!its.toArray.isEmpty) = !xs.isEmpty:=by
 cases r <;> simp
theorem ff:(sizeLine:Nat)<2 ^ 63:=by rw [sizeLine_eq]; decide
theorem tI:TruR X (fun x H Q=>∃ k,TruV X.K x H k∧Q k H):=by
 (try refine ⟨?_⟩); intro pins s σ H x v Q I rx h
 obtain ⟨k,e,q⟩:=h
 have hl:=ff
 have hs:sizeLine=16777216:=sizeLine_eq
 cases x with
 | non =>
  cases rx
  have e':k=false:=e
  subst e'
  exact truthy_none ⟨H,I,q⟩
 | bl b =>
  cases rx
  have e':k=b:=e
  subst e'
  exact wpAny_truthy_bool ⟨H,I,q⟩
 | int i =>
  obtain ⟨t,rfl⟩:=rx
  have e':k=(i != 0):=e
  subst e'
  exact PySem.P.truthy_int ⟨H,I,q⟩
 | str y =>
  obtain ⟨t,rfl⟩:=rx
  obtain ⟨hy,e'⟩:y.length≤sizeLine∧k=((y.length:Int) != 0):=e
  subst e'
  exact PySem.P.truthy_str (by omega) ⟨H,I.tok _,q⟩
 | byt y =>
  obtain ⟨t,rfl⟩:=rx
  obtain ⟨hy,e'⟩:y.size≤sizeLine∧k=((y.size:Int) != 0):=e
  subst e'
  exact PySem.W.truthy_bytes (by omega) ⟨H,I.tok _,q⟩
 | ref p =>
  cases rx
  have e':(∃ xs,SqL X.K H p xs∧k = !xs.isEmpty)∨(∃ xs,SqT X.K H p xs∧k = !xs.isEmpty)∨∃ kvs,H p=some (.dK kvs)∧k = !kvs.isEmpty:=e
  rcases e' with ⟨xs,hx,e'⟩ | ⟨xs,hx,e'⟩ | ⟨kvs,hx,e'⟩
  ·subst e'
   obtain ⟨its,r,pl,hz⟩:=I.list hx
   have hlen:=r.length
   exact wpAny_truthy_list pl.isList (by simp only [List.size_toArray]; omega) ⟨H,I.tok _,by rw [io r]; exact q⟩
  ·subst e'
   obtain ⟨its,r,pl,hz⟩:=I.tuple hx
   have hlen:=r.length
   exact truthy_tuple pl (by simp only [List.size_toArray]; omega) ⟨H,I.tok _,by rw [io r]; exact q⟩
  ·subst e'
   obtain ⟨hz,hS,vs,r,m⟩:kvs.length≤sizeLine∧(p == sysModules)=false∧∃ vs,KV kvs vs∧s.heap.DictOf (jf X.prog X.w) p vs:=I.hok p _ hx
   have hlen:kvs.length=vs.length:=Paired.length r
   exact wpAny_truthy_dict hS m (by omega) ⟨H,I.tok _,by rw [lz r]; exact q⟩
 | _=>exact (show False from e).elim
theorem gH {x:V} {us:List Value} (r:aI [x] us):∃ u,us=[u]∧aU x u:=by
 cases r with
 | cons r1 r2=>cases r2; exact ⟨_,rfl,r1⟩
theorem lQ {x y:V} {us:List Value} (r:aI [x,y] us):∃ u w',us=[u,w']∧aU x u∧aU y w':=by
 cases r with
 | cons r1 r2 =>
  cases r2 with
  | cons r3 r4=>cases r4; exact ⟨_,_,rfl,r1,r3⟩
theorem i9 (hc:X.calm=true):cM X (.builtin "max") (fun xs H Q=>∃ i j,xs=[.int i,.int j]∧Q (.int (if j > i then j else i)) H):=by
 (try refine ⟨?_⟩); intro pins s σ H xs us Q I r h
 obtain ⟨i,j,rfl,q⟩:=h
 obtain ⟨u,w',rfl,⟨t,rfl⟩,⟨t',rfl⟩⟩:=lQ r
 refine max_two_ints (I.ok.hd hc) fun h' tk k=>⟨_,H,I.kept k,?_,q⟩
 by_cases hj:j > i
 ·rw [if_pos hj,if_pos hj]; exact ⟨_,rfl⟩
 ·rw [if_neg hj,if_neg hj]; exact ⟨_,rfl⟩
theorem de (hc:X.calm=true):cM X (.builtin "min") (fun xs H Q=>∃ i j,xs=[.int i,.int j]∧Q (.int (if j<i then j else i)) H):=by
 (try refine ⟨?_⟩); intro pins s σ H xs us Q I r h
 obtain ⟨i,j,rfl,q⟩:=h
 obtain ⟨u,w',rfl,⟨t,rfl⟩,⟨t',rfl⟩⟩:=lQ r
 refine min_two_ints (I.ok.hd hc) fun h' tk k=>⟨_,H,I.kept k,?_,q⟩
 by_cases hj:j<i
 ·rw [if_pos hj,if_pos hj]; exact ⟨_,rfl⟩
 ·rw [if_neg hj,if_neg hj]; exact ⟨_,rfl⟩
theorem mw:cM X (.type "int") (fun xs H Q=>(∃ i,xs=[.int i]∧Q (.int i) H)∨∃ k,xs=[.bl k]∧Q (.int (if k then 1 else 0)) H):=by
 (try refine ⟨?_⟩); intro pins s σ H xs us Q I r h
 rcases h with ⟨i,rfl,q⟩ | ⟨k,rfl,q⟩
 ·obtain ⟨u,rfl,t,rfl⟩:=gH r
  exact call_int_int ⟨.int i,H,I,⟨_,rfl⟩,q⟩
 ·obtain ⟨u,rfl,r1⟩:=gH r
  cases r1
  exact call_int_bool ⟨.int (if k then 1 else 0),H,I.tok _,⟨_,rfl⟩,q⟩
end
structure ObjM (h:Heap) (x dx C:Addr) (mA:Str→Option Value):Prop where
 obj:h.get? x=some (PySem.W.instObj C dx)
 ns:h.Ns1 dx mA
 ne:dx≠x
theorem mm {h:Heap} {dx:Addr} {mA:Str→Option Value} (n:h.Ns1 dx mA):∃ od,h.get? dx=some od∧∀ name,PySem.W.lookIn name od=some (mA name):=by
 obtain ⟨o,es,ep,ho,hd,hk,_,hm⟩:=n
 refine ⟨o,ho,fun name=>?_⟩
 have e:=hm name
 unfold nsFind findBy at e
 rw [← Array.find?_toList] at e
 unfold PySem.W.lookIn
 rw [hd]
 dsimp only
 split
 ·rename_i y q
  rw [q] at e
  exact congrArg some e
 ·rename_i q
  rw [q] at e
  have a:es.toList.any (·.refKey)=false:=by
   rw [List.any_eq_false]
   intro y hy
   obtain ⟨z,t,hkey⟩:=hk y (Array.mem_toList_iff.mp hy)
   simp [DictEntry.refKey,hkey]
  have a' : ¬ es.toList.any (·.refKey)=true:=by rw [a]; exact Bool.false_ne_true
  rw [if_neg a']
  exact congrArg some e
theorem ObjM.look {h:Heap} {x dx C:Addr} {mA:Str→Option Value} (I:ObjM h x dx C mA):∃ od,PySem.W.InstAt h x (PySem.W.instObj C dx) C (some od)∧∀ name,PySem.W.lookIn name od=some (mA name) :=
 let ⟨od,ho,hl⟩:=mm I.ns
 ⟨od,⟨I.obj,rfl,rfl,ho⟩,hl⟩
section
variable {prog:Program} {w:World} {A:Around} {E:Value→Shared→Prop} {s:Shared} {K:PySem.W.Frag} {x dx C f:Addr} {mA:Str→Option Value} {name:Str} {v:Value}
theorem rg {expr:Bool} {Q:Value→Shared→Prop} (X:K.In s.heap) (I:ObjM s.heap x dx C mA) (hg:PySem.W.plainGet K C name=true) (hh:PySem.W.hasDictIn K C=true)
 (ha:PySem.W.findIn K (.ref C) name=some none) (hv:mA name=some v) (hv':PySem.W.handedIn v=true) (h:Q v { s with toks:=s.toks + 1 }) :
 wpAny (model prog w) A (getAttr (.ref x) name expr) Q E s:=by
 obtain ⟨od,J,hl⟩:=I.look
 exact PySem.W.get_value X J (PySem.W.plainGet_of hg).1 (PySem.W.findObj_own hh ha rfl (by rw [hl,hv])) hv' h
theorem o9 {pl:Sem Bool} {Q:Value×List Value→Shared→Prop} (X:K.In s.heap) (I:ObjM s.heap x dx C mA) (hg:PySem.W.plainGet K C name=true)
 (hf:PySem.W.findIn K (.ref C) name=some (some (.ref f))) (ht:PySem.W.isFn K (.ref f)=true) (hv:mA name=none) (h:Q (.ref f,[.ref x]) s) :
 wpAny (model prog w) A (getMethod (.ref x) name pl) Q E s:=by
 obtain ⟨od,J,hl⟩:=I.look
 exact PySem.W.method_fn X J (PySem.W.plainGet_of hg).1 (PySem.W.plainGet_of hg).2 hf (beq_iff_eq.mp ht) (by show (PySem.W.lookIn name od).map (·.isSome)=some false; rw [hl,hv]; rfl) h
theorem qR {ns:List Str} {Q:Unit→Shared→Prop} (X:K.In s.heap) (I:ObjM s.heap x dx C mA)
 (hs:PySem.W.findIn K (.ref C) "__setattr__" = some (some (.builtin "object.__setattr__"))) (hp:PySem.W.plainOver K C=true) (ht:PySem.W.takerIn K C name=some none) (hh:PySem.W.hasDictIn K C=true)
 (hw:PySem.Within mA ns) (hsz:ns.length≤sizeLine)
 (h:∀ h',ObjM h' x dx C (fun y=>if y=name then some v else mA y)→Heap.SameBut dx s.heap h'→Q () { s with heap:=h',toks:=s.toks + 2 }) :
 wpAny (model prog w) A (setAttr (.ref x) name v) Q E s:=by
 obtain ⟨od,J,hl⟩:=I.look
 refine PySem.W.set_plain X J hs (PySem.W.osa_open (s:={ s with toks:=s.toks + 1 }) (r:=none) X J hp ht fun b=>?_)
 obtain ⟨cd,hc,hd'⟩:=PySem.W.any_some hh
 have hx:s.heap.get? x=some ⟨.ref C,some dx,.plain,#[]⟩:=I.obj
 refine wpAny_bind (wpAny_pure (wpAny_bind (wpAny_bind (wpAny_loadPart hx (wpAny_bind (PySem.W.Looks.here (s:={ s with toks:=s.toks + 1 }) (PySem.W.looks_clsIn X hc) ?_))))))
 rw [hd']
 refine wpAny_pure (a:=some dx) (wpAny_bind (wpAny_pure (wpAny_bind ?_)))
 refine wpAny_nsSet1 (s:={ s with toks:=s.toks + 1 }) I.ns fun h' hn2 hs2=>?_
 obtain ⟨oD,esD,epD,hoD,hdD,hcD⟩:=hn2.count (PySem.Within.cons name v hw)
 refine wpAny_bind (wpAny_lookBehind hoD (by rw [hdD]; exact pastItsLine_dict (Nat.le_trans hcD (by rw [List.length_cons]; omega))) ?_)
 exact wpAny_pure (h _ ⟨(hs2.2 _ (Ne.symm I.ne)).trans I.obj,hn2,I.ne⟩ hs2)
theorem ol {R:Result→Shared→Prop} {vs:List Value} {kw:List (Str×Value)} (X:K.In s.heap) (hm:PySem.W.makesIn K C=true)
 (hi:PySem.W.findIn K (.ref C) "__init__" = some (some (.ref f))) (hf:PySem.W.typeIn K (.ref f)=some (.type "function"))
 (h:codeAny (model prog w) (A.under (.builtin "type.__call__" ⟨.ref C :: vs,kw⟩)) (.call (.ref f) ⟨.ref (s.heap.objs.size + 1) :: vs,kw⟩) (PySem.W.InitBack (s.heap.objs.size + 1) R)
  { s with heap:=(s.heap.push PySem.W.emptyDict).push (PySem.W.instObj C s.heap.objs.size) }) :
 codeAny (model prog w) A (.call (.ref C) ⟨vs,kw⟩) R s:=by
 obtain ⟨hh,g,d,t,os⟩:=s
 exact PySem.W.make_core (PySem.W.makes_of X hm) (PySem.W.looks_findIn X hi) (fun self=>PySem.W.bind_fn X self hf) (.inl rfl) h
end
def dX (f:Str) (v:V):List (Str×V)→List (Str×V)
 | []=>[(f,v)]
 | (g,x) :: r=>if g=f then (g,v) :: r else (g,x) :: dX f v r
theorem gB (f g:Str) (v:V):∀ fs:List (Str×V),(dX f v fs).lookup g=if g=f then some v else fs.lookup g
 | []=>by
  show List.lookup g [(f,v)]=_
  by_cases h:g=f
  ·have hb:(g == f)=true:=beq_iff_eq.mpr h
   simp only [List.lookup,hb,if_pos h]
  ·have hb:(g == f)=false:=beq_eq_false_iff_ne.mpr h
   simp only [List.lookup,hb,if_neg h]
 | (k,x) :: r=>by
  have ih:=gB f g v r
  rw [show dX f v ((k,x) :: r)=(if k=f then (k,v) :: r else (k,x) :: dX f v r) from rfl]
  by_cases hk:k=f
  ·rw [if_pos hk]
   by_cases h:g=k
   ·have hb:(g == k)=true:=beq_iff_eq.mpr h
    simp only [List.lookup,hb,if_pos (h.trans hk)]
   ·have hb:(g == k)=false:=beq_eq_false_iff_ne.mpr h
    simp only [List.lookup,hb,if_neg (fun e:g=f=>h (e.trans hk.symm))]
  ·rw [if_neg hk]
   by_cases h:g=k
   ·have hb:(g == k)=true:=beq_iff_eq.mpr h
    simp only [List.lookup,hb,if_neg (fun e:g=f=>hk (h.symm.trans e))]
   ·have hb:(g == k)=false:=beq_eq_false_iff_ne.mpr h
    simp only [List.lookup,hb]
    exact ih
theorem gm (f:Str) (v:V):∀ fs:List (Str×V),f∈(dX f v fs).map (·.1)∧∀ g,g∈fs.map (·.1)→g∈(dX f v fs).map (·.1)
 | []=>⟨by simp [dX],fun g h=>by simp at h⟩
 | (k,x) :: r=>by
  obtain ⟨i1,i2⟩:=gm f v r
  rw [show dX f v ((k,x) :: r)=(if k=f then (k,v) :: r else (k,x) :: dX f v r) from rfl]
  by_cases hk:k=f
  ·rw [if_pos hk]
   subst hk
   exact ⟨by simp,fun g h=>by simpa using h⟩
  ·rw [if_neg hk]
   refine ⟨?_,fun g h=>?_⟩
   ·rw [List.map_cons]
    exact List.mem_cons_of_mem _ i1
   ·rw [List.map_cons] at h ⊢
    rcases List.mem_cons.mp h with e | e
    ·exact List.mem_cons.mpr (.inl e)
    ·exact List.mem_cons_of_mem _ (i2 g e)
theorem gF (f:Str) (v:V):∀ fs:List (Str×V),(dX f v fs).length≤fs.length + 1
 | []=>by simp [dX]
 | (k,x) :: r=>by
  have ih:=gF f v r
  rw [show dX f v ((k,x) :: r)=(if k=f then (k,v) :: r else (k,x) :: dX f v r) from rfl]
  by_cases hk:k=f
  ·rw [if_pos hk,List.length_cons,List.length_cons]; omega
  ·rw [if_neg hk,List.length_cons,List.length_cons]; omega
theorem iD.some_of {v:V} {o:Option Value} (r:iD (some v) o):∃ u,o=some u∧aU v u:=by
 cases o with
 | none=>exact (show False from r).elim
 | some u=>exact ⟨u,rfl,r⟩
theorem iD.none_of {o:Option Value} (r:iD none o):o=none:=by
 cases o with
 | none=>rfl
 | some u=>exact (show False from r).elim
theorem mQ {v:V} {u:Value} (r:aU v u):PySem.W.handedIn u=true:=by
 cases v with
 | non=>cases (show u=Value.none from r); rfl
 | bl b=>cases (show u=Value.bool b from r); rfl
 | int i=>obtain ⟨t,e⟩:=(show ∃ t,u=Value.int i t from r); cases e; rfl
 | str x=>obtain ⟨t,e⟩:=(show ∃ t,u=Value.str x t from r); cases e; rfl
 | byt b=>obtain ⟨t,e⟩:=(show ∃ t,u=Value.bytes b t from r); cases e; rfl
 | flt b=>obtain ⟨t,e⟩:=(show ∃ t,u=Value.float b t from r); cases e; rfl
 | ref a=>cases (show u=Value.ref a from r); rfl
 | ty n=>cases (show u=Value.type n from r); rfl
section
variable {P:Program} {w:World} {H H':Hp} {h h':Heap} {a C dx:Addr} {fs fs':List (Str×V)}
theorem gY (hok:HOk P w H h) (e:H a=some (.ins C dx fs)):∃ mA,ObjM h a dx C mA∧(∀ f,iD (fs.lookup f) (mA f))∧PySem.Within mA (fs.map (·.1))∧fs.length≤1000∧H dx=some (.own a):=by
 obtain ⟨d,z,ne,ob,mA,n,r,q⟩:=(show bE P w H h a (.ins C dx fs) from hok a _ e)
 exact ⟨mA,⟨ob,n,ne⟩,r,q,z,d⟩
end
structure Cls (K:PySem.W.Frag) (C:Addr):Prop where
 pg:PySem.W.plainGet K C Str.empty=true
 hd:PySem.W.hasDictIn K C=true
 po:PySem.W.plainOver K C=true
 sa:PySem.W.findIn K (.ref C) "__setattr__" = some (some (.builtin "object.__setattr__"))
theorem Cls.get {K:PySem.W.Frag} {C:Addr} (c:Cls K C) (f:Str):PySem.W.plainGet K C f=true:=c.pg
def bD (K:PySem.W.Frag) (C:Addr) (f:Str):Prop:=PySem.W.findIn K (.ref C) f=some none
theorem bD.taker {K:PySem.W.Frag} {C:Addr} {f:Str} (n:bD K C f):PySem.W.takerIn K C f=some none:=by
 unfold PySem.W.takerIn
 rw [show PySem.W.findIn K (.ref C) f=some none from n]
 rfl
structure Meth (K:PySem.W.Frag) (C:Addr) (m:Str) (f:Addr):Prop where
 at_:PySem.W.findIn K (.ref C) m=some (some (.ref f))
 fn:PySem.W.isFn K (.ref f)=true
 kp:PySem.W.keepIn K (.ref f)=true
section
variable {X:Cx} {pins:List (Addr×Obj)} {σ:St} {H:Hp} {s:Shared} {a C dx:Addr} {fs:List (Str×V)} {f:Str} {v:V} {A:Around} {E:Value→Shared→Prop}
theorem kN {b:Bool} {Q:Value→Shared→Prop} (I:Inv X pins σ H s) (e:H a=some (.ins C dx fs)) (c:Cls X.K C) (n:bD X.K C f) (l:fs.lookup f=some v)
 (h:∀ u s',Inv X pins σ H s'→aU v u→Q u s'):wpAny (model X.prog X.w) A (getAttr (.ref a) f b) Q E s:=by
 obtain ⟨mA,O,r,_,_,_⟩:=gY I.hok e
 obtain ⟨u,hu,ru⟩:=iD.some_of (v:=v) (o:=mA f) (by rw [← l]; exact r f)
 exact rg I.kIn O (c.get f) c.hd n hu (mQ ru) (h u _ (I.tok _) ru)
theorem eZ {m:Str} {g:Addr} {pl:Sem Bool} {Q:Value×List Value→Shared→Prop} (I:Inv X pins σ H s) (e:H a=some (.ins C dx fs)) (c:Cls X.K C) (k:Meth X.K C m g) (l:fs.lookup m=none)
 (h:Q (.ref g,[.ref a]) s):wpAny (model X.prog X.w) A (getMethod (.ref a) m pl) Q E s:=by
 obtain ⟨mA,O,r,_,_,_⟩:=gY I.hok e
 have hn:mA m=none:=iD.none_of (by rw [← l]; exact r m)
 exact o9 I.kIn O (c.get m) k.at_ k.fn hn h
theorem kF {y:V} {u:Value} {Q:Unit→Shared→Prop} (I:Inv X pins σ H s) (e:H a=some (.ins C dx fs)) (c:Cls X.K C) (n:bD X.K C f) (hl:fs.length<1000) (ry:aU y u)
 (h:∀ s',Inv X pins σ (upd H a (.ins C dx (dX f y fs))) s'→Q () s'):wpAny (model X.prog X.w) A (setAttr (.ref a) f u) Q E s:=by
 obtain ⟨mA,O,r,wi,_,ho⟩:=gY I.hok e
 have hz:(fs.map (·.1)).length≤sizeLine:=by rw [List.length_map,sizeLine_eq]; omega
 refine qR I.kIn O c.sa c.po n.taker c.hd wi hz fun h' O' sb=>h _ ?_
 have hd:∃ o,h'.get? dx=some o:=let ⟨o,_,_,e',_⟩:=O'.ns; ⟨o,e'⟩
 refine I.write (x:=a) (e:=dx) (by rw [e]; exact True.intro) (.inr ho) (fun b q hb z=>(sb.2 b hb).trans z) hd ?_
 refine ⟨by rw [ag O.ne]; exact ho,?_,O.ne,O'.obj,_,O'.ns,fun g=>?_,fun g hg=>?_⟩
 ·have:=gF f y fs; omega
 ·show iD ((dX f y fs).lookup g) (if g=f then some u else mA g)
  rw [gB]
  by_cases q:g=f
  ·rw [if_pos q,if_pos q]; exact ry
  ·rw [if_neg q,if_neg q]; exact r g
 ·by_cases q:g=f
  ·rw [q]; exact (gm f y fs).1
  ·refine (gm f y fs).2 g (wi g fun z=>hg ?_)
   show (if g=f then some u else mA g)=none
   rw [if_neg q]; exact z
theorem Inv.made (I:Inv X pins σ H s):Inv X pins σ (upd (upd H s.heap.objs.size (.own (s.heap.objs.size + 1))) (s.heap.objs.size + 1) (.ins C s.heap.objs.size []))
 { s with heap:=(s.heap.push PySem.W.emptyDict).push (PySem.W.instObj C s.heap.objs.size) }:=by
 have e1:(s.heap.push PySem.W.emptyDict).get? s.heap.objs.size=some PySem.W.emptyDict:=Heap.get?_push_size s.heap rfl
 have e2:((s.heap.push PySem.W.emptyDict).push (PySem.W.instObj C s.heap.objs.size)).get? (s.heap.objs.size + 1)=some (PySem.W.instObj C s.heap.objs.size):=by
  have:=Heap.get?_push_size (s.heap.push PySem.W.emptyDict) (o:=PySem.W.instObj C s.heap.objs.size) rfl
  rwa [Heap.size_push] at this
 have e3:(s.heap.push PySem.W.emptyDict).Ns s.heap.objs.size (fun _=>none):=⟨PySem.W.emptyDict,#[],_,e1,rfl,(fun e he=>absurd he (by simp)),fun _=>rfl⟩
 have I1:=I.laid (a:=s.heap.objs.size) (o:=.own (s.heap.objs.size + 1)) (h':=s.heap.push PySem.W.emptyDict) (t':=s.toks) (fun b u q=>Heap.get?_push_of_some _ q) (Nat.le_refl _) ⟨_,e1⟩
 refine I1.laid (a:=s.heap.objs.size + 1) (o:=.ins C s.heap.objs.size []) (t':=s.toks) (fun b u q=>Heap.get?_push_of_some _ q) (Nat.le_of_eq (Heap.size_push _ _)) ?_
 have ne:s.heap.objs.size≠s.heap.objs.size + 1:=Nat.ne_of_lt (Nat.lt_succ_self _)
 refine ⟨by rw [ag ne,ax],Nat.zero_le _,ne,e2,fun _=>none,(Heap.Ns1.of_empty e3).at fun o q=>Heap.get?_push_of_some _ q,fun _=>True.intro,fun y hy=>absurd rfl hy⟩
theorem rj {prog:Program} {w:World} {env:Env} {e:Expr} {f:Str} {pos:Pos} {s:Shared} {Q:Value→Shared→Prop} (hb:attributeBase e f env (eval e env)=eval e env)
 (h:wpAny (model prog w) A (eval e env) (fun o s₁=>wpAny (model prog w) A (getAttr o f true) Q E s₁) E s):wpAny (model prog w) A (eval (.Attribute e f pos) env) Q E s :=
 Attribute_any_ h (by rw [arm_eval_Attribute,hb])
end
def tFld (K:PySem.W.Frag) (ta:TE) (f:Str):TE:=fun σ H Q=>ta σ H fun x H1=>∃ a C dx fs v,x = .ref a∧H1 a=some (.ins C dx fs)∧Cls K C∧bD K C f∧fs.lookup f=some v∧Q v H1
def sFld (K:PySem.W.Frag) (ta tv:TE) (f:Str):TS:=fun D σ H=>tv σ H fun y H1=>ta σ H1 fun x H2=>∃ a C dx fs,x = .ref a∧H2 a=some (.ins C dx fs)∧Cls K C∧bD K C f∧fs.length<1000 ∧
 D.nx σ (upd H2 a (.ins C dx (dX f y fs)))
section
variable {X:Cx} {o e value:Expr} {f:Str} {pos pos' tpos:Pos} {ta tv:TE}
theorem o8 (he:PE X e ta) (hb:attributeBase e f X.env (eval e X.env)=eval e X.env):PE X (.Attribute e f pos) (tFld X.K ta f):=by
 (try refine ⟨?_⟩); intro pins s σ H Q I h
 refine rj hb (thn (he pins s σ H _ I h) fun u s1 ⟨x,H1,I1,rx,a,C,dx,fs,v,ex,ea,c,n,l,q⟩=>?_)
 subst ex
 obtain rfl:u=Value.ref a:=rx
 exact kN I1 ea c n l fun u' s2 I2 ru=>⟨v,H1,I2,ru,q⟩
theorem sA (ha:PE X o ta) (hv:PE X value tv) (hs:swapsWith value (some (.Attribute o f pos')) pos.line X.env=pure false):PS X (.Assign [.Attribute o f pos'] value pos) (sFld X.K ta tv f):=by
 (try refine ⟨?_⟩); intro pins s σ H D I h
 refine plainObj_wpAny_Assign_Attribute (thn (hv pins s σ H _ I h) fun u s1 ⟨y,H1,I1,ry,q⟩=>thn (ha pins s1 σ H1 _ I1 q) fun ov s2 ⟨x,H2,I2,rx,a,C,dx,fs,ex,ea,c,n,l,q2⟩=>?_) hs
 subst ex
 obtain rfl:ov=Value.ref a:=rx
 exact kF I2 ea c n l ry fun s3 I3=>⟨σ,_,I3,q2⟩
theorem rM {pl:Sem Bool} {m:Str} {apos:Pos} {args:List Expr} {pins:List (Addr×Obj)} {s:Shared} {σ:St} {H:Hp} {Q:Value→Shared→Prop} {te:TE} (he:PE X e te) (I:Inv X pins σ H s)
 (h:te σ H fun x H1=>∃ a C dx fs g,x = .ref a∧H1 a=some (.ins C dx fs)∧Cls X.K C∧Meth X.K C m g∧fs.lookup m=none ∧
  ∀ s1,Inv X pins σ H1 s1→wpAny (model X.prog X.w) X.A (callWith pos (.ref g) [.ref a] (backTo pos (starEach args X.env)) (backToKw pos (keywordEach [] X.env))) Q X.xe s1)
 (ht:eval (.Call (.Attribute e m apos) args [] pos) X.env=(do
  let ov ← eval e X.env
  standAt apos.atName
  let (f,first) ← holding [ov] (getMethod ov m pl)
  callWith pos f first (backTo pos (starEach args X.env)) (backToKw pos (keywordEach [] X.env)))) :
 wpAny (model X.prog X.w) X.A (eval (.Call (.Attribute e m apos) args [] pos) X.env) Q X.xe s:=by
 refine PySem.W.methodCall_KW (pl:=pl) (thn (he pins s σ H _ I h) fun u s1 ⟨x,H1,I1,rx,a,C,dx,fs,g,ex,ea,c,k,l,q⟩=>?_) ht
 subst ex
 obtain rfl:u=Value.ref a:=rx
 exact eZ I1 ea c k l (q s1 I1)
end
section
variable {X:Cx} {pins:List (Addr×Obj)} {σ:St} {H:Hp} {s:Shared} {A:Around} {E:Value→Shared→Prop} {Q:Value→Shared→Prop} {c:Value} {b:Bool}
inductive TyOf (K:PySem.W.Frag) (H:Hp):V→Value→Prop where
 | non:TyOf K H .non (.type "NoneType")
 | bl (x:Bool):TyOf K H (.bl x) (.type "bool")
 | int (i:Int):TyOf K H (.int i) (.type "int")
 | str (x:Str):TyOf K H (.str x) (.type "str")
 | flt (x:UInt64):TyOf K H (.flt x) (.type "float")
 | lst {a:Addr} {xs:List V} (e:H a=some (.lst xs)):TyOf K H (.ref a) (.type "list")
 | frz {a:Addr} {o:Obj} {xs:List V} (e:H a=some (.frz o (.lst xs))):TyOf K H (.ref a) (.type "list")
 | tup {a:Addr} {xs:List V} (e:H a=some (.tup xs)):TyOf K H (.ref a) (.type "tuple")
 | dK {a:Addr} {kvs:List (Key×V)} (e:H a=some (.dK kvs)):TyOf K H (.ref a) (.type "dict")
 | dT {a:Addr} {kvs:List (List Key×V)} (e:H a=some (.dT kvs)):TyOf K H (.ref a) (.type "dict")
 | ins {a C dx:Addr} {fs:List (Str×V)} (e:H a=some (.ins C dx fs)) (cl:Cls K C) (ha:PySem.W.findIn K (.ref C) "__class__" = some (some (.builtin "object.__class__")))
  (hn:PySem.W.specialIn K (.builtin "object.__class__") "__get__" = some (some (.builtin "getset_descriptor.__get__"))) (htk:PySem.W.takesIn K (.builtin "object.__class__")=some true)
  (hm:PySem.W.mroIn K C (.type "object")=some true):TyOf K H (.ref a) (.ref C)
theorem mI {x:V} {u t:Value} (I:Inv X pins σ H s) (rx:aU x u) (ty:TyOf X.K H x t) (e:PySem.W.kitOne X.K t c=some b) (h:∀ tk,Q (.bool b) { s with toks:=tk }) :
 wpAny (model X.prog X.w) A (call (.builtin "isinstance") [u,c]) Q E s:=by
 cases ty with
 | non=>cases (show u=Value.none from rx); exact PySem.W.kia_one PySem.W.kitx_none I.kIn True.intro e (fun z=>nomatch z) h
 | bl y=>cases (show u=Value.bool y from rx); exact PySem.W.kia_one PySem.W.kitx_bool I.kIn True.intro e (fun z=>nomatch z) h
 | int i=>obtain ⟨t,q⟩:=(show ∃ t,u=Value.int i t from rx); cases q; exact PySem.W.kia_one PySem.W.kitx_int I.kIn True.intro e (fun z=>nomatch z) h
 | str y=>obtain ⟨t,q⟩:=(show ∃ t,u=Value.str y t from rx); cases q; exact PySem.W.kia_one PySem.W.kitx_str I.kIn True.intro e (fun z=>nomatch z) h
 | flt y=>obtain ⟨t,q⟩:=(show ∃ t,u=Value.float y t from rx); cases q; exact PySem.W.kia_one PySem.W.kitx_float I.kIn True.intro e (fun z=>nomatch z) h
 | @lst a xs ea =>
  cases (show u=Value.ref a from rx)
  obtain ⟨_,_,n,_,h1⟩:=(show bE X.prog X.w H s.heap a (.lst xs) from I.hok a _ ea)
  exact PySem.W.kia_one PySem.W.kitx_list I.kIn ⟨_,h1,rfl⟩ e (fun z=>nomatch z) h
 | @frz a ob xs ea =>
  cases (show u=Value.ref a from rx)
  obtain ⟨_,_,_,n,_,h1⟩:=(show bE X.prog X.w H s.heap a (.frz ob (.lst xs)) from I.hok a _ ea)
  exact PySem.W.kia_one PySem.W.kitx_list I.kIn ⟨_,h1,rfl⟩ e (fun z=>nomatch z) h
 | @tup a xs ea =>
  cases (show u=Value.ref a from rx)
  obtain ⟨_,_,_,p⟩:=(show bE X.prog X.w H s.heap a (.tup xs) from I.hok a _ ea)
  obtain ⟨o,h1,h2,_⟩:=p
  exact PySem.W.kia_one PySem.W.kitx_tuple I.kIn ⟨o,h1,h2⟩ e (fun z=>nomatch z) h
 | @dK a kvs ea =>
  cases (show u=Value.ref a from rx)
  obtain ⟨_,_,vs,_,p⟩:=(show bE X.prog X.w H s.heap a (.dK kvs) from I.hok a _ ea)
  obtain ⟨o,es,ep,h1,h2,_⟩:=p
  exact PySem.W.kia_one PySem.W.kitx_dict I.kIn ⟨o,h1,h2.1⟩ e (fun z=>nomatch z) h
 | @dT a kvs ea =>
  cases (show u=Value.ref a from rx)
  obtain ⟨_,_,xs,_,o,es,ep,h1,h2,_⟩:=(show bE X.prog X.w H s.heap a (.dT kvs) from I.hok a _ ea)
  exact PySem.W.kia_one PySem.W.kitx_dict I.kIn ⟨o,h1,h2.1⟩ e (fun z=>nomatch z) h
 | @ins a C dx fs ea cl ha hn htk hm =>
  cases (show u=Value.ref a from rx)
  obtain ⟨mA,O,_⟩:=gY I.hok ea
  obtain ⟨od,J,_⟩:=O.look
  exact PySem.W.kia_one (PySem.W.kitx_own (cl.get _) cl.hd ha hn htk hm) I.kIn J e (fun z=>nomatch z) h
end
structure Room (k:Nat) (A:Around):Prop where
 hd:A.handled=none
 dp:A.depth + 3 * k + 5<recursionLimit
 un:A.units + 16 * k + 200<cLine
 gd:A.guards=some []
theorem Room.mono {j k:Nat} {A:Around} (r:Room k A) (h:j≤k):Room j A:=⟨r.hd,by have:=r.dp; omega,by have:=r.un; omega,r.gd⟩
theorem Room.deeper {k:Nat} {A:Around} (r:Room (k + 1) A) (env:Env):Room k (A.deeper env) :=
 ⟨r.hd,by have:=r.dp; show A.depth + 1 + 3 * k + 5<_; omega,by have:=r.un; show A.units + 3 + 16 * k + 200<_; omega,r.gd⟩
theorem lh {A:Around} {C:Addr} {us:List Value} {kw:List (Str×Value)}:(A.under (.builtin "type.__call__" ⟨.ref C :: us,kw⟩)).depth=A.depth + 1:=by
 first | rfl | simp [Around.under,Code.weight,Code.isCreation,Code.isGuard,Code.isCaller,Code.frames,Code.isFrame,guardIds]
theorem kS {A:Around} {C:Addr} {us:List Value} {kw:List (Str×Value)}:(A.under (.builtin "type.__call__" ⟨.ref C :: us,kw⟩)).units=A.units + 1:=by
 first | rfl | simp [Around.under,Code.cUnits,Code.frames,Code.isFrame]
theorem Room.make {k:Nat} {A:Around} (r:Room (k + 1) A) (C:Addr) (us:List Value) (kw:List (Str×Value)):Room k (A.under (.builtin "type.__call__" ⟨.ref C :: us,kw⟩)) :=
 ⟨r.hd,by have:=r.dp; rw [lh]; omega,by have:=r.un; rw [kS]; omega,r.gd⟩
theorem Room.depth {k:Nat} {A:Around} (r:Room k A):A.depth<recursionLimit:=by have:=r.dp; omega
theorem Room.units {k:Nat} {A:Around} (r:Room k A):A.units + 64<cLine:=by have:=r.un; omega
def tNil:TA:=fun _ H Q=>Q [] H
def tCons (ta:TE) (tr:TA):TA:=fun σ H Q=>ta σ H fun x H1=>tr σ H1 fun xs H2=>Q (x :: xs) H2
section
variable {X:Cx} {e:Expr} {es:List Expr} {te:TE} {t:TA} {pos:Pos}
theorem dS:PA X [] tNil:=⟨fun _ _ _ _ H Q I h=>Calls.spliced_nil ⟨[],H,I,.nil,h⟩⟩
theorem a7 (ha:PE X e te) (hr:PA X es t) (hs:starEach (e :: es) X.env=(false,eval e X.env) :: starEach es X.env:=by rfl):PA X (e :: es) (tCons te t):=by
 (try refine ⟨?_⟩); intro pos pins s σ H Q I h
 rw [hs]
 show wpAny _ _ (spliced ((false,eval e X.env) :: backTo pos (starEach es X.env))) _ _ s
 refine Calls.spliced_cons (thn (ha pins s σ H _ I h) fun u s1 ⟨x,H1,I1,r1,q1⟩=>?_)
 exact thn (hr pos pins s1 σ H1 _ I1 q1) fun us s2 ⟨xs,H2,I2,r2,q2⟩=>⟨x :: xs,H2,I2,.cons r1 r2,q2⟩
def tTup (t:TA):TE:=fun σ H Q=>t σ H fun xs H1=>xs.length≤sizeLine∧∀ p,H1 p=none→Q (.ref p) (upd H1 p (.tup xs))
def tLst (t:TA):TE:=fun σ H Q=>t σ H fun xs H1=>xs.length≤sizeLine∧∀ p,H1 p=none→Q (.ref p) (upd H1 p (.lst xs))
theorem pX {x1} (h:PA X es t):PE X (.Tuple es x1 pos) (tTup t):=by
 (try refine ⟨?_⟩); intro pins s σ H Q I hq
 refine wpAny_Tuple_spliced (thn (h pos pins s σ H _ I hq) fun us s1 ⟨xs,H1,I1,r,z,q⟩=>⟨by rw [← r.length]; exact z,?_⟩)
 have hf:H1 s1.heap.objs.size=none:=I1.hok.fresh (Nat.le_refl _)
 refine ⟨.ref s1.heap.objs.size,upd H1 s1.heap.objs.size (.tup xs),I1.laid (t':=s1.toks) (fun b u e=>Heap.get?_push_of_some _ e) (Nat.le_refl _) ?_,rfl,q _ hf⟩
 exact ⟨z,us,r,⟨_,Heap.get?_push_size _ rfl,rfl,_,rfl⟩⟩
theorem ld (h:PA X es t):PE X (.List es pos) (tLst t):=by
 (try refine ⟨?_⟩); intro pins s σ H Q I hq
 refine wpAny_List_spliced (thn (h pos pins s σ H _ I hq) fun us s1 ⟨xs,H1,I1,r,z,q⟩=>⟨by rw [← r.length]; exact z,?_⟩)
 have hf:H1 s1.heap.objs.size=none:=I1.hok.fresh (Nat.le_refl _)
 refine ⟨.ref s1.heap.objs.size,upd H1 s1.heap.objs.size (.lst xs),I1.laid (t':=s1.toks) (fun b u e=>Heap.get?_push_of_some _ e) (Nat.le_refl _) ?_,rfl,q _ hf⟩
 exact ⟨z,us,0,r,Heap.get?_push_size _ rfl⟩
end
abbrev Sp:=List V→Hp→VK→XK→Prop
abbrev CXT:=List Env→Hp→Shared→XK→Value→Shared→Prop
structure Env0 (P:Program) (w:World) (K:PySem.W.Frag) (mg:Str→Option Value) (base:Heap) (A:Around) (outer:List Env) (s:Shared) (H:Hp):Prop where
 frames:A.frames=some outer
 mod:Mod K mg base
 bs:∀ b o,base.get? b=some o→s.heap.get? b=some o∧H b=none
 bsz:base.objs.size≤s.heap.objs.size
 funs:s.heap.FunFrames base outer
 frf:∀ b∈frs outer,H b=none
 hok:HOk P w H s.heap
 bare:AllBare s.gens
 tb:TbM base H
def CE (outer:List Env) (P:Program) (w:World) (H:Hp) (s:Shared) (Q:VK) (u:Value) (s':Shared):Prop :=
 ∃ v H',s'.os=s.os∧AllBare s'.gens∧Un (frs outer) [] H H' s.heap s'.heap∧HOk P w H' s'.heap∧aU v u∧Q v H'
def CR (CX:CXT) (outer:List Env) (P:Program) (w:World) (H:Hp) (s:Shared) (Q:VK) (E:XK) (r:Result) (s':Shared):Prop :=
 match r with
 | .ok (.ret u)=>CE outer P w H s Q u s'
 | .ok _=>False
 | .error e=>CX outer H s E e s'
structure FnOk (P:Program) (w:World) (K:PySem.W.Frag) (mg:Str→Option Value) (base:Heap) (CX:CXT) (k:Nat) (f:Addr) (fd:FuncData) (ps:List Str) (sp:Sp):Prop where
 len:∀ vs H Q E,sp vs H Q E→vs.length=ps.length
 run:∀ (A:Around) (outer:List Env) (s:Shared) (H:Hp) (args:Args) (us:List Value) (vs:List V) (Q:VK) (E:XK),Room k A→Env0 P w K mg base A outer s H→BindsTo s fd args (ps.zip us)→aI vs us→sp vs H Q E →
  codeAny (model P w) A (.call (.ref f) args) (CR CX outer P w H s Q E) s
theorem FnOk.imp {P:Program} {w:World} {K:PySem.W.Frag} {mg:Str→Option Value} {base:Heap} {CX:CXT} {k:Nat} {f:Addr} {fd:FuncData} {ps:List Str} {sp sp':Sp} (F:FnOk P w K mg base CX k f fd ps sp)
 (h:∀ vs H Q E,sp' vs H Q E→sp vs H Q E):FnOk P w K mg base CX k f fd ps sp' :=
 ⟨fun vs H Q E q=>F.len vs H Q E (h _ _ _ _ q),fun A outer s H args us vs Q E hr he hb hv hs=>F.run A outer s H args us vs Q E hr he hb hv (h _ _ _ _ hs)⟩
theorem Env0.make {P:Program} {w:World} {K:PySem.W.Frag} {mg:Str→Option Value} {base:Heap} {A:Around} {outer:List Env} {s:Shared} {H:Hp} (e:Env0 P w K mg base A outer s H) (C:Addr) (us:List Value) (kw:List (Str×Value)) :
 Env0 P w K mg base (A.under (.builtin "type.__call__" ⟨.ref C :: us,kw⟩)) outer s H:=⟨by first | exact e.frames | (simpa [Around.under,Code.envs,Code.isFrame,pushEnvs] using e.frames),e.mod,e.bs,e.bsz,e.funs,e.frf,e.hok,e.bare,e.tb⟩
section
variable {X:Cx} {pins:List (Addr×Obj)} {σ:St} {H:Hp} {s s':Shared}
theorem Inv.env0 (I:Inv X pins σ H s):Env0 X.prog X.w X.K X.mg X.base X.A X.stack s H :=
 ⟨I.ok.frames,I.ok.mod,I.bs,Nat.le_trans I.ok.bsz I.sz,I.stack,I.stkFree,I.hok,I.bare,I.ok.tb.un I.base⟩
theorem Inv.after {Q:VK} {u:Value} (I:Inv X pins σ H s) (h:CE X.stack X.prog X.w H s Q u s'):EP X pins σ Q u s':=by
 obtain ⟨v,H',os,bare,un,hok,r,q⟩:=h
 obtain ⟨hh,g,d,t,os'⟩:=s'
 obtain rfl:os'=s.os:=os
 exact ⟨v,H',I.call (h':=hh) (g':=g) (d':=d) (t':=t) (ch:=[]) un hok bare (fun b z=>absurd z (by simp)),r,q⟩
end
def tCall (sp:Sp) (dvs:List V) (E:XK) (t:TA):TE:=fun σ H Q=>t σ H fun vs H1=>sp (vs++dvs) H1 Q E
def lU (C:Addr) (m:Str) (sp:Sp) (dvs:List V) (E:XK) (ta:TE) (t:TA):TE:=fun σ H Q=>ta σ H fun x H1=>∃ a dx fs,x = .ref a∧H1 a=some (.ins C dx fs)∧fs.lookup m=none ∧
 t σ H1 fun vs H2=>sp (x :: (vs++dvs)) H2 Q E
def tMake (C:Addr) (sp:Sp) (dvs:List V) (E:XK) (t:TA):TE:=fun σ H Q=>t σ H fun vs H1=>∀ x dx,H1 x=none→H1 dx=none→dx≠x →
 sp (.ref x :: (vs++dvs)) (upd (upd H1 dx (.own x)) x (.ins C dx [])) (fun v H2=>v = .non∧Q (.ref x) H2) E
def cU (K:PySem.W.Frag) (fd:FuncData) (ps:List Str) (ds:List Value):Prop :=
 ∀ (s:Shared) (us:List Value),K.In s.heap→(us++ds).length=ps.length→BindsTo s fd ⟨us,[]⟩ (ps.zip (us++ds))
theorem cU.all {K:PySem.W.Frag} {fd:FuncData} {ps:List Str} (h:∀ us:List Value,us.length=ps.length→bindArgs fd ⟨us,[]⟩=pure (ps.zip us)):cU K fd ps []:=fun s us _ hl=>by
 rw [List.append_nil] at hl ⊢
 exact .of_eq (h us hl)
def fc (CX:CXT) (X:Cx) (E:XK):Prop:=∀ (pins:List (Addr×Obj)) (σ:St) (H:Hp) (s:Shared) (e:Value) (s':Shared),Inv X pins σ H s→CX X.stack H s E e s'→X.xe e s'
section
variable {X:Cx} {CX:CXT} {k:Nat} {f C:Addr} {fd:FuncData} {ps:List Str} {sp:Sp} {dvs:List V} {ds:List Value} {E:XK} {x m:Str} {p pos apos:Pos} {e o:Expr} {es:List Expr} {ta:TE} {t:TA}
theorem kW {pins:List (Addr×Obj)} {σ:St} {H:Hp} {s:Shared} {Q:VK} {us:List Value} {vs:List V} (F:FnOk X.prog X.w X.K X.mg X.base CX k f fd ps sp) (hr:Room k X.A) (hb:cU X.K fd ps ds) (hd:aI dvs ds) (hx:fc CX X E)
 (I:Inv X pins σ H s) (r:aI vs us) (h:sp (vs++dvs) H Q E):wpAny (model X.prog X.w) X.A (call (.ref f) us) (EP X pins σ Q) X.xe s:=by
 have r2:aI (vs++dvs) (us++ds):=r.append hd
 have hl:(us++ds).length=ps.length:=by rw [← r2.length]; exact F.len _ _ _ _ h
 refine wpAny_call (codeAny_mono (F.run X.A X.stack s H ⟨us,[]⟩ (us++ds) (vs++dvs) Q E hr I.env0 (hb s us I.kIn hl) r2 h) fun r s' hq=>?_)
 cases r with
 | error e=>exact hx pins σ H s e s' I hq
 | ok fl =>
  cases fl with
  | ret u=>exact I.after hq
  | next=>exact False.elim hq
  | brk=>exact False.elim hq
  | cont=>exact False.elim hq
theorem g6 (F:FnOk X.prog X.w X.K X.mg X.base CX k f fd ps sp) (hr:Room k X.A) (hg:Gl X x) (hm:X.mg x=some (.ref f)) (hk:PySem.W.keepIn X.K (.ref f)=true) (hb:cU X.K fd ps ds) (hd:aI dvs ds) (hx:fc CX X E)
 (ha:PA X (e :: es) t) (hdb:(x == ("__debug__":Str))=false:=by decide) (he:starEach (e :: es) X.env=(false,eval e X.env) :: starEach es X.env:=by rfl) (hpl:(backTo pos (starEach es X.env)).any (·.1)=false:=by rfl) :
 PE X (.Call (.Name x p) (e :: es) [] pos) (tCall sp dvs E t):=by
 (try refine ⟨?_⟩); intro pins s σ H Q I h
 refine wpAny_Call_Name_kw (jl I hg hm ?_ hdb)
 refine PySem.W.callWith_K (h₀:=X.base) I.ok.mod.kin hk (thn (ha pos pins s σ H _ I h) fun us s1 ⟨vs,H1,I1,r,q⟩=>⟨I1.kIn,?_⟩) he hpl
 exact kW F hr hb hd hx I1 r q
theorem qI {pl:Sem Bool} (he:PE X o ta) (c:Cls X.K C) (hm:Meth X.K C m f) (F:FnOk X.prog X.w X.K X.mg X.base CX k f fd ps sp) (hr:Room k X.A) (hb:cU X.K fd ps ds) (hd:aI dvs ds) (hx:fc CX X E) (ha:PA X (e :: es) t)
 (hst:starEach (e :: es) X.env=(false,eval e X.env) :: starEach es X.env:=by rfl) (hpl:(backTo pos (starEach es X.env)).any (·.1)=false:=by rfl)
 (ht:eval (.Call (.Attribute o m apos) (e :: es) [] pos) X.env=(do
  let ov ← eval o X.env
  standAt apos.atName
  let (f,first) ← holding [ov] (getMethod ov m pl)
  callWith pos f first (backTo pos (starEach (e :: es) X.env)) (backToKw pos (keywordEach [] X.env))):=by rfl) :
 PE X (.Call (.Attribute o m apos) (e :: es) [] pos) (lU C m sp dvs E ta t):=by
 (try refine ⟨?_⟩); intro pins s σ H Q I h
 refine PySem.W.methodCall_KW (pl:=pl) (thn (he pins s σ H _ I h) fun u s1 ⟨x,H1,I1,rx,a,dx,fs,ex,ea,l,q⟩=>?_) ht
 subst ex
 obtain rfl:u=Value.ref a:=rx
 refine eZ I1 ea c hm l ?_
 refine PySem.W.callWith_K (first:=[.ref a]) (h₀:=X.base) I.ok.mod.kin hm.kp (thn (ha pos pins s1 σ H1 _ I1 q) fun us s2 ⟨vs,H2,I2,r,q2⟩=>⟨I2.kIn,?_⟩) hst hpl
 exact kW (us:=.ref a :: us) (vs:=.ref a :: vs) F hr hb hd hx I2 (.cons rfl r) q2
theorem nv {pl:Sem Bool} (he:PE X o ta) (c:Cls X.K C) (hm:Meth X.K C m f) (F:FnOk X.prog X.w X.K X.mg X.base CX k f fd ps sp) (hr:Room k X.A) (hb:cU X.K fd ps ds) (hd:aI dvs ds) (hx:fc CX X E)
 (ht:eval (.Call (.Attribute o m apos) [] [] pos) X.env=(do
  let ov ← eval o X.env
  standAt apos.atName
  let (f,first) ← holding [ov] (getMethod ov m pl)
  callWith pos f first (backTo pos (starEach [] X.env)) (backToKw pos (keywordEach [] X.env))):=by rfl) :
 PE X (.Call (.Attribute o m apos) [] [] pos) (lU C m sp dvs E ta tNil):=by
 (try refine ⟨?_⟩); intro pins s σ H Q I h
 refine PySem.W.methodCall_KW (pl:=pl) (thn (he pins s σ H _ I h) fun u s1 ⟨x,H1,I1,rx,a,dx,fs,ex,ea,l,q⟩=>?_) ht
 subst ex
 obtain rfl:u=Value.ref a:=rx
 refine eZ I1 ea c hm l ?_
 exact PySem.W.callWith_K0 (first:=[.ref a]) I1.kIn hm.kp (kW (us:=[.ref a]) (vs:=[.ref a]) F hr hb hd hx I1 (.cons rfl .nil) q)
structure Mk (K:PySem.W.Frag) (C f:Addr):Prop where
 makes:PySem.W.makesIn K C=true
 init:PySem.W.findIn K (.ref C) "__init__" = some (some (.ref f))
 fn:PySem.W.isFn K (.ref f)=true
 kp:PySem.W.keepIn K (.ref C)=true
theorem nP {pins:List (Addr×Obj)} {σ:St} {H:Hp} {s:Shared} {Q:VK} {us:List Value} {vs:List V} (M:Mk X.K C f) (F:FnOk X.prog X.w X.K X.mg X.base CX k f fd ps sp) (hr:Room (k + 1) X.A) (hb:cU X.K fd ps ds) (hd:aI dvs ds)
 (hx:fc CX X E) (I:Inv X pins σ H s) (r:aI vs us)
 (h:∀ x dx,H x=none→H dx=none→dx≠x→sp (.ref x :: (vs++dvs)) (upd (upd H dx (.own x)) x (.ins C dx [])) (fun v H2=>v = .non∧Q (.ref x) H2) E) :
 wpAny (model X.prog X.w) X.A (call (.ref C) us) (EP X pins σ Q) X.xe s:=by
 have hq:=h (s.heap.objs.size + 1) s.heap.objs.size (I.hok.fresh (Nat.le_succ _)) (I.hok.fresh (Nat.le_refl _)) (Nat.ne_of_lt (Nat.lt_succ_self _))
 have I2:=Inv.made (C:=C) I
 have r2:aI (V.ref (s.heap.objs.size + 1) :: (vs++dvs)) (Value.ref (s.heap.objs.size + 1) :: (us++ds)):=.cons rfl (r.append hd)
 have hl:(Value.ref (s.heap.objs.size + 1) :: us++ds).length=ps.length:=by
  have e:=r2.length
  rw [F.len _ _ _ _ hq] at e
  exact e.symm
 refine wpAny_call (ol (f:=f) I.kIn M.makes M.init (beq_iff_eq.mp M.fn) (codeAny_mono (F.run _ X.stack _ _ ⟨Value.ref (s.heap.objs.size + 1) :: us,[]⟩ (Value.ref (s.heap.objs.size + 1) :: (us++ds)) _ _ E (hr.make C us [])
  (I2.env0.make C us []) (hb _ (Value.ref (s.heap.objs.size + 1) :: us) I2.kIn hl) r2 hq) fun r s' hq'=>?_))
 cases r with
 | error e=>exact hx pins σ _ _ e s' I2 hq'
 | ok fl =>
  cases fl with
  | ret u =>
   obtain ⟨v,H',I3,rv,ev,q3⟩:=I2.after hq'
   subst ev
   exact ⟨rv,⟨V.ref (s.heap.objs.size + 1),H',I3,rfl,q3⟩⟩
  | next=>exact False.elim hq'
  | brk=>exact False.elim hq'
  | cont=>exact False.elim hq'
theorem qV (M:Mk X.K C f) (F:FnOk X.prog X.w X.K X.mg X.base CX k f fd ps sp) (hr:Room (k + 1) X.A) (hg:Gl X x) (hm:X.mg x=some (.ref C)) (hb:cU X.K fd ps ds) (hd:aI dvs ds) (hx:fc CX X E)
 (ha:PA X (e :: es) t) (hdb:(x == ("__debug__":Str))=false:=by decide) (he:starEach (e :: es) X.env=(false,eval e X.env) :: starEach es X.env:=by rfl) (hpl:(backTo pos (starEach es X.env)).any (·.1)=false:=by rfl) :
 PE X (.Call (.Name x p) (e :: es) [] pos) (tMake C sp dvs E t):=by
 (try refine ⟨?_⟩); intro pins s σ H Q I h
 refine wpAny_Call_Name_kw (jl I hg hm ?_ hdb)
 refine PySem.W.callWith_K (h₀:=X.base) I.ok.mod.kin M.kp (thn (ha pos pins s σ H _ I h) fun us s1 ⟨vs,H1,I1,r,q⟩=>⟨I1.kIn,?_⟩) he hpl
 exact nP M F hr hb hd hx I1 r q
end
section
variable {X:Cx} {CX:CXT} {k:Nat} {f C:Addr} {fd:FuncData} {ps ks:List Str} {sp:Sp} {E:XK} {x m:Str} {p pos apos kpos:Pos} {e o:Expr} {es:List Expr} {kws:List Keyword} {te ta:TE} {t tk:TA} {nm:Option Str}
variable {g:List Value→List Value→List Value} {gV:List V→List V→List V}
end
structure FnScope (N P:List Str) (sc:Scope):Prop where
 kind:sc.kind = .function
 co:sc.isCoroutine=false
 gen:sc.isGenerator=false
 nd:N.Nodup
 pre:N.take P.length=P
 par:∀ x∈P,sc.names.lookup x=some .local∨sc.names.lookup x=some .cell
 nofree:∀ y∈sc.names,y.2≠.free
theorem iJ {kindOf:Str→Option NameKind} {x:Str}:∀ {binds:List (Str×Value)} {m:Str→Option Value},(∀ v,(x,v) ∉ binds)→bindL kindOf binds m x=m x
 | [],_,_=>rfl
 | (n,v) :: r,m,h=>by
  unfold bindL
  rw [iJ fun w hw=>h w (List.mem_cons_of_mem _ hw)]
  split
  ·have:x≠n:=by rintro rfl; exact h v List.mem_cons_self
   simp [this]
  ·rfl
theorem iQ {kindOf:Str→Option NameKind} {x:Str}:∀ {binds:List (Str×Value)} {m:Str→Option Value},(∀ v,(x,v) ∉ binds)→bindC kindOf binds m x=m x
 | [],_,_=>rfl
 | (n,v) :: r,m,h=>by
  unfold bindC
  rw [iQ fun w hw=>h w (List.mem_cons_of_mem _ hw)]
  split
  ·rfl
  ·have:x≠n:=by rintro rfl; exact h v List.mem_cons_self
   simp [this]
theorem i_ {kindOf:Str→Option NameKind} {x:Str} {v:Value}:∀ {P:List Str} {vs:List Value} {i:Nat} {m:Str→Option Value},P.Nodup→P[i]? = some x→vs[i]? = some v→kindOf x=some .local →
 bindL kindOf (P.zip vs) m x=some v
 | [],_,_,_,_,h,_,_=>by simp at h
 | _ :: _,[],_,_,_,_,h,_=>by simp at h
 | p :: P,w :: vs,0,m,nd,h1,h2,hk=>by
  simp at h1 h2; subst h1; subst h2
  show bindL kindOf ((p,w) :: P.zip vs) m p=_
  unfold bindL
  rw [iJ fun v hv=>(List.nodup_cons.mp nd).1 (List.of_mem_zip hv).1,if_pos hk]
  simp
 | p :: P,w :: vs,i + 1,m,nd,h1,h2,hk=>by
  show bindL kindOf ((p,w) :: P.zip vs) m x=_
  unfold bindL
  exact i_ (i:=i) (List.nodup_cons.mp nd).2 (by simpa using h1) (by simpa using h2) hk
theorem i8 {kindOf:Str→Option NameKind} {x:Str} {v:Value}:∀ {P:List Str} {vs:List Value} {i:Nat} {m:Str→Option Value},P.Nodup→P[i]? = some x→vs[i]? = some v→kindOf x≠some .local →
 bindC kindOf (P.zip vs) m x=some v
 | [],_,_,_,_,h,_,_=>by simp at h
 | _ :: _,[],_,_,_,_,h,_=>by simp at h
 | p :: P,w :: vs,0,m,nd,h1,h2,hk=>by
  simp at h1 h2; subst h1; subst h2
  show bindC kindOf ((p,w) :: P.zip vs) m p=_
  unfold bindC
  rw [iQ fun v hv=>(List.nodup_cons.mp nd).1 (List.of_mem_zip hv).1,if_neg hk]
  simp
 | p :: P,w :: vs,i + 1,m,nd,h1,h2,hk=>by
  show bindC kindOf ((p,w) :: P.zip vs) m x=_
  unfold bindC
  exact i8 (i:=i) (List.nodup_cons.mp nd).2 (by simpa using h1) (by simpa using h2) hk
def start (N:List Str) (vs:List V):St:=vs.map some++List.replicate (N.length - vs.length) none
def kO (CX:CXT) (P:Program) (w:World) (K:PySem.W.Frag) (mg:Str→Option Value) (base:Heap) (N:List Str) (qual:Str) (scope:Scope) (f:Addr) (cd:Value) (A:Around) (outer:List Env) (s:Shared) (H:Hp) (E:XK):Cx where
 prog:=P
 w:=w
 K:=K
 mg:=mg
 base:=base
 A:=A.deeper (envOfC qual scope s.heap.objs.size f cd)
 N:=N
 s₀:=s
 H₀:=H
 env:=envOfC qual scope s.heap.objs.size f cd
 outer:=outer
 stack:=envOfC qual scope s.heap.objs.size f cd :: outer
 ex:=[]
 calm:=true
 fn:=fun _=>true
 pn:=[]
 xe:=fun e s'=>wpAny (model P w) (A.deeper (envOfC qual scope s.heap.objs.size f cd)) (leaving (envOfC qual scope s.heap.objs.size f cd) e) (fun _ s''=>CX outer H s E e s'') (fun e' s''=>CX outer H s E e' s'') s'
theorem jZ {sc:Scope} {n:Nat} {x:Str} (h:sc.names.lookup x=some .cell):∃ c,(cellsFrom n sc.names []).lookup x=some c:=by
 have q:=PySem.W.cellsFrom_some sc.names n [] (.inl h)
 exact Option.isSome_iff_exists.mp q
theorem mY {CX:CXT} {P:Program} {w:World} {K:PySem.W.Frag} {mg:Str→Option Value} {base:Heap} {N ps:List Str} {qual:Str} {scope:Scope} {f:Addr} {cd:Value} {A:Around} {outer:List Env} {s s1:Shared} {H:Hp} {E:XK} {us:List Value} {vs:List V}
 (S:FnScope N ps scope) (hd:A.handled=none) (e0:Env0 P w K mg base A outer s H) (hl:vs.length=ps.length) (r:aI vs us)
 (x:InCallC s s.heap.objs.size (bindL (envOfC qual scope s.heap.objs.size f cd).kindOf (ps.zip us) fun _=>none) (cellsFrom (s.heap.objs.size + 1) scope.names []) (bindC (envOfC qual scope s.heap.objs.size f cd).kindOf (ps.zip us) fun _=>none) s1) :
 Inv (kO CX P w K mg base N qual scope f cd A outer s H E) [] (start N vs) H s1:=by
 have hpl:ps.length≤N.length:=by have:=congrArg List.length S.pre; rw [List.length_take] at this; omega
 obtain ⟨h1,tk,rfl,hk⟩:=x.done
 have noA:∀ b:Addr,b ∉ (kO CX P w K mg base N qual scope f cd A outer s H E).ex:=fun b z=>absurd (show b∈([]:List Addr) from z) (by simp)
 refine ⟨⟨e0.mod,S.kind,rfl,rfl,Nat.le_refl _,fun y z c h1 h2=>?_,fun y hy=>?_,fun y c _ h=>?_,fun _=>hd,Around.frames_deeper e0.frames,.inr ⟨rfl,rfl⟩,fun b z=>absurd z (noA b),e0.bs,e0.bsz,fun b _ _=>noA b,fun b z=>absurd z (noA b),e0.funs,e0.frf,e0.tb⟩,
  rfl,e0.bare,Un.kept hk,⟨_,x.toInCall.ns,fun i y v h1 h2 h3=>?_⟩,fun y c h=>⟨_,x.cell y c h⟩,e0.hok.fresh (Nat.le_refl _),fun y c h=>?_,fun p hp=>absurd (show p∈([]:List (Addr×Obj)) from hp) (by simp),e0.hok.kept hk,?_⟩
 ·exact name_of_addr x.apart (PySem.mem_of_lookup h1) (PySem.mem_of_lookup h2)
 ·have hy:scope.names.lookup y=some .cell∨scope.names.lookup y=some .free:=hy
  rcases hy with hy | hy
  ·exact jZ hy
  ·exact absurd rfl (S.nofree _ (PySem.mem_of_lookup hy))
 ·exact Nat.le_of_lt (x.above y c (PySem.mem_of_lookup h))
 ·have hi:i<vs.length:=by
   unfold start at h2
   by_cases hi:i<vs.length
   ·exact hi
   ·rw [List.getElem?_append_right (by simpa using hi)] at h2
    rw [List.getElem?_replicate] at h2
    split at h2 <;> cases h2
  have ha:vs[i]? = some v:=by
   unfold start at h2
   rw [List.getElem?_append_left (by simpa using hi),List.getElem?_map] at h2
   cases e:vs[i]? with
   | none=>rw [e] at h2; cases h2
   | some a=>rw [e] at h2; cases h2; rfl
  obtain ⟨u,hu,rv⟩:=r.get ha
  have hp:ps[i]? = some y:=by
   rw [← S.pre,List.getElem?_take_of_lt (by omega)]; exact h1
  have ndP:ps.Nodup:=by rw [← S.pre]; exact S.nd.sublist (List.take_sublist _ _)
  refine ⟨u,rv,?_⟩
  rcases S.par y (List.mem_of_getElem? hp) with k | k
  ·exact .inl ⟨k,i_ ndP hp hu k⟩
  ·obtain ⟨c,e⟩:=jZ (n:=s.heap.objs.size + 1) k
   refine .inr ⟨.inl k,c,e,?_⟩
   have q:=x.cell y c e
   rw [i8 ndP hp hu (by show scope.names.lookup y≠_; rw [k]; decide)] at q
   exact q
 ·exact e0.hok.fresh (Nat.le_of_lt (x.above y c (PySem.mem_of_lookup h)))
 ·unfold start
  show _=N.length
  rw [List.length_append,List.length_map,List.length_replicate]
  omega
theorem fn_of {CX:CXT} {P:Program} {w:World} {K:PySem.W.Frag} {mg:Str→Option Value} {base:Heap} {k:Nat} {f:Addr} {name qual:Str} {params:Arguments} {body:List Stmt} {scope:Scope} {dV kV doc pm cdv ct oc:Value} {an od:Option Addr}
 {osl:Array (Option Value)} {N ps:List Str} {sp:Sp} (lk:K.lookup f=some ⟨oc,od,.func (PySem.W.fnOf name qual params body scope dV kV doc pm an cdv ct),osl⟩) (hcd:PySem.W.codeIn K cdv qual=true) (S:FnScope N ps scope)
 (len:∀ vs H Q E,sp vs H Q E→vs.length=ps.length)
 (hbody:∀ (A:Around) (outer:List Env) (s:Shared) (H:Hp) (vs:List V) (Q:VK) (E:XK),Room k (A.deeper (envOfC qual scope s.heap.objs.size f cdv))→sp vs H Q E →
  ∃ t,PSs (kO CX P w K mg base N qual scope f cdv A outer s H E) body t∧t { nx:=fun _ H'=>Q .non H',rt:=Q } (start N vs) H) :
 FnOk P w K mg base CX (k + 1) f (PySem.W.fnOf name qual params body scope dV kV doc pm an cdv ct) ps sp:=by
 refine ⟨len,fun A outer s H args us vs Q E hr e0 hb r hsp=>?_⟩
 have hl:=len _ _ _ _ hsp
 have KX:K.In s.heap:=e0.mod.kin.keeps fun b o e=>(e0.bs b o e).1
 have lim:s.heap.NoLimit:=e0.mod.nolimit.keeps fun b o e=>(e0.bs b o e).1
 have hkind:∀ y∈ps.zip us,scope.names.lookup y.1=some .local∨(scope.names.lookup y.1=some .cell∧((cellsFrom (s.heap.objs.size + 1) scope.names []).lookup y.1).isSome=true):=fun ⟨n,v⟩ hy=>by
  rcases S.par n (List.of_mem_zip hy).1 with q | q
  ·exact .inl q
  ·exact .inr ⟨q,PySem.W.cellsFrom_some _ _ _ (.inl q)⟩
 refine codeAny_call_function hr.depth (KX _ _ lk) rfl S.co S.gen rfl (PySem.W.codeRec_of KX hcd) (hb _ _ _ _ ?_)
 refine wpAny_newFunctionEnv_cells S.kind hkind fun env he s1 x=>?_
 subst he
 refine ⟨lim.keeps x.toInCall.keep,codeAny_func ?_⟩
 obtain ⟨t,ht,hq⟩:=hbody A outer s H vs Q E (hr.deeper _) hsp
 have I:Inv (kO CX P w K mg base N qual scope f cdv A outer s H E) [] (start N vs) H s1:=mY S hr.hd e0 hl r x
 refine wpAny_mono (ht [] s1 (start N vs) H _ I hq) (fun fl s' hs=>?_) fun e s' hs=>hs
 have fin:∀ {σ':St} {H':Hp} {v:V} {u:Value},Inv (kO CX P w K mg base N qual scope f cdv A outer s H E) [] σ' H' s'→aU v u→Q v H'→CE outer P w H s Q u s' :=
  fun {σ' H' v u} J rv q=>⟨v,H',J.os,J.bare,J.base,J.hok,rv,q⟩
 cases fl with
 | ret u =>
  obtain ⟨v,σ',H',J,rv,q⟩:=hs
  exact fin J rv q
 | next =>
  obtain ⟨σ',H',J,q⟩:=hs
  exact fin (v:=V.non) (u:=Value.none) J rfl q
 | brk =>
  obtain ⟨_,_,_,q⟩:=hs
  exact False.elim q
 | cont =>
  obtain ⟨_,_,_,q⟩:=hs
  exact False.elim q
section
variable {X:Cx} {x:Str} {p pos:Pos} {e:Expr} {es:List Expr} {t:TA} {id T:String} {r:List V→Hp→VK→Prop}
def tCB (r:List V→Hp→VK→Prop) (t:TA):TE:=fun σ H Q=>t σ H fun vs H1=>r vs H1 Q
theorem ir (hc:cM X (.builtin id) r) (hg:Gl X x) (hm:X.mg x=none) (hv:bootBuiltins x=some (.builtin id)) (ha:PA X (e :: es) t) (hn:x ≠ "__name__":=by decide) (hdb:(x == ("__debug__":Str))=false:=by decide)
 (he:starEach (e :: es) X.env=(false,eval e X.env) :: starEach es X.env:=by rfl) (hpl:(backTo pos (starEach es X.env)).any (·.1)=false:=by rfl):PE X (.Call (.Name x p) (e :: es) [] pos) (tCB r t):=by
 (try refine ⟨?_⟩); intro pins s σ H Q I h
 refine wpAny_Call_Name_kw (fg I hg hm hv ?_ hn hdb)
 exact PyProof.Rows.callWith_builtin1 (thn (ha pos pins s σ H _ I h) fun us s1 ⟨vs,H1,I1,r1,q1⟩=>hc pins s1 σ H1 vs us Q I1 r1 q1) he hpl
theorem i6 (hc:cM X (.type T) r) (hg:Gl X x) (hm:X.mg x=none) (hv:bootBuiltins x=some (.type T)) (ha:PA X (e :: es) t) (hn:x ≠ "__name__":=by decide) (hdb:(x == ("__debug__":Str))=false:=by decide)
 (he:starEach (e :: es) X.env=(false,eval e X.env) :: starEach es X.env:=by rfl) (hpl:(backTo pos (starEach es X.env)).any (·.1)=false:=by rfl):PE X (.Call (.Name x p) (e :: es) [] pos) (tCB r t):=by
 (try refine ⟨?_⟩); intro pins s σ H Q I h
 refine wpAny_Call_Name_kw (fg I hg hm hv ?_ hn hdb)
 exact PyProof.Rows.callWith_type1 (thn (ha pos pins s σ H _ I h) fun us s1 ⟨vs,H1,I1,r1,q1⟩=>hc pins s1 σ H1 vs us Q I1 r1 q1) he hpl
end
end L2
namespace HT
open PySem PyProof.Rows
section
open PySem.SeqAt
open PySem.AutoSeq1 (wpAny_loadPart')
open PySem.MeetsSeq PySem.MeetsSeq2 PySem.MeetsSeq3
end
section
variable {prog:Program} {w:World} {A:Around} {E:Value→Shared→Prop} {s:Shared}
def sIx (n d:Nat):Option Int→Nat
 | none=>d
 | some v=>if v<0 then (v + (n:Int)).toNat else min v.toNat n
end
end HT
namespace L2
open PySem PySem.Spec PyProof.Rows
theorem ib {ns:List Int}:∀ {us:List Value},aI (ns.map V.int) us→IntsAre us ns:=by
 induction ns with
 | nil=>intro us r; rw [List.map_nil] at r; cases r; exact .nil
 | cons n ns ih =>
  intro us r
  rw [List.map_cons] at r
  cases r with
  | cons r1 r2 =>
   obtain ⟨t,e⟩:=r1
   subst e
   exact .cons n t (ih r2)
section
variable {X:Cx} {e:Expr} {te:TE} {lo hi:Option Expr} {tl th:TO} {pos p2:Pos}
def SlR (X:Cx) (r:V→Option Int→Option Int→Hp→VK→Prop):Prop :=
 ∀ (pins:List (Addr×Obj)) (s:Shared) (σ:St) (H:Hp) (x:V) (v vl vu:Value) (lo hi:Option Int) (sl:Addr) (Q:VK),Inv X pins σ H s→aU x v→s.heap.IsSliceOf sl vl vu .none→IsPart vl lo→IsPart vu hi→r x lo hi H Q →
  ∃ T id,typeLookup (.type T) "__getitem__" = pure (some (.builtin id))∧s.TypeIs v T∧wpAny (model X.prog X.w) X.A (getItem v (.ref sl)) (EP X pins σ Q) X.xe s
def cutV (xs:List V) (lo hi:Option Int):List V:=(xs.drop (HT.sIx xs.length 0 lo)).take (HT.sIx xs.length xs.length hi - HT.sIx xs.length 0 lo)
theorem jQ (xs:List V) (lo hi:Option Int):(cutV xs lo hi).length≤xs.length:=by
 unfold cutV
 rw [List.length_take,List.length_drop]
 omega
end
def ixN (n:Nat) (i:Int):Option Nat:=if 0≤i then (if i<n then some i.toNat else none) else if -(n:Int)≤i then some (i + n).toNat else none
def atI {α:Type} (xs:List α) (i:Int):Option α:=(ixN xs.length i).bind fun j=>xs[j]?
theorem gT {n:Nat} {i:Int} {j:Nat} (h:ixN n i=some j):seqIndex? i n=some j∧j<n∧-(n:Int)≤i∧i<n:=by
 unfold ixN at h
 by_cases h0 : 0≤i
 ·rw [if_pos h0] at h
  by_cases h1:i<n
  ·rw [if_pos h1] at h
   have e:i.toNat=j:=Option.some.inj h
   exact ⟨by rw [seqIndex_of h0 h1,e],by omega,by omega,h1⟩
  ·rw [if_neg h1] at h; cases h
 ·rw [if_neg h0] at h
  by_cases h1 : -(n:Int)≤i
  ·rw [if_pos h1] at h
   have e:(i + n).toNat=j:=Option.some.inj h
   exact ⟨by rw [seqIndex_neg (by omega) h1,e],by omega,h1,by omega⟩
  ·rw [if_neg h1] at h; cases h
theorem fj {α:Type} {xs:List α} {i:Int} {v : α} (h:atI xs i=some v):∃ j,seqIndex? i xs.length=some j∧xs[j]? = some v∧j<xs.length∧-(xs.length:Int)≤i∧i<xs.length:=by
 unfold atI at h
 cases e:ixN xs.length i with
 | none=>rw [e] at h; cases h
 | some j =>
  rw [e] at h
  obtain ⟨h1,h2,h3,h4⟩:=gT e
  exact ⟨j,h1,h,h2,h3,h4⟩
theorem dR {α:Type} {xs:List α} {j:Nat} {v : α} (h:xs[j]? = some v):atI xs (j:Int)=some v:=by
 have hj:j<xs.length:=(List.getElem?_eq_some_iff.mp h).1
 have e:ixN xs.length (j:Int)=some j:=by
  unfold ixN
  rw [if_pos (by omega),if_pos (by omega)]; simp
 unfold atI; rw [e]; exact h
def fL (b:Expr):Prop:=∀ o i,subscripted b false o i=operate [o,i] (getItem o i)
def IxR (X:Cx) (r:R2):Prop :=
 ∀ (value slice:Expr) (pins:List (Addr×Obj)) (s:Shared) (σ:St) (H:Hp) (x y:V) (v u:Value) (Q:VK),Inv X pins σ H s→aU x v→aU y u→r x y H Q →
  subscripted slice false v u=operate [v,u] (getItem v u)→wpAny (model X.prog X.w) X.A (subscriptTail value slice v u) (EP X pins σ Q) X.xe s
def MtR (X:Cx) (id:String) (r:V→List V→Hp→VK→Prop):Prop :=
 ∀ (pins:List (Addr×Obj)) (s:Shared) (σ:St) (H:Hp) (x:V) (xs:List V) (v:Value) (us:List Value) (Q:VK),Inv X pins σ H s→aU x v→aI xs us→r x xs H Q →
  wpAny (model X.prog X.w) X.A (call (.builtin id) (v :: us)) (EP X pins σ Q) X.xe s
section
variable {X:Cx} {a b:Expr} {ta tb:TE} {pos:Pos}
theorem IxR.or {r r':R2} (h:IxR X r) (h':IxR X r'):IxR X (fun x y H Q=>r x y H Q∨r' x y H Q):=by
 intro value slice pins s σ H x y v u Q I rx ry q hs
 rcases q with q | q
 ·exact h value slice pins s σ H x y v u Q I rx ry q hs
 ·exact h' value slice pins s σ H x y v u Q I rx ry q hs
theorem lJ {r:R2} (hr:IxR X r) (ha:PE X a ta) (hb:PE X b tb) (hs:fL b):PE X (.Subscript a b pos) (tOp r ta tb):=by
 (try refine ⟨?_⟩); intro pins s σ H Q I h
 exact Subscript_ (binT ha hb I h fun v u s2 x y H2 I2 rx ry q=>hr a b pins s2 σ H2 x y v u Q I2 rx ry q (hs _ _))
def rIxL (K:PySem.W.Frag):R2:=fun x y H Q=>∃ p xs i v,x = .ref p∧y = .int i∧SqL K H p xs∧atI xs i=some v∧Q v H
def rIxT (K:PySem.W.Frag):R2:=fun x y H Q=>∃ p xs i v,x = .ref p∧y = .int i∧SqT K H p xs∧atI xs i=some v∧Q v H
def rIxS:R2:=fun x y H Q=>∃ z i c,x = .str z∧y = .int i∧z.length≤sizeLine∧atI z.cps.toList i=some c∧Q (.str ⟨#[c]⟩) H
theorem jn:IxR X (rIxL X.K):=by
 intro value slice pins s σ H x y v u Q I rx ry h hs
 obtain ⟨p,xs,i,z,rfl,rfl,hq,he,q⟩:=h
 cases rx
 obtain ⟨t,rfl⟩:=ry
 obtain ⟨its,r,pl,hz⟩:=I.list hq
 obtain ⟨j,h1,h2,h3,h4,h5⟩:=fj he
 obtain ⟨w,ew,rw'⟩:=r.get h2
 have hl:=r.length
 have hn:=ff
 have fin:EP X pins σ Q w s:=⟨z,H,I,rw',q⟩
 by_cases h0 : 0≤i
 ·have hj:i.toNat=j:=by
   rw [seqIndex_of h0 h5] at h1
   exact Option.some.inj h1
  exact item_listR pl.isList h0 (by omega) (by rw [hj]; simpa using ew) fin hs
 ·have hj:(i + (its.toArray.size:Int)).toNat=j:=by
   rw [seqIndex_neg (by omega) h4] at h1
   rw [List.size_toArray,← hl]
   exact Option.some.inj h1
  exact subscriptTail_builtinR (x:=w) pl.isList.typeIs slot_list_getitem.lookup
   (wpAny_getItem_list_neg (Q:=fun r s'=>r=w∧EP X pins σ Q r s') pl.isList (by omega) (by rw [List.size_toArray] <;> omega) (by omega) (by rw [hj]; simpa using ew) ⟨rfl,fin⟩) hs
theorem t5:IxR X (rIxT X.K):=by
 intro value slice pins s σ H x y v u Q I rx ry h hs
 obtain ⟨p,xs,i,z,rfl,rfl,hq,he,q⟩:=h
 cases rx
 obtain ⟨t,rfl⟩:=ry
 obtain ⟨its,r,pl,hz⟩:=I.tuple hq
 obtain ⟨j,h1,h2,h3,h4,h5⟩:=fj he
 obtain ⟨w,ew,rw'⟩:=r.get h2
 have hl:=r.length
 have hn:=ff
 have fin:EP X pins σ Q w s:=⟨z,H,I,rw',q⟩
 exact subscriptTail_builtinR (x:=w) pl.typeIs slot_tuple_getitem.lookup
  (getItem_tuple (j:=j) (Q:=fun r s'=>r=w∧EP X pins σ Q r s') pl (by omega) (by omega) (by rw [List.size_toArray,← hl]; exact h1) (by simpa using ew) ⟨rfl,fin⟩) hs
theorem sD:IxR X rIxS:=by
 intro value slice pins s σ H x y v u Q I rx ry h hs
 obtain ⟨z,i,c,rfl,rfl,hz,he,q⟩:=h
 obtain ⟨t,rfl⟩:=rx
 obtain ⟨t',rfl⟩:=ry
 obtain ⟨j,h1,h2,h3,h4,h5⟩:=fj he
 have hl:z.cps.toList.length=z.length:=by simp [Str.length]
 rw [hl] at h1 h4 h5
 have hn:=ff
 exact tail_any (typeIs_str s z t) slot_str_getitem.lookup (getItem_str (c:=c) (by
  have e1:decide (i < -(2 ^ 63:Int))=false:=decide_eq_false (by omega)
  have e2:decide (i ≥ 2 ^ 63)=false:=decide_eq_false (by omega)
  rw [e1,e2,Bool.or_false]) (by rw [h1]; simpa using h2) ⟨.str ⟨#[c]⟩,H,I.tok _,⟨_,rfl⟩,q⟩) hs
def rIx (K:PySem.W.Frag):R2:=fun x y H Q=>rIxL K x y H Q∨rIxT K x y H Q∨rIxS x y H Q
theorem av:IxR X (rIx X.K):=jn.or (t5.or sD)
theorem kH (its:List Value) (n j:Nat) (u:Value):Obj.mapSeq (·.setIfInBounds j u) { cls:=.type "list",data:=.seq its.toArray n } = { cls:=.type "list",data:=.seq (its.set j u).toArray n }:=by
 simp [Obj.mapSeq]
theorem Inv.lst {pins:List (Addr×Obj)} {σ:St} {H:Hp} {s:Shared} {p:Addr} {xs:List V} (I:Inv X pins σ H s) (h:H p=some (.lst xs)) :
 ∃ (its:List Value) (n:Nat),aI xs its∧s.heap.get? p=some { cls:=.type "list",data:=.seq its.toArray n }∧xs.length≤sizeLine:=by
 obtain ⟨z,its,n,r,e⟩:=I.hok p _ h
 exact ⟨its,n,r,e,z⟩
theorem Inv.lstUpd {pins:List (Addr×Obj)} {σ:St} {H:Hp} {s:Shared} {p:Addr} {xs ys:List V} {its its':List Value} {n n':Nat} {f:Obj→Obj} (I:Inv X pins σ H s) (h:H p=some (.lst xs))
 (ho:s.heap.get? p=some { cls:=.type "list",data:=.seq its.toArray n }) (hf:f { cls:=.type "list",data:=.seq its.toArray n } = { cls:=.type "list",data:=.seq its'.toArray n' }) (r:aI ys its') (hz:ys.length≤sizeLine) (t:Nat) :
 Inv X pins σ (upd H p (.lst ys)) { s with heap:=s.heap.update p f,toks:=t }:=by
 have e:(s.heap.update p f).get? p=some { cls:=.type "list",data:=.seq its'.toArray n' }:=by
  rw [Heap.get?_update_self f ho (by rw [hf] <;> rfl),hf]
 refine I.write (x:=p) (e:=p) (by rw [h]; trivial) (.inl rfl) (fun b u hb q=>(Heap.get?_update_other _ _ (Ne.symm hb)).trans q) ⟨_,e⟩ ?_
 exact ⟨hz,its',n',r,e⟩
def rSetL:V→V→V→Hp→(Hp→Prop)→Prop:=fun o i v H Q=>∃ p xs k j,o = .ref p∧i = .int k∧H p=some (.lst xs)∧ixN xs.length k=some j∧Q (upd H p (.lst (xs.set j v)))
theorem jW:PSet X rSetL:=by
 (try refine ⟨?_⟩); intro pins s σ H o i v ov iv u Q I ro ri rv h
 obtain ⟨p,xs,k,j,rfl,rfl,hp,hj,q⟩:=h
 cases ro
 obtain ⟨t,rfl⟩:=ri
 obtain ⟨its,n,r,ho,hz⟩:=I.lst hp
 obtain ⟨h1,h2,h3,h4⟩:=gT hj
 have hl:=r.length
 have hn:=ff
 have I':Inv X pins σ (upd H p (.lst (xs.set j v))) { s with heap:=s.heap.update p (Obj.mapSeq (·.setIfInBounds j u)) } :=
  I.lstUpd hp ho (kH its n j u) (r.set rv j) (by rw [List.length_set]; exact hz) s.toks
 by_cases h0 : 0≤k
 ·have hk:k.toNat=j:=by
   rw [seqIndex_of h0 h4] at h1
   exact Option.some.inj h1
  exact PySem.W.ki_setAt ho h0 (by omega) (by rw [List.size_toArray,← hl]; exact h4) (by rw [hk]; exact ⟨_,I',q⟩)
 ·have hk:(k + (its.toArray.size:Int)).toNat=j:=by
   rw [seqIndex_neg (by omega) h3] at h1
   rw [List.size_toArray,← hl]
   exact Option.some.inj h1
  exact PySem.W.ki_setBack ho (by omega) (by rw [List.size_toArray,← hl]; exact h3) (by omega) (by rw [hk]; exact ⟨_,I',q⟩)
theorem jE (lo hi:Option Int) (n:Nat):(sliceBounds lo hi none n).1=((HT.sIx n 0 lo:Nat):Int)∧(sliceBounds lo hi none n).2.1=((HT.sIx n n hi:Nat):Int)∧(sliceBounds lo hi none n).2.2=1:=by
 refine ⟨?_,?_,rfl⟩
 ·cases lo with
  | none=>simp [sliceBounds,HT.sIx]
  | some i =>
   simp only [sliceBounds,HT.sIx,Option.getD_none,show (1:Int) > 0 by decide,if_true]
   by_cases h:i<0
   ·simp only [h,if_true] <;> omega
   ·simp only [h,if_false] <;> omega
 ·cases hi with
  | none=>simp [sliceBounds,HT.sIx]
  | some i =>
   simp only [sliceBounds,HT.sIx,Option.getD_none,show (1:Int) > 0 by decide,if_true]
   by_cases h:i<0
   ·simp only [h,if_true] <;> omega
   ·simp only [h,if_false] <;> omega
theorem iA (its:List Value) (lo hi:Option Int):slicePick its.toArray lo hi none=((its.drop (HT.sIx its.length 0 lo)).take (HT.sIx its.length its.length hi - HT.sIx its.length 0 lo)).toArray:=by
 obtain ⟨h1,h2,h3⟩:=jE lo hi its.toArray.size
 unfold slicePick
 rw [h1,h2,h3]
 simp only [sliceRange_one,pick_run,List.size_toArray] <;> rfl
def rSlL (K:PySem.W.Frag):V→Option Int→Option Int→Hp→VK→Prop:=fun x lo hi H Q=>∃ a xs,x = .ref a∧SqL K H a xs∧∀ p,H p=none→Q (.ref p) (upd H p (.lst (cutV xs lo hi)))
theorem sl_list:SlR X (rSlL X.K):=by
 (try refine ⟨?_⟩); intro pins s σ H x v vl vu lo hi sl Q I rx hs pl pu h
 obtain ⟨a,xs,rfl,hx,q⟩:=h
 cases rx
 obtain ⟨its,r,ht,hz⟩:=I.list hx
 have hlen:=r.length
 refine ⟨"list",_,slot_list_getitem.lookup,ht.isList.typeIs,?_⟩
 refine wpAny_getItem_list_slice ht.isList hs pl pu .none (by simp) ?_ (by rw [List.size_toArray] <;> omega)
 rw [iA,← hlen]
 refine ⟨.ref s.heap.objs.size,_,I.laid (t':=s.toks) (o:=.lst (cutV xs lo hi)) (fun b ob q=>Heap.get?_push_of_some _ q) (Nat.le_refl _) ?_,rfl,q _ (I.hok.fresh (Nat.le_refl _))⟩
 exact ⟨Nat.le_trans (jQ xs lo hi) hz,_,0,(r.drop (HT.sIx xs.length 0 lo)).take (HT.sIx xs.length xs.length hi - HT.sIx xs.length 0 lo),Heap.get?_push_size _ rfl⟩
def eU:V→Bool
 | .non=>true
 | .bl _=>true
 | .int _=>true
 | .str _=>true
 | _=>false
def eqV:V→V→Bool
 | .non,.non=>true
 | .bl a,.bl b=>a == b
 | .bl a,.int b=>(if a then 1 else 0) == b
 | .int a,.bl b=>a == (if b then 1 else 0)
 | .int a,.int b=>a == b
 | .str a,.str b=>a == b
 | _,_=>false
theorem t_ {A:Around} {s:Shared} {y x:V} {u v:Value} (ry:aU y u) (rx:aU x v) (fy:eU y=true) (fx:eU x=true):SeqAt.EqAt A s u v (eqV y x):=by
 cases y with
 | non =>
  cases ry
  cases x with
  | non=>cases rx; exact SeqAt.EqAt.same _
  | bl b=>cases rx; exact SeqAt.EqAt.none_bool b
  | int b=>obtain ⟨t,rfl⟩:=rx; exact SeqAt.EqAt.none_int b t
  | str b=>obtain ⟨t,rfl⟩:=rx; exact SeqAt.EqAt.none_str b t
  | _=>exact absurd (show false=true from fx) Bool.false_ne_true
 | bl a =>
  cases ry
  cases x with
  | non=>cases rx; exact SeqAt.EqAt.bool_none a
  | bl b=>cases rx; exact SeqAt.EqAt.bool_bool a b
  | int b=>obtain ⟨t,rfl⟩:=rx; exact SeqAt.EqAt.bool_int a b t
  | str b=>obtain ⟨t,rfl⟩:=rx; exact SeqAt.EqAt.bool_str a b t
  | _=>exact absurd (show false=true from fx) Bool.false_ne_true
 | int a =>
  obtain ⟨t',rfl⟩:=ry
  cases x with
  | non=>cases rx; exact SeqAt.EqAt.int_none a t'
  | bl b=>cases rx; exact SeqAt.EqAt.int_bool a t' b
  | int b=>obtain ⟨t,rfl⟩:=rx; exact SeqAt.EqAt.int_int a t' b t
  | str b=>obtain ⟨t,rfl⟩:=rx; exact SeqAt.EqAt.int_str a t' b t
  | _=>exact absurd (show false=true from fx) Bool.false_ne_true
 | str a =>
  obtain ⟨t',rfl⟩:=ry
  cases x with
  | non=>cases rx; exact SeqAt.EqAt.str_none a t'
  | bl b=>cases rx; exact SeqAt.EqAt.str_bool a t' b
  | int b=>obtain ⟨t,rfl⟩:=rx; exact SeqAt.EqAt.str_int a t' b t
  | str b=>obtain ⟨t,rfl⟩:=rx; exact SeqAt.EqAt.str_str a t' b t
  | _=>exact absurd (show false=true from fx) Bool.false_ne_true
 | _=>exact absurd (show false=true from fy) Bool.false_ne_true
def eqU (x:V) (u:Value):Bool:=match u with
 | .none=>eqV .non x
 | .bool b=>eqV (.bl b) x
 | .int i _=>eqV (.int i) x
 | .str z _=>eqV (.str z) x
 | _=>false
theorem pR {x y:V} {u:Value} (r:aU y u) (f:eU y=true):eqU x u=eqV y x:=by
 cases y with
 | non=>cases r; rfl
 | bl b=>cases r; rfl
 | int i=>obtain ⟨t,rfl⟩:=r; rfl
 | str z=>obtain ⟨t,rfl⟩:=r; rfl
 | _=>exact absurd (show false=true from f) Bool.false_ne_true
theorem jk {x:V}:∀ {xs:List V} {us:List Value},aI xs us→xs.all eU=true→us.any (eqU x)=xs.any fun y=>eqV y x
 | _,_,.nil,_=>rfl
 | y :: xs,u :: us,.cons r t,f=>by
  rw [List.all_cons,Bool.and_eq_true] at f
  rw [List.any_cons,List.any_cons,pR r f.1,jk t f.2]
theorem ie {A:Around} {s:Shared} {x:V} {v:Value} (rx:aU x v) (fx:eU x=true):∀ {xs:List V} {us:List Value},aI xs us→xs.all eU=true→∀ u∈us,SeqAt.EqAt A s u v (eqU x u)
 | _,_,.nil,_=>fun u hu=>by cases hu
 | y :: xs,u :: us,.cons r t,f=>fun u' hu=>by
  rw [List.all_cons,Bool.and_eq_true] at f
  rcases List.mem_cons.mp hu with rfl | hu
  ·rw [pR r f.1]; exact t_ r rx f.1 fx
  ·exact ie rx fx t f.2 u' hu
def inV (x:V) (xs:List V):Bool:=xs.any fun y=>eqV y x
def rIn (K:PySem.W.Frag) (neg:Bool):R2:=fun x y H Q=>∃ p xs,y = .ref p∧(SqL K H p xs∨SqT K H p xs)∧eU x=true∧xs.all eU=true∧Q (.bl (if neg then !inV x xs else inV x xs)) H
theorem fJ:OpR X (compareOp .NotIn) (rIn X.K true):=by
 (try refine ⟨?_⟩); intro pins s σ H x y v u Q I rx ry h
 obtain ⟨p,xs,rfl,hq,fx,fs,q⟩:=h
 cases ry
 rcases hq with hq | hq
 ·obtain ⟨its,r,pl,hz⟩:=I.list hq
  refine SeqAt.notIn_listAt (eqU x) pl.isList (fun w hw=>ie rx fx r fs w (by simpa using hw)) ⟨.bl _,H,I,rfl,?_⟩
  rw [show its.toArray.any (eqU x)=its.any (eqU x) by simp,jk r fs]
  exact q
 ·obtain ⟨its,r,pl,hz⟩:=I.tuple hq
  refine SeqAt.notIn_tupleAt (eqU x) pl (fun w hw=>ie rx fx r fs w (by simpa using hw)) ⟨.bl _,H,I,rfl,?_⟩
  rw [show its.toArray.any (eqU x)=its.any (eqU x) by simp,jk r fs]
  exact q
theorem aD:cM X (.builtin "len") (fun xs H Q=>∃ p ys,xs=[.ref p]∧(SqL X.K H p ys∨SqT X.K H p ys)∧Q (.int ys.length) H):=by
 (try refine ⟨?_⟩); intro pins s σ H xs us Q I r h
 obtain ⟨p,ys,rfl,hq,q⟩:=h
 obtain ⟨u,rfl,rx⟩:=gH r
 cases rx
 have hn:=ff
 rcases hq with hq | hq
 ·obtain ⟨its,r',pl,hz⟩:=I.list hq
  have hlen:=r'.length
  exact Calls.call_len_list pl.isList (by simp only [List.size_toArray] <;> omega) ⟨.int ys.length,H,I.tok _,⟨s.toks + 1,by rw [List.size_toArray,hlen]⟩,q⟩
 ·obtain ⟨its,r',pl,hz⟩:=I.tuple hq
  have hlen:=r'.length
  exact len_tuple pl (by simp only [List.size_toArray] <;> omega) ⟨.int ys.length,H,I.tok _,⟨s.toks + 1,by rw [List.size_toArray,hlen]⟩,q⟩
theorem br:cM X (.type "list") (fun xs H Q=>∃ p ys,xs=[.ref p]∧(SqL X.K H p ys∨SqT X.K H p ys)∧∀ l,H l=none→Q (.ref l) (upd H l (.lst ys))):=by
 (try refine ⟨?_⟩); intro pins s σ H xs us Q I r h
 obtain ⟨p,ys,rfl,hq,q⟩:=h
 obtain ⟨u,rfl,rx⟩:=gH r
 cases rx
 have fin:∀ (its:List Value),aI ys its→ys.length≤sizeLine→∀ (h':Heap) (c':Nat),(∀ b o',s.heap.get? b=some o'→h'.get? b=some o') →
  h'.get? s.heap.objs.size=some { cls:=.type "list",dict:=none,data:=.seq its.toArray c',slots:=#[] }→EP X pins σ Q (.ref s.heap.objs.size) { s with heap:=h' }:=fun its r' hz h' c' kp e =>
  ⟨.ref s.heap.objs.size,_,I.laid (t':=s.toks) kp (Nat.le_refl _) (show bE X.prog X.w _ h' _ (.lst ys) from ⟨hz,its,c',r',e⟩),rfl,q _ (I.hok.fresh (Nat.le_refl _))⟩
 rcases hq with hq | hq
 ·obtain ⟨its,r',pl,hz⟩:=I.list hq
  have hlen:=r'.length
  obtain ⟨o,ho,hc,n,hd⟩:=pl.isList
  exact call_list_seq p (.inl rfl) ho hc hd (fun h' c' kp e=>fin its r' hz h' c' kp e) (by simp only [List.size_toArray] <;> omega)
 ·obtain ⟨its,r',pl,hz⟩:=I.tuple hq
  have hlen:=r'.length
  obtain ⟨o,ho,hc,n,hd⟩:=pl
  exact call_list_seq p (.inr rfl) ho hc hd (fun h' c' kp e=>fin its r' hz h' c' kp e) (by simp only [List.size_toArray] <;> omega)
def tyV (K:PySem.W.Frag) (T:String) (x:V) (H:Hp):Prop:=match x with
 | .str _=>T = "str"
 | .int _=>T = "int"
 | .ref p=>(T = "list" ∧ ∃ xs,SqL K H p xs)∨(T = "tuple" ∧ ∃ o,K.lookup p=some o∧o.cls = .type "tuple" ∧ o.dict=none) ∨
  (T = "dict" ∧ ((∃ kvs,H p=some (.dK kvs))∨∃ kvs,H p=some (.dT kvs)))∨(T = "set" ∧ ∃ S n,H p=some (.set S n))
 | _=>False
theorem oe {pins:List (Addr×Obj)} {σ:St} {H:Hp} {s:Shared} {T:String} {x:V} {v:Value} (I:Inv X pins σ H s) (r:aU x v) (ty:tyV X.K T x H) :
 s.TypeIs v T∧∀ a,v = .ref a→∃ ob,s.heap.get? a=some ob∧ob.dict=none:=by
 cases x with
 | str z =>
  obtain ⟨t,rfl⟩:=r
  cases (show T = "str" from ty)
  exact ⟨typeIs_str s z t,fun _ e=>nomatch e⟩
 | int i =>
  obtain ⟨t,rfl⟩:=r
  cases (show T = "int" from ty)
  exact ⟨typeIs_int s i t,fun _ e=>nomatch e⟩
 | ref p =>
  cases r
  rcases ty with ⟨rfl,xs,hq⟩ | ⟨rfl,o,hk,hc,hd⟩ | ⟨rfl,hk⟩ | ⟨rfl,S,n,hk⟩
  ·obtain ⟨its,_,pl,_⟩:=I.list hq
   refine ⟨pl.isList.typeIs,fun a e=>?_⟩
   cases e
   obtain ⟨o,n,e,c,hd,_⟩:=pl
   exact ⟨o,e,hd⟩
  ·refine ⟨⟨o,I.kIn p o hk,hc⟩,fun a e=>?_⟩
   cases e
   exact ⟨o,I.kIn _ o hk,hd⟩
  ·have z:∃ o,s.heap.get? p=some o∧o.ExactDict:=by
    rcases hk with ⟨kvs,hk⟩ | ⟨kvs,hk⟩
    ·obtain ⟨_,_,_,_,o,_,_,e,ex,_⟩:=I.hok p _ hk
     exact ⟨o,e,ex⟩
    ·obtain ⟨_,_,_,_,o,_,_,e,ex,_⟩:=I.hok p _ hk
     exact ⟨o,e,ex⟩
   obtain ⟨o,e,ex⟩:=z
   refine ⟨⟨o,e,ex.1⟩,fun a e2=>?_⟩
   cases e2
   exact ⟨o,e,ex.2.1⟩
  ·obtain ⟨o,_,_,_,e,ex,_⟩:=I.hok p _ hk
   refine ⟨⟨o,e,ex.1⟩,fun a e2=>?_⟩
   cases e2
   exact ⟨o,e,ex.2.1⟩
 | _=>exact False.elim ty
def tBM0 (K:PySem.W.Frag) (T:String) (r:V→List V→Hp→VK→Prop) (to:TE):TE:=fun σ H Q=>to σ H fun x H1=>tyV K T x H1∧r x [] H1 Q
def tBM (K:PySem.W.Frag) (T:String) (r:V→List V→Hp→VK→Prop) (to:TE) (t:TA):TE:=fun σ H Q=>to σ H fun x H1=>tyV K T x H1∧t σ H1 fun xs H2=>r x xs H2 Q
variable {o e:Expr} {es:List Expr} {to:TE} {t:TA} {name:Str} {apos cpos:Pos} {T id:String} {r:V→List V→Hp→VK→Prop}
theorem tw (pa:PlainAttrs T) (slot:Slot T name id) (hty:typeOf (.builtin id)=pure (.type "method_descriptor")) (hm:MtR X id r) (ho:PE X o to)
 (hbase:attributeBase o name X.env (eval o X.env)=eval o X.env:=by rfl) (hline:(apos.endLine == cpos.line)=true:=by rfl):PE X (.Call (.Attribute o name apos) [] [] cpos) (tBM0 X.K T r to):=by
 (try refine ⟨?_⟩); intro pins s σ H Q I h
 refine wpAny_Call_method0_late hbase hline (thn (ho pins s σ H _ I h) fun v s1 ⟨x,H1,I1,r1,ty,q1⟩=>?_)
 obtain ⟨h1,h2⟩:=oe I1 r1 ty
 exact ⟨T,id,pa,slot,hty,h1,h2,Calls.callWith_builtin rfl (PySem.evalArgs_none (hm pins s1 σ H1 x [] v [] Q I1 r1 .nil q1))⟩
theorem rD (pa:PlainAttrs T) (slot:Slot T name id) (hty:typeOf (.builtin id)=pure (.type "method_descriptor")) (hm:MtR X id r) (ho:PE X o to) (ha:PA X (e :: es) t)
 (hbase:attributeBase o name X.env (eval o X.env)=eval o X.env:=by rfl)
 (hfew:((backTo cpos (starEach (e :: es) X.env)).all (fun x=>!x.1)&&(backToKw cpos (keywordEach [] X.env)).all (fun x=>x.1.isSome)
  && decide ((e :: es).length + ([]:List Keyword).length + (if ([]:List Keyword).isEmpty then 0 else 1)<30))=true:=by rfl)
 (hline:(apos.endLine == cpos.line)=true:=by rfl) (hs:starEach (e :: es) X.env=(false,eval e X.env) :: starEach es X.env:=by rfl) (hplain:(backTo cpos (starEach es X.env)).any (·.1)=false:=by rfl) :
 PE X (.Call (.Attribute o name apos) (e :: es) [] cpos) (tBM X.K T r to t):=by
 (try refine ⟨?_⟩); intro pins s σ H Q I h
 refine wpAny_Call_method_late hbase hfew hline rfl (thn (ho pins s σ H _ I h) fun v s1 ⟨x,H1,I1,r1,ty,q1⟩=>?_)
 obtain ⟨h1,h2⟩:=oe I1 r1 ty
 refine ⟨T,id,pa,slot,hty,h1,h2,?_⟩
 have hA:=ha cpos pins s1 σ H1 _ I1 q1
 rw [hs] at hA ⊢
 refine Calls.callWith_builtin (by show (false||(backTo cpos (starEach es X.env)).any (·.1))=false; rw [hplain] <;> rfl) (Calls.evalArgs_plain ?_)
 exact thn hA fun us s2 ⟨vs,H2,I2,r2,q2⟩=>hm pins s2 σ H2 x vs v us Q I2 r1 r2 q2
/- xs.append(e),list.index on a module's tuple .. are MtR facts of 06m -/
end
def MtM (X:Cx) (id:String) (r:V→List V→Hp→VK→Prop):Prop :=
 ∀ (pins:List (Addr×Obj)) (s:Shared) (σ:St) (H:Hp) (x:V) (xs:List V) (v:Value) (us:List Value) (Q:VK),Inv X pins σ H s→aU x v→aI xs us→r x xs H Q →
  wpAny (model X.prog X.w) X.A (call (.builtin id) (v :: us)) (EP X pins σ Q) X.xe s
theorem aI.one:∀ {x:V} {us:List Value},aI [x] us→∃ u,us=[u]∧aU x u:=fun h=>by
 cases h with
 | cons r q=>cases q; exact ⟨_,rfl,r⟩
theorem aI.zero:∀ {us:List Value},aI [] us→us=[]
 | _,.nil=>rfl
theorem aI.dropLast {xs:List V} {us:List Value} (h:aI xs us):aI xs.dropLast us.dropLast:=by
 induction h with
 | nil=>exact .nil
 | cons r t ih =>
  cases t with
  | nil=>exact .nil
  | cons q t'=>exact .cons r ih
theorem aI.rep {xs:List V} {us:List Value} (h:aI xs us):∀ k:Nat,aI (List.replicate k xs).flatten (List.replicate k us).flatten
 | 0=>.nil
 | k + 1=>by
  rw [List.replicate_succ,List.replicate_succ,List.flatten_cons,List.flatten_cons]
  exact aI.append h (aI.rep h k)
theorem lA {α:Type} (l:List α):l.eraseIdx (l.length - 1)=l.dropLast:=by
 induction l with
 | nil=>rfl
 | cons a r ih =>
  cases r with
  | nil=>rfl
  | cons b r =>
   have e:(a :: b :: r).length - 1=((b :: r).length - 1) + 1:=by
    have h1:(a :: b :: r).length=r.length + 2:=rfl
    have h2:(b :: r).length=r.length + 1:=rfl
    omega
   rw [e,List.eraseIdx_cons_succ,ih]
   all_goals rfl
theorem iP (its:List Value):∀ (k:Nat) (acc:List Value),
 List.foldl (fun x1 x2=>x1++x2) acc.toArray (List.replicate k its.toArray)=(acc++(List.replicate k its).flatten).toArray
 | 0,acc=>by simp
 | k + 1,acc=>by
  have e:acc.toArray++its.toArray=(acc++its).toArray:=by simp
  have e2:(acc++its)++(List.replicate k its).flatten=acc++(List.replicate (k + 1) its).flatten:=by
   rw [List.replicate_succ,List.flatten_cons,List.append_assoc]
  rw [← e2,← iP its k (acc++its),← e,List.replicate_succ,List.foldl_cons]
section
variable {X:Cx} {pins:List (Addr×Obj)} {σ:St} {H:Hp} {s:Shared} {l b:Addr} {xs ys zs:List V}
theorem Inv.lset {its its':List Value} {n:Nat} {f:Array Value→Array Value} {t':Nat} (I:Inv X pins σ H s) (hH:H l=some (.lst xs))
 (e:s.heap.get? l=some { cls:=.type "list",data:=.seq its.toArray n }) (hf:f its.toArray=its'.toArray) (hv:aI ys its') (hz:ys.length≤sizeLine) :
 Inv X pins σ (upd H l (.lst ys)) { s with heap:=s.heap.update l (Obj.mapSeq f),toks:=t' }:=by
 have q:=PySem.IsL.update e f
 rw [hf] at q
 refine I.write (x:=l) (e:=l) (by rw [hH]; exact trivial) (.inl rfl) (fun b' u hb hu=>(Heap.get?_update_other s.heap (Obj.mapSeq f) (Ne.symm hb)).trans hu) ⟨_,q⟩ ?_
 exact ⟨hz,its',_,hv,q⟩
theorem Inv.lnew {its:List Value} {t':Nat} (I:Inv X pins σ H s) (hv:aI ys its) (hz:ys.length≤sizeLine) :
 Inv X pins σ (upd H s.heap.objs.size (.lst ys)) { s with heap:=s.heap.push { cls:=.type "list",data:=.seq its.toArray },toks:=t' } :=
 I.laid (fun _ _ q=>Heap.get?_push_of_some _ q) (Nat.le_refl _) ⟨hz,its,0,hv,Heap.get?_push_size _ rfl⟩
theorem Inv.fresh (I:Inv X pins σ H s):H s.heap.objs.size=none:=I.hok.fresh (Nat.le_refl _)
theorem Inv.lstM (I:Inv X pins σ H s) (hH:H l=some (.lst xs)):xs.length≤sizeLine∧∃ (its:List Value) (n:Nat),aI xs its∧xs.length=its.length∧s.heap.get? l=some { cls:=.type "list",data:=.seq its.toArray n }:=by
 obtain ⟨z,its,n,r,e⟩:=I.hok l _ hH
 exact ⟨z,its,n,r,r.length,e⟩
theorem j9 {n:Nat} (h:n≤sizeLine):Builtin.List.listTooLong n=false:=by
 unfold Builtin.List.listTooLong
 exact decide_eq_false (by omega)
end
section
variable {X:Cx}
def qa:V→List V→Hp→VK→Prop:=fun x vs H Q=>∃ l xs y,x = .ref l∧vs=[y]∧H l=some (.lst xs)∧xs.length<sizeLine∧Q .non (upd H l (.lst (xs++[y])))
theorem iF:MtM X "list.append" qa:=by
 (try refine ⟨?_⟩); intro pins s σ H x vs v us Q I rx rv h
 obtain ⟨l,xs,y,rfl,rfl,hH,hz,q⟩:=h
 cases rx
 obtain ⟨u,rfl,ru⟩:=rv.one
 obtain ⟨z,its,n,r,hl,e⟩:=I.lstM hH
 refine call_meets F.slot_list_append ⟨_,e,rfl⟩ F.entry_list_append (F.args_list_append_2 _ _) (PySem.list_append l its.toArray n u (by rw [List.size_toArray]; omega)) ⟨e,?_⟩
 refine ⟨.non,_,I.lset (its':=its++[u]) hH e (by simp) (r.append (.cons ru .nil)) ?_,rfl,q⟩
 rw [List.length_append,List.length_singleton]
 omega
def q9:V→List V→Hp→VK→Prop:=fun x vs H Q=>∃ l b xs zs,x = .ref l∧vs=[.ref b]∧H l=some (.lst xs)∧H b=some (.lst zs)∧xs.length + zs.length≤sizeLine∧Q .non (upd H l (.lst (xs++zs)))
theorem uD:MtM X "list.extend" q9:=by
 (try refine ⟨?_⟩); intro pins s σ H x vs v us Q I rx rv h
 obtain ⟨l,b,xs,zs,rfl,rfl,hH,hB,hz,q⟩:=h
 cases rx
 obtain ⟨u,rfl,ru⟩:=rv.one
 cases ru
 obtain ⟨z,its,n,r,hl,e⟩:=I.lstM hH
 obtain ⟨z2,its2,n2,r2,hl2,e2⟩:=I.lstM hB
 have hsz:its.toArray.size + its2.toArray.size≤sizeLine:=by rw [List.size_toArray,List.size_toArray]; omega
 have hlong : ¬ (!its.toArray.isEmpty&&Builtin.List.listTooLong (its.toArray.size + its2.toArray.size))=true:=by
  rw [j9 hsz,Bool.and_false]
  exact Bool.false_ne_true
 refine call_meets F.slot_list_extend ⟨_,e,rfl⟩ F.entry_list_extend (F.args_list_extend_2 _ _)
  (AutoSeq1.list_extend_list_list_0 l its.toArray n b its2.toArray n2 hlong (by rw [List.size_toArray]; omega) (by omega)) ⟨e,e2,?_⟩
 refine ⟨.non,_,I.lset (its':=its++its2) hH e (by simp) (r.append r2) ?_,rfl,q⟩
 rw [List.length_append]
 omega
def rPop:V→List V→Hp→VK→Prop:=fun x vs H Q=>∃ l xs y,x = .ref l∧vs=[]∧H l=some (.lst xs)∧xs[xs.length - 1]? = some y∧Q y (upd H l (.lst xs.dropLast))
theorem mt_pop:MtM X "list.pop" rPop:=by
 (try refine ⟨?_⟩); intro pins s σ H x vs v us Q I rx rv h
 obtain ⟨l,xs,y,rfl,rfl,hH,hy,q⟩:=h
 cases rx
 have hus:=rv.zero
 subst hus
 obtain ⟨z,its,n,r,hl,e⟩:=I.lstM hH
 obtain ⟨u,hu,ru⟩:=r.get hy
 have hy':its.toArray[its.toArray.size - 1]? = some u:=by
  show its.toArray[its.length - 1]? = some u
  rw [← Array.getElem?_toList,← hl]
  exact hu
 refine call_meets F.slot_list_pop ⟨_,e,rfl⟩ F.entry_list_pop (F.args_list_pop_1 _) (MeetsSeq.list_pop_last l its.toArray n u hy' (by rw [List.size_toArray]; omega)) ⟨e,?_⟩
 refine ⟨y,_,I.lset (its':=its.dropLast) hH e ?_ r.dropLast ?_,ru,q⟩
 ·show its.toArray.eraseIdxIfInBounds (its.toArray.size - 1)=its.dropLast.toArray
  rw [List.size_toArray,List.eraseIdxIfInBounds_toArray,lA]
 ·rw [List.length_dropLast]
  omega
def sU:V→List V→Hp→VK→Prop:=fun x vs H Q=>∃ l xs,x = .ref l∧vs=[]∧H l=some (.lst xs)∧Q .non (upd H l (.lst []))
theorem nu:MtM X "list.clear" sU:=by
 (try refine ⟨?_⟩); intro pins s σ H x vs v us Q I rx rv h
 obtain ⟨l,xs,rfl,rfl,hH,q⟩:=h
 cases rx
 have hus:=rv.zero
 subst hus
 obtain ⟨z,its,n,r,hl,e⟩:=I.lstM hH
 refine call_meets F.slot_list_clear ⟨_,e,rfl⟩ F.entry_list_clear (F.args_list_clear_1 _) (AutoSeq1.list_clear_list_0 l its.toArray n (by rw [List.size_toArray]; omega)) ⟨e,?_⟩
 exact ⟨.non,_,I.lset (its':=[]) (ys:=[]) hH e rfl .nil (Nat.zero_le _),rfl,q⟩
def rCat:R2:=fun x y H Q=>∃ l b xs zs,x = .ref l∧y = .ref b∧H l=some (.lst xs)∧H b=some (.lst zs)∧xs.length + zs.length≤sizeLine∧∀ p,H p=none→Q (.ref p) (upd H p (.lst (xs++zs)))
theorem tY:OpR X (binaryOp .Add) rCat:=by
 (try refine ⟨?_⟩); intro pins s σ H x y v u Q I rx ry h
 obtain ⟨l,b,xs,zs,rfl,rfl,hH,hB,hz,q⟩:=h
 cases rx
 cases ry
 obtain ⟨z,its,n,r,hl,e⟩:=I.lstM hH
 obtain ⟨z2,its2,n2,r2,hl2,e2⟩:=I.lstM hB
 refine PySem.P.add_list e e2 ?_ (by rw [List.size_toArray,List.size_toArray]; omega)
 have ea:its.toArray++its2.toArray=(its++its2).toArray:=by simp
 rw [ea]
 exact ⟨.ref _,_,I.lnew (t':=s.toks) (r.append r2) (by rw [List.length_append]; omega),rfl,q _ I.fresh⟩
def rRep:R2:=fun x y H Q=>∃ l k xs,x = .ref l∧y = .int k∧H l=some (.lst xs)∧-(2 ^ 63)≤k∧k<2 ^ 63∧xs.length * k.toNat≤sizeLine ∧
 ∀ p,H p=none→Q (.ref p) (upd H p (.lst (List.replicate k.toNat xs).flatten))
theorem qj {α:Type} (xs:List α) (k:Nat):(List.replicate k xs).flatten.length=k * xs.length:=by
 induction k with
 | zero=>simp
 | succ k ih=>rw [List.replicate_succ,List.flatten_cons,List.length_append,ih,Nat.succ_mul,Nat.add_comm]
theorem k9:OpR X (binaryOp .Mult) rRep:=by
 (try refine ⟨?_⟩); intro pins s σ H x y v u Q I rx ry h
 obtain ⟨l,k,xs,rfl,rfl,hH,h1,h2,hz,q⟩:=h
 cases rx
 obtain ⟨t,rfl⟩:=ry
 obtain ⟨z,its,n,r,hl,e⟩:=I.lstM hH
 have hlen:its.toArray.size * k.toNat≤sizeLine:=by rw [List.size_toArray,← hl]; exact hz
 have hcap : ¬ its.toArray.size * k.toNat > (2 ^ 63 - 1) / 8:=by
  have:(sizeLine:Nat)≤(2 ^ 63 - 1) / 8:=by decide
  omega
 have hfit : ¬ (!Builtin.List.listFitsIndex k)=true:=by
  rw [fitsIndex_both h1 h2]
  exact Bool.false_ne_true
 have hlong : ¬ Builtin.List.listTooLong (its.toArray.size * k.toNat)=true:=by
  rw [j9 hlen]
  exact Bool.false_ne_true
 have hnew:List.foldl (fun x1 x2=>x1++x2) #[] (List.replicate (if its.toArray.isEmpty=true then 0 else k.toNat) its.toArray)=(List.replicate k.toNat its).flatten.toArray:=by
  have f0:∀ m:Nat,List.foldl (fun x1 x2=>x1++x2) #[] (List.replicate m its.toArray)=(List.replicate m its).flatten.toArray:=fun m=>by
   have:=iP its m []
   rw [List.nil_append] at this
   exact this
  rw [f0]
  cases its with
  | nil=>simp
  | cons a r'=>rw [if_neg (by simp)]
 refine wpAny_binaryOp_repeat_ref (T:="list") (U:="int") (by decide) ⟨_,e,rfl⟩ (fun s'=>typeIs_int s' k t) noFill_list_mul F.fills_int_mul F.slot_int_rmul repeat_list F.slot_int_index.lookup
  (call_meets F.slot_int_rmul (typeIs_int s k t) F.entry_int_rmul (F.args_int_rmul_2 _ _) (int___rmul___int_list k t l its.toArray n)
   ⟨e,rfl,⟨_,e,rfl⟩,call_meets F.slot_list_mul ⟨_,e,rfl⟩ F.entry_list_mul (F.args_list_mul_2 _ _) (AutoListH.list___mul___list_int_3 l its.toArray n k t hfit hcap hlong) ⟨e,?_⟩⟩)
 rw [hnew]
 exact ⟨.ref _,_,I.lnew (t':=s.toks) (r.rep k.toNat) (by rw [qj,Nat.mul_comm]; exact hz),rfl,q _ I.fresh⟩
end
section
variable {prog:Program} {w:World} {A:Around} {E:Value→Shared→Prop} {s:Shared}
end
section
variable {X:Cx}
end
end L2
namespace Att
open PySem PySem.W PySem.Calls PyProof.Rows
theorem gN {P:Params} {h:Heap}:∀ (ns:List Int) (vs:List Value),WellAll P h vs (ns.map WData.int)→IntsAre vs ns:=by
 intro ns
 induction ns with
 | nil =>
  intro vs w
  rw [List.map_nil] at w
  cases w
  exact .nil
 | cons n ns ih =>
  intro vs w
  rw [List.map_cons] at w
  cases w with
  | cons a b =>
   cases a
   exact .cons _ _ (ih _ b)
theorem mS {l:OpenLaw} {n:Nat} (hn:l.most=some n) {P:Params} {h:Heap} {args:List WData} {vals:List Value}
 (hpre:l.row.toRowW.claim.pre args=true) (hwl:WellAll P h vals args) :
 ∃ a vs ns,vals=[Value.ref a]∧args=[WData.list (ns.map WData.int)]∧h.get? a=some { cls:=.type "list",data:=.seq vs.toArray }∧IntsAre vs ns∧ns.length≤n:=by
 have hsh:WShape.hasAll [] args [.list .int]=true:=(pre_splitW hpre).1
 have hc:l.pre.holds [] { args:=args } = true:=(pre_splitW hpre).2
 obtain ⟨d,r,rfl,h1,h2⟩:=hasAllW_cons hsh
 obtain rfl:=hasAllW_nil h2
 obtain ⟨xs,rfl,h3⟩:=hasW_list h1
 obtain ⟨ns,rfl⟩:=items_int h3
 have hlen:ns.length≤n:=by
  unfold OpenLaw.pre at hc
  have h4:(WTm.not (.lt (.lit (.int (n:Int))) (.len (.arg 0)))).holds [] { args:=[.list (ns.map .int)] } = true:=by
   have h4:=(holds_andW hc).1
   rw [hn] at h4
   exact h4
  have h5:=condW_of h4 (w_not (w_lt w_lit (w_len_list (w_arg rfl))))
  rw [List.length_map] at h5
  refine Nat.le_of_not_lt fun q=>?_
  have q':(n:Int)<((ns.length:Nat):Int):=by omega
  first
   | (rw [decide_eq_true q'] at h5; exact absurd h5 (by decide))
   | (simp at h5; omega)
 cases hwl with
 | cons w1 w2 =>
  cases w2
  cases w1 with
  | list ho hall=>exact ⟨_,_,ns,rfl,rfl,ho,gN ns _ hall,hlen⟩
theorem mW (l:OpenLaw) (args:List WData):l.row.toRowW.claim.post args (.bool true) args=true :=
 postW_of (r:=l.row.toRowW) (X:=(true == true))
  (show WShape.has [] (.bool true) .bool=true by first | rfl | decide | simp [WShape.has,WShape.arms,WShape.armsAll])
  (show (WTm.eq .res (.lit (.bool true))).value [] { args:=args,res:=some (.bool true),after:=args } = some (.bool (true == true)) from w_eq_bool (w_res rfl) w_lit) rfl
theorem attach_call {l:OpenLaw} {n:Nat} {q:Program} {loose:List Str} {XP:(Str→Option Value)→Heap→Prop} {YP:World→Heap→Prop} {d:DefRec}
 (hn:l.most=some n) (hdf:d.params.defaults=[])
 (call:∀ (w:World) (s₀ s₁:Shared) (mg mb:Str→Option Value) (fa:Addr) (o:Obj) (pm cd doc:Value) (a:Addr) (vs:List Value) (ns:List Int),
  Ground q loose [] XP w s₀ mg mb s₁.heap→YP w s₁.heap →
  s₁.heap.get? fa=some o→o.data = .func (docDef d.name d.params d.body d.scope pm cd doc)→s₁.heap.CodeRec cd d.name→mg d.name=some (.ref fa) →
  s₁.heap.get? a=some { cls:=.type "list",data:=.seq vs.toArray }→IntsAre vs ns→ns.length≤n→s₁.gens = #[] →
  codeAny (model l.prog w) callerA (.call (.ref fa) ⟨[.ref a],[]⟩) (fun r s'=>r = .ok (.ret (.bool true))∧OldK s₁.heap s'.heap∧s'.os=s₁.os∧AllBare s'.gens) s₁) :
 WalkO q loose XP YP l.row.toRowW d [] (fun f vs=>PySem.call f vs):=by
 intro w s₀ s₁ mg mb G Y fa o pm cd doc dV kV ho hd hcd hD hmg hg args vals as hpre hlay hrd hwl hlo
 obtain rfl:dV = .none:=Dflts.none hD hdf
 obtain rfl:kV = .none:=Dflts.noKw hD
 obtain ⟨a,vs,ns,rfl,rfl,hobj,hints,hlen⟩:=mS hn hpre hwl
 refine enter_call (codeAny_mono (call w s₀ s₁ mg mb fa o pm cd doc a vs ns G Y ho (fd_plain hd) hcd hmg hobj hints hlen hg) fun r s' hq=>?_)
 obtain ⟨rfl,h2,h3,h4⟩:=hq
 exact ⟨.inl ⟨.bool true,.bool true,[],rfl,fun _=>rfl,.bool true,mW l _,fun _=>⟨List.Pairwise.nil,fun _ hm=>(nomatch hm)⟩⟩,h2,h3,h4⟩
section
variable {prog:Program} {w:World} {A:Around} {E:Value→Shared→Prop} {s:Shared} {K:Frag}
end
end Att
namespace L2
open PySem PySem.Spec PyProof.Rows
theorem gz:∀ {vs:List Value} {ns:List Int},IntsAre vs ns→aI (ns.map V.int) vs
 | _,_,.nil=>.nil
 | _,_,.cons n t h=>.cons ⟨t,rfl⟩ (gz h)
def Only (H:Hp):Prop:=∀ b,H b=none∨∃ o xs,H b=some (.frz o (.lst xs))
theorem oN {P:Program} {w:World} {K:PySem.W.Frag} {mg mb:Str→Option Value} {CX:CXT} {k:Nat} {fa a:Addr} {fd:FuncData} {x:Str} {sp:Sp} {s₁:Shared} {vs:List Value} {ns:List Int}
 (KX:K.In s₁.heap) (hns:s₁.heap.Ns mainGlobals mg) (hb:s₁.heap.Ns builtinsNs mb) (hbb:∀ x:Str,x ≠ "__name__" → mb x=bootBuiltins x) (hlim:s₁.heap.NoLimit) (hg:s₁.gens = #[])
 (ha:s₁.heap.get? a=some { cls:=.type "list",data:=.seq vs.toArray }) (hi:IntsAre vs ns) (hl:ns.length≤sizeLine) (hr:Room k callerA)
 (F:∀ base:Heap,K.In base→base.Ns mainGlobals mg→FnOk P w K mg base CX k fa fd [x] sp) (hbind:∀ (s:Shared) (u:Value),BindsTo s fd ⟨[u],[]⟩ [(x,u)])
 (hsp:∀ H:Hp,Only H→SqL K H a (ns.map V.int)→sp [.ref a] H (fun v _=>v = .bl true) fun _ _ _=>False)
 (hCX:∀ H e s',CX [] H s₁ (fun _ _ _=>False) e s'→False) :
 codeAny (model P w) callerA (.call (.ref fa) ⟨[.ref a],[]⟩) (fun r s'=>r = .ok (.ret (.bool true))∧OldK s₁.heap s'.heap∧s'.os=s₁.os∧AllBare s'.gens) s₁:=by
 have rv:=gz hi
 have lenV:=hi.length
 -- from an abstract heap in which nothing but the script may be tracked
 have core:∀ H:Hp,Only H→SqL K H a (ns.map V.int)→HOk P w H s₁.heap→(∀ b,H b≠none→b=a)→(H a≠none→K.lookup a=none) →
  codeAny (model P w) callerA (.call (.ref fa) ⟨[.ref a],[]⟩) (fun r s'=>r = .ok (.ret (.bool true))∧OldK s₁.heap s'.heap∧s'.os=s₁.os∧AllBare s'.gens) s₁:=by
  intro H hO hS hok hA hK
  have base_of:∀ {b:Addr} {o:Obj},s₁.heap.get? b=some o→H b=none→(eW s₁.heap H).get? b=some o:=fun e n=>oX e n
  have noA:∀ {b:Addr} {o:Obj} {es:Array DictEntry} {ep:Nat},s₁.heap.get? b=some o→o.data = .dict es ep→H b=none:=fun {b o es ep} e d=>by
   cases q:H b with
   | none=>rfl
   | some u =>
    have e':b=a:=hA b (by rw [q]; simp)
    subst e'
    rw [ha] at e; cases e
    have d':Data.seq vs.toArray _=Data.dict es ep:=d
    cases d'
  have nsK:∀ {b:Addr} {m:Str→Option Value},s₁.heap.Ns b m→(eW s₁.heap H).Ns b m:=fun {b m} ⟨o,es,ep,e,d,r⟩=>⟨o,es,ep,base_of e (noA e d),d,r⟩
  have hKb:K.In (eW s₁.heap H):=fun b o e=>base_of (KX b o e) (by
   cases q:H b with
   | none=>rfl
   | some u =>
    have e':b=a:=hA b (by rw [q]; simp)
    subst e'
    rw [hK (by rw [q]; simp)] at e; cases e)
  have hM:Mod K mg (eW s₁.heap H):=⟨hKb,nsK hns,⟨mb,nsK hb,hbb⟩,let ⟨mc,h1,h2⟩:=hlim; ⟨mc,nsK h1,h2⟩⟩
  have e0:Env0 P w K mg (eW s₁.heap H) callerA [] s₁ H:=⟨rfl,hM,fun b o e=>rk e,Nat.le_of_eq (f8 _ _),trivial,fun b hb=>absurd (show b∈([]:List Addr) from hb) (by simp),hok,.of_eq hg,TbM.hid⟩
  refine codeAny_mono ((F _ hKb (nsK hns)).run callerA [] s₁ H ⟨[.ref a],[]⟩ [.ref a] [.ref a] _ _ hr e0 (hbind s₁ (.ref a)) (.cons rfl .nil) (hsp H hO hS)) fun r s' h=>?_
  cases r with
  | error e=>exact (hCX H e s' h).elim
  | ok fl =>
   cases fl with
   | next=>exact False.elim h
   | brk=>exact False.elim h
   | cont=>exact False.elim h
   | ret u =>
    obtain ⟨v,H',os,bare,un,hok',r',q⟩:=h
    have q':v = .bl true:=q
    subst q'
    obtain rfl:u=Value.bool true:=r'
    refine ⟨rfl,OldK.of_keep fun b o e=>?_,os,bare⟩
    cases q:H b with
    | none=>exact un.keep b o e q (by intro z; exact absurd (show b∈([]:List Addr) from z) (by simp)) (by simp)
    | some u =>
     rcases hO b with z | ⟨ob,xs,z⟩
     ·rw [q] at z; cases z
     ·have z2:=un.frzs b ob _ z
      obtain ⟨e1,_⟩:=hok b _ z
      obtain ⟨e2,_⟩:=hok' b _ z2
      rw [e] at e1; cases e1
      exact e2
 cases hk:K.lookup a with
 | some o =>
  -- the script is one of the module's own objects
  have e:=KX a o hk
  rw [ha] at e
  cases e
  refine core (fun _=>none) (fun _=>.inl rfl) (.inr ⟨_,vs.toArray,_,hk,rfl,rfl,rfl,by rw [List.size_toArray,lenV]; exact hl,by simpa using rv⟩) (fun b u z=>by have z':(none:Option HO)=some u:=z; cases z') (fun b z=>absurd rfl z) fun z=>absurd rfl z
 | none =>
  refine core (fun b=>if b=a then some (.frz { cls:=.type "list",data:=.seq vs.toArray } (.lst (ns.map V.int))) else none) (fun b=>?_) (.inl (.inr ⟨{ cls:=.type "list",data:=.seq vs.toArray },if_pos rfl⟩)) (fun b u z=>?_) (fun b z=>?_) fun _=>hk
  ·by_cases hb:b=a
   ·exact .inr ⟨_,_,if_pos hb⟩
   ·exact .inl (if_neg hb)
  ·by_cases hb:b=a
   ·have z':=(if_pos hb).symm.trans z
    cases z'
    subst hb
    exact ⟨ha,by rw [List.length_map]; exact hl,vs,_,rv,ha⟩
   ·have z':=(if_neg hb).symm.trans z
    cases z'
  ·by_cases hb:b=a
   ·exact hb
   ·exact absurd (if_neg hb) z
theorem rc {l:PySem.W.OpenLaw} {n k:Nat} {q:Program} {loose:List Str} {XP:(Str→Option Value)→Heap→Prop} {YP:World→Heap→Prop} {d:DefRec} {K:Params→PySem.W.Frag} {CX:World→CXT} {sp:World→Sp} {x:Str}
 (hn:l.most=some n) (hn2:n≤sizeLine) (hdf:d.params.defaults=[]) (hr:Room k callerA)
 (hY:∀ (w:World) (h:Heap),YP w h→(K w.params).In h)
 (F:∀ (w:World) (mg:Str→Option Value) (fa:Addr) (h:Heap),(K w.params).In h→h.Ns mainGlobals mg→mg d.name=some (.ref fa) →
  ∃ fd:FuncData,(∀ (s:Shared) (u:Value),BindsTo s fd ⟨[u],[]⟩ [(x,u)]) ∧
   ∀ base:Heap,(K w.params).In base→base.Ns mainGlobals mg→FnOk l.prog w (K w.params) mg base (CX w) k fa fd [x] (sp w))
 (hsp:∀ (w:World) (H:Hp) (a:Addr) (ns:List Int),ns.length≤n→Only H→SqL (K w.params) H a (ns.map V.int)→sp w [.ref a] H (fun v _=>v = .bl true) fun _ _ _=>False)
 (hCX:∀ (w:World) (H:Hp) (s:Shared) (e:Value) (s':Shared),CX w [] H s (fun _ _ _=>False) e s'→False) :
 PySem.W.WalkO q loose XP YP l.row.toRowW d [] (fun f vs=>PySem.call f vs):=by
 refine Att.attach_call hn hdf fun w s₀ s₁ mg mb fa o pm cd doc a vs ns G Y ho hd hcd hmg hobj hints hlen hg=>?_
 have KX:=hY w _ Y
 obtain ⟨fd,hb,hF⟩:=F w mg fa _ KX G.T.g hmg
 exact oN KX G.T.g G.T.b G.T.builtins G.T.nolimit hg hobj hints (Nat.le_trans hlen hn2) hr hF hb (fun H hO hS=>hsp w H a ns hlen hO hS) fun H e s'=>hCX w H s₁ e s'
end L2
/- THE LAST THEOREM (shape; LID,My.* are yours):
   My.Adr: a structure of the addresses that your layer names (classes,functions); My.Txt K t: a structure (Prop) of the equations over K;
   My.txt_mk : {K} {implicit addresses ..} (e1:nsIn K mainGlobals "law" = some (some (.ref f))) (e2:K.lookup f=some ⟨oc,od,.func (fnOf "law" "law" params body scope dV kV doc pm an cdv ct),sl⟩) (e3:codeIn K cdv "law" = true) ..:∃ t,My.Txt K t
(the tactic k_is has no namespace: write k_is) -/
namespace L2
open PySem PySem.Spec PyProof.Rows
def cw (s:Stmt) (j:Nat):Stmt:=match s with
 | .ClassDef _ _ _ body _ _ _ _ _ _ _=>body.getD j (.Pass ⟨0,0,0,0⟩)
 | _=>.Pass ⟨0,0,0,0⟩
def b_ (s:Stmt):Arguments:=match s with
 | .FunctionDef _ a _ _ _ _ _ _ _ _=>a
 | _=>{ posonlyargs:=[],args:=[],vararg:=none,kwonlyargs:=[],kw_defaults:=[],kwarg:=none,defaults:=[] }
def bL (s:Stmt):List Stmt:=match s with
 | .FunctionDef _ _ b _ _ _ _ _ _ _=>b
 | _=>[]
def ah (s:Stmt):Scope:=match s with
 | .FunctionDef _ _ _ _ _ _ sc _ _ _=>sc
 | _=>{ kind:=.function,names:=[],isGenerator:=false,isCoroutine:=false }
abbrev CX0:CXT:=fun _ _ _ _ _ _=>False
abbrev E0:XK:=fun _ _ _=>False
theorem ic {X:Cx}:fc CX0 X E0:=fun _ _ _ _ _ _ _ h=>h.elim
structure Fun (K:PySem.W.Frag) (x qual:Str) (st:Stmt) (f:Addr) (fd:FuncData):Prop where
 ex:∃ (oc:Value) (od:Option Addr) (kV doc pm:Value) (an:Option Addr) (cdv ct:Value) (osl:Array (Option Value)),
  fd=PySem.W.fnOf x qual (b_ st) (bL st) (ah st) .none kV doc pm an cdv ct∧K.lookup f=some ⟨oc,od,.func fd,osl⟩∧PySem.W.codeIn K cdv qual=true
 kp:PySem.W.keepIn K (.ref f)=true
section
variable {P:Program} {w:World} {K:PySem.W.Frag} {mg:Str→Option Value} {base:Heap}
theorem Fun.ok {x qual:Str} {st:Stmt} {f:Addr} {fd:FuncData} {N ps:List Str} {k:Nat} {sp:Sp} (F:Fun K x qual st f fd) (S:FnScope N ps (ah st)) (len:∀ vs H Q E,sp vs H Q E→vs.length=ps.length)
 (hbody:∀ (cdv:Value) (A:Around) (outer:List Env) (s:Shared) (H:Hp) (vs:List V) (Q:VK) (E:XK),Room k (A.deeper (envOfC qual (ah st) s.heap.objs.size f cdv))→sp vs H Q E →
  ∃ t,PSs (kO CX0 P w K mg base N qual (ah st) f cdv A outer s H E).nox (bL st) t∧t { nx:=fun _ H'=>Q .non H',rt:=Q } (start N vs) H):FnOk P w K mg base CX0 (k + 1) f fd ps sp:=by
 obtain ⟨oc,od,kV,doc,pm,an,cdv,ct,osl,rfl,lk,hcd⟩:=F.ex
 refine fn_of lk hcd S len fun A outer s H vs Q E hr hsp=>?_
 obtain ⟨t,h,q⟩:=hbody cdv A outer s H vs Q E hr hsp
 exact ⟨t,h.nox,q⟩
theorem Fun.binds {x qual:Str} {st:Stmt} {f:Addr} {fd:FuncData} {ps:List Str} (F:Fun K x qual st f fd)
 (h:∀ (kV doc pm:Value) (an:Option Addr) (cdv ct:Value) (us:List Value),us.length=ps.length→bindArgs (PySem.W.fnOf x qual (b_ st) (bL st) (ah st) .none kV doc pm an cdv ct) ⟨us,[]⟩=pure (ps.zip us)):cU K fd ps []:=by
 obtain ⟨oc,od,kV,doc,pm,an,cdv,ct,osl,rfl,lk,hcd⟩:=F.ex
 exact .all (h kV doc pm an cdv ct)
theorem pU {x qual:Str} {st:Stmt} {f:Addr} {oc:Value} {od an:Option Addr} {osl:Array (Option Value)} {kV doc pm cdv ct:Value} (l:K.lookup f=some ⟨oc,od,.func (PySem.W.fnOf x qual (b_ st) (bL st) (ah st) .none kV doc pm an cdv ct),osl⟩)
 (c:PySem.W.codeIn K cdv qual=true) (k:PySem.W.keepIn K (.ref f)=true):Fun K x qual st f (PySem.W.fnOf x qual (b_ st) (bL st) (ah st) .none kV doc pm an cdv ct):=⟨⟨oc,od,kV,doc,pm,an,cdv,ct,osl,rfl,l,c⟩,k⟩
end
theorem cB {n:Nat} (h:n≤1000):n<sizeLine:=Nat.lt_of_le_of_lt h (by decide)
section
variable {X:Cx}
end
theorem d9 {c A B:Prop} [Decidable c] (h1:c→A) (h2 : ¬ c→B):if c then A else B:=by
 by_cases h:c
 ·rw [if_pos h]
  exact h1 h
 ·rw [if_neg h]
  exact h2 h
def az (H H':Hp):Prop:=∀ b o,H b=some o→H' b=some o
theorem az.refl (H:Hp):az H H:=fun _ _ h=>h
theorem az.trans {H H1 H2:Hp} (a:az H H1) (b:az H1 H2):az H H2:=fun c o h=>b c o (a c o h)
inductive D where
 | non | bl (b:Bool) | int (i:Int) | str (x:Str) | tup (ds:List D) | lst (ds:List D) | dct | dic (ks:List Key) (ds:List D) | obj (C:Addr) (ks:List Str) (ds:List D) | scr (φ:Addr→Prop) (ns:List Int) | ext (φ:Hp→Addr→Prop)
mutual
def Rep (H:Hp):D→V→Prop
 | .non,v=>v = .non
 | .bl b,v=>v = .bl b
 | .int i,v=>v = .int i
 | .str x,v=>v = .str x
 | .tup ds,v=>∃ a xs,v = .ref a∧H a=some (.tup xs)∧Reps H ds xs
 | .lst ds,v=>∃ a xs,v = .ref a∧H a=some (.lst xs)∧Reps H ds xs
 | .dct,v=>∃ a kvs,v = .ref a∧H a=some (.dK kvs)
 | .dic ks ds,v=>∃ a xs,v = .ref a∧H a=some (.dK (ks.zip xs))∧ks.length=ds.length∧Reps H ds xs
 | .obj C ks ds,v=>∃ a dx xs,v = .ref a∧H a=some (.ins C dx (ks.zip xs))∧ks.length=ds.length∧Reps H ds xs
 | .scr φ ns,v=>∃ a,v = .ref a∧((∃ o,H a=some (.frz o (.lst (ns.map V.int))))∨φ a)
 | .ext φ,v=>∃ a H0,v = .ref a∧az H0 H∧φ H0 a
def Reps (H:Hp):List D→List V→Prop
 | [],xs=>xs=[]
 | d :: ds,xs=>∃ v vs,xs=v :: vs∧Rep H d v∧Reps H ds vs
end
theorem Reps.length {H:Hp}:∀ {ds:List D} {xs:List V},Reps H ds xs→xs.length=ds.length
 | [],xs,h=>by rw [Reps] at h; subst h; rfl
 | d :: ds,xs,h=>by
  rw [Reps] at h
  obtain ⟨v,vs,rfl,_,h2⟩:=h
  have:=Reps.length h2
  simp [this]
mutual
theorem Rep.mono {H H':Hp} (e:az H H'):∀ (d:D) (v:V),Rep H d v→Rep H' d v
 | .non,v,h=>by rw [Rep] at *; exact h
 | .bl b,v,h=>by rw [Rep] at *; exact h
 | .int i,v,h=>by rw [Rep] at *; exact h
 | .str x,v,h=>by rw [Rep] at *; exact h
 | .tup ds,v,h=>by
  rw [Rep] at *
  obtain ⟨a,xs,h1,h2,h3⟩:=h
  exact ⟨a,xs,h1,e _ _ h2,Reps.mono e ds xs h3⟩
 | .lst ds,v,h=>by
  rw [Rep] at *
  obtain ⟨a,xs,h1,h2,h3⟩:=h
  exact ⟨a,xs,h1,e _ _ h2,Reps.mono e ds xs h3⟩
 | .dct,v,h=>by
  rw [Rep] at *
  obtain ⟨a,kvs,h1,h2⟩:=h
  exact ⟨a,kvs,h1,e _ _ h2⟩
 | .dic ks ds,v,h=>by
  rw [Rep] at *
  obtain ⟨a,xs,h1,h2,h3,h4⟩:=h
  exact ⟨a,xs,h1,e _ _ h2,h3,Reps.mono e ds xs h4⟩
 | .obj C ks ds,v,h=>by
  rw [Rep] at *
  obtain ⟨a,dx,xs,h1,h2,h3,h4⟩:=h
  exact ⟨a,dx,xs,h1,e _ _ h2,h3,Reps.mono e ds xs h4⟩
 | .scr φ ns,v,h=>by
  rw [Rep] at *
  obtain ⟨a,h1,h2⟩:=h
  refine ⟨a,h1,?_⟩
  rcases h2 with ⟨o,h2⟩ | h2
  ·exact .inl ⟨o,e _ _ h2⟩
  ·exact .inr h2
 | .ext φ,v,h=>by
  rw [Rep] at *
  obtain ⟨a,H0,h1,h2,h3⟩:=h
  exact ⟨a,H0,h1,fun b o q=>e _ _ (h2 b o q),h3⟩
theorem Reps.mono {H H':Hp} (e:az H H'):∀ (ds:List D) (xs:List V),Reps H ds xs→Reps H' ds xs
 | [],xs,h=>by rw [Reps] at *; exact h
 | d :: ds,xs,h=>by
  rw [Reps] at *
  obtain ⟨v,vs,h1,h2,h3⟩:=h
  exact ⟨v,vs,h1,Rep.mono e d v h2,Reps.mono e ds vs h3⟩
end
def D.ty:D→String
 | .non => "NoneType" | .bl _ => "bool" | .int _ => "int" | .str _ => "str" | .tup _ => "tuple" | .lst _ => "list" | .dct => "dict" | .dic _ _ => "dict" | .obj _ _ _ => "object" | .scr _ _ => "list" | .ext _ => "object"
def D.isS:D→Bool
 | .scr _ _=>true
 | .ext _=>true
 | .obj _ _ _=>true
 | _=>false
theorem Rep.ty {K:PySem.W.Frag} {H:Hp} {d:D} {v:V} (h:Rep H d v) (hs:d.isS=false):TyOf K H v (.type d.ty):=by
 cases d with
 | non=>rw [Rep] at h; subst h; exact .non
 | bl b=>rw [Rep] at h; subst h; exact .bl b
 | int i=>rw [Rep] at h; subst h; exact .int i
 | str x=>rw [Rep] at h; subst h; exact .str x
 | tup ds=>rw [Rep] at h; obtain ⟨a,xs,rfl,h2,_⟩:=h; exact .tup h2
 | lst ds=>rw [Rep] at h; obtain ⟨a,xs,rfl,h2,_⟩:=h; exact .lst h2
 | dct=>rw [Rep] at h; obtain ⟨a,kvs,rfl,h2⟩:=h; exact .dK h2
 | dic ks ds=>rw [Rep] at h; obtain ⟨a,xs,rfl,h2,_⟩:=h; exact .dK h2
 | scr φ ns=>cases hs
 | ext φ=>cases hs
 | obj C ks ds=>cases hs
theorem dC {H:Hp}:∀ {ds:List D} {xs:List V} {r:Nat},Reps H ds xs→r<ds.length→∃ v d,xs[r]? = some v∧ds[r]? = some d∧Rep H d v
 | [],_,_,_,h=>absurd h (Nat.not_lt_zero _)
 | d :: ds,xs,0,h,_=>by obtain ⟨v,vs,rfl,h1,_⟩:=h; exact ⟨v,d,rfl,rfl,h1⟩
 | d :: ds,xs,r + 1,h,hl=>by
  obtain ⟨v,vs,rfl,_,h2⟩:=h
  obtain ⟨v',d',e1,e2,e3⟩:=dC (r:=r) h2 (by simpa using hl)
  exact ⟨v',d',by simpa using e1,by simpa using e2,e3⟩
def hide (p:Addr) (H:Hp):Hp:=fun b=>if b=p then none else H b
theorem ji {H:Hp} {a:Addr} {xs:List V} {ds:List D} (h:H a=some (.tup xs)) (r:Reps H ds xs):Rep H (.tup ds) (.ref a):=by rw [Rep]; exact ⟨a,xs,rfl,h,r⟩
theorem ja {H:Hp} {a:Addr} {xs:List V} {ds:List D} (h:H a=some (.lst xs)) (r:Reps H ds xs):Rep H (.lst ds) (.ref a):=by rw [Rep]; exact ⟨a,xs,rfl,h,r⟩
theorem bK {H:Hp}:Reps H [] []:=by rw [Reps]
theorem bn {H:Hp} {d:D} {v:V} {ds:List D} {vs:List V} (h:Rep H d v) (r:Reps H ds vs):Reps H (d :: ds) (v :: vs):=by rw [Reps]; exact ⟨v,vs,rfl,h,r⟩
theorem bi {H:Hp} (i:Int):Rep H (.int i) (.int i):=by rw [Rep]
theorem b6 {H:Hp} (i:Bool):Rep H (.bl i) (.bl i):=by rw [Rep]
theorem l6 {H:Hp}:Rep H .non .non:=by rw [Rep]
theorem nT {H:Hp} {p:Addr} (h:H p=none) (o:HO):az H (upd H p o):=fun b u q=>by rw [ag (am q h)]; exact q
section
variable {X:Cx}
def mO (d:D) (T:String):Option Bool:=if d.isS=true then none else if (Value.type d.ty == Value.type T)=true then some true else if PySem.W.kitMeta T=true then (fastBuiltinMro d.ty).map (·.contains (.type T)) else none
theorem oZ (K:PySem.W.Frag) (d:D) (T:String) (hs:d.isS=false):PySem.W.kitOne K (.type d.ty) (.type T)=mO d T:=by
 unfold mO; rw [hs,if_neg (by decide)]; rfl
def rIsI:List V→Hp→VK→Prop:=fun xs H Q=>∃ x T d b,xs=[x,.ty T]∧Rep H d x∧mO d T=some b∧Q (.bl b) H
theorem j8:cM X (.builtin "isinstance") rIsI:=by
 intro pins s σ H xs us Q I r h
 obtain ⟨x,T,d,b,rfl,hd,e,q⟩:=h
 obtain ⟨u,w',rfl,ru,rw'⟩:=lQ r
 cases (show w'=Value.type T from rw')
 have hs:d.isS=false:=by
  cases z:d.isS with
  | false=>rfl
  | true=>unfold mO at e; rw [z,if_pos rfl] at e; cases e
 rw [← oZ X.K d T hs] at e
 exact mI I ru (hd.ty hs) e fun tk=>⟨.bl b,H,I.tok tk,rfl,q⟩
def Sm (i:Int):Prop:=i.natAbs<2 ^ 8000
theorem Sm.log {i:Int} (h:Sm i):i.natAbs.log2<8000:=by
 by_cases h0:i.natAbs=0
 ·rw [h0]; decide
 ·exact (Nat.log2_lt h0).mpr h
def CDivB (i j:Int):Prop:=0<j∧Sm j
theorem o4:OpR X (binaryOp .FloorDiv) (rI CDivB fun i j=>.int (i / j)):=opI fun i j _ _ _ _ _ hc q=>by
 refine floordiv_int (Int.ne_of_gt hc.1) ?_ (.inl (PyProof.noPylong_of_log2 (Nat.lt_of_lt_of_le hc.2.log (by decide))))
 rw [Int.fdiv_eq_ediv_of_nonneg _ (Int.le_of_lt hc.1)]
 exact q
end
theorem bq:bootBuiltins "len" = some (.builtin "len"):=by decide +kernel
theorem o_:bootBuiltins "max" = some (.builtin "max"):=by decide +kernel
theorem gx:bootBuiltins "min" = some (.builtin "min"):=by decide +kernel
theorem aN:bootBuiltins "isinstance" = some (.builtin "isinstance"):=by decide +kernel
theorem iI:bootBuiltins "sorted" = some (.builtin "sorted"):=by decide +kernel
theorem tM:bootBuiltins "any" = some (.builtin "any"):=by decide +kernel
theorem pW:bootBuiltins "int" = some (.type "int"):=by decide +kernel
theorem jA:bootBuiltins "bool" = some (.type "bool"):=by decide +kernel
theorem j_:bootBuiltins "tuple" = some (.type "tuple"):=by decide +kernel
theorem bM:bootBuiltins "list" = some (.type "list"):=by decide +kernel
theorem jF:bootBuiltins "enumerate" = some (.type "enumerate"):=by decide +kernel
theorem tF:bootBuiltins "zip" = some (.type "zip"):=by decide +kernel
section
variable {X:Cx} {pins:List (Addr×Obj)} {σ:St} {H:Hp} {s:Shared} {pos:Pos}
end
end L2
namespace L2
open PySem
theorem cG {i:Int} {n:Nat} (h:i.natAbs≤n) (hn:n<2 ^ 8000):Sm i:=Nat.lt_of_le_of_lt h hn
end L2
namespace L2
open PySem PySem.Spec PyProof.Rows
def CL (env:Env):List (Str×Addr)→Prop
 | []=>True
 | p :: r=>env.cells.lookup p.1=some p.2∧CL env r
theorem CL.get {env:Env}:∀ {cl:List (Str×Addr)},CL env cl→∀ {x:Str} {c:Addr},cl.lookup x=some c→env.cells.lookup x=some c
 | [],_,x,c,h=>by simp at h
 | (y,d) :: r,h,x,c,e=>by
  rw [List.lookup_cons] at e
  cases hx:x == y with
  | true =>
   rw [hx] at e
   have e1:x=y:=by simpa using hx
   have e2:d=c:=Option.some.inj e
   subst e1 e2
   exact h.1
  | false =>
   rw [hx] at e
   exact CL.get h.2 e
theorem eD {env:Env}:∀ {names:List (Str×NameKind)} {x:Str} {k:NameKind},
 (names.map fun (n,k)=>if (k == NameKind.free&&env.scope.kind == .function&&env.kindOf n == some .cell) then (n,NameKind.cell) else (n,k)).lookup x=some k →
 ∃ k',names.lookup x=some k'∧(k'=k∨(k' = .free∧k = .cell))
 | [],x,k,h=>by simp at h
 | (n,kn) :: r,x,k,h=>by
  have ih:=@eD env r x k
  by_cases hc:(kn == NameKind.free&&env.scope.kind == .function&&env.kindOf n == some .cell)=true
  ·have h':List.lookup x ((n,NameKind.cell) :: (r.map fun (n,k)=>if (k == NameKind.free&&env.scope.kind == .function&&env.kindOf n == some .cell) then (n,NameKind.cell) else (n,k)))=some k:=by
    rw [List.map_cons] at h
    simp only [hc,if_true] at h
    exact h
   rw [List.lookup_cons] at h' ⊢
   cases hx:x == n with
   | true =>
    rw [hx] at h'
    have:kn = .free:=by
     simp only [Bool.and_eq_true,beq_iff_eq] at hc
     exact hc.1.1
    exact ⟨kn,rfl,.inr ⟨this,(Option.some.inj h').symm⟩⟩
   | false=>rw [hx] at h'; exact ih h'
  ·have h':List.lookup x ((n,kn) :: (r.map fun (n,k)=>if (k == NameKind.free&&env.scope.kind == .function&&env.kindOf n == some .cell) then (n,NameKind.cell) else (n,k)))=some k:=by
    rw [List.map_cons] at h
    simp only [hc] at h
    exact h
   rw [List.lookup_cons] at h' ⊢
   cases hx:x == n with
   | true=>rw [hx] at h'; exact ⟨kn,rfl,.inl (Option.some.inj h')⟩
   | false=>rw [hx] at h'; exact ih h'
def bp (X:Cx) (scope:Scope) (cl:List (Str×Addr)) (N:List Str) (C:Addr) (s₀:Shared) (H₀:Hp) (ex:List Addr):Cx where
 prog:=X.prog
 w:=X.w
 K:=X.K
 mg:=X.mg
 base:=X.base
 A:=X.A
 N:=N
 s₀:=s₀
 H₀:=H₀
 env:=compEnvC scope cl C X.env
 outer:=X.stack
 stack:=X.stack
 ex:=ex
 fn:=fun _=>false
 calm:=X.calm
 pn:=[]
 xe:=fun _ _=>False
def okJ (X:Cx) (scope:Scope) (j:Nat):Bool:=match X.N[j]? with
 | some x=>(match X.env.scope.names.lookup x with | some .cell=>true | _=>false)&&(match scope.names.lookup x with | some .free=>true | _=>false)
 | none=>false
def bG (own:List Str) (js:List Nat) (σ:St):St:=own.map (fun _=>none)++js.map fun j=>(σ[j]?).getD none
def cJ (X:Cx) (own:List Str) (js:List Nat):List Str:=own++js.map fun j=>(X.N[j]?).getD (Str.ofString "")
structure CompOk (X:Cx) (scope:Scope) (cl:List (Str×Addr)) (own:List Str) (js:List Nat):Prop where
 clos:closureFor scope X.env=pure cl
 kind:scope.kind = .function
 names:∀ x∈scope.names,x.2 = .local→scope.names.lookup x.1=some .local
 ncell:(scope.names.all fun y=>match y.2 with | .cell=>false | _=>true)=true
 has:(scope.names.all fun y=>match y.2 with | .free=>(cl.lookup y.1).isSome | _=>true)=true
 cells:CL X.env cl
 js:js.all (okJ X scope)=true
theorem CompOk.nc {X:Cx} {scope:Scope} {cl:List (Str×Addr)} {own:List Str} {js:List Nat} (c:CompOk X scope cl own js):∀ y∈scope.names,y.2≠.cell:=fun y hy e=>by
 have:=List.all_eq_true.mp c.ncell y hy
 rw [e] at this
 cases this
theorem CompOk.fr {X:Cx} {scope:Scope} {cl:List (Str×Addr)} {own:List Str} {js:List Nat} (c:CompOk X scope cl own js) {x:Str} (h:scope.names.lookup x=some .free):∃ d,cl.lookup x=some d:=by
 have:=List.all_eq_true.mp c.has (x,.free) (PySem.mem_of_lookup h)
 exact Option.isSome_iff_exists.mp this
section
variable {X:Cx} {pins:List (Addr×Obj)} {σ:St} {H:Hp} {s:Shared} {scope:Scope} {cl:List (Str×Addr)} {own:List Str} {js:List Nat}
theorem kQ {h1:Heap} {C:Addr} {fp:List Addr} {t':Nat} (c:CompOk X scope cl own js) (I:Inv X pins σ H s) (hf:∀ b∈fp,ju X pins H b) (hlt:∀ b∈fp,b<s.heap.objs.size)
 (hC:s.heap.objs.size≤C) (hk:∀ b o,s.heap.get? b=some o→h1.get? b=some o) (hn:h1.Ns C fun _=>none) :
 Inv (bp X scope cl (cJ X own js) C s H fp) [] (bG own js σ) H { s with heap:=h1,toks:=t' }:=by
 have kindOfY:∀ x k,(bp X scope cl (cJ X own js) C s H fp).env.kindOf x=some k→∃ k',scope.names.lookup x=some k'∧(k'=k∨(k' = .free∧k = .cell)):=fun x k e=>eD (env:=X.env) (names:=scope.names) e
 refine ⟨⟨I.ok.mod,c.kind,I.ok.glob,I.ok.blt,hC,fun x y d h1 h2=>I.ok.inj x y d (c.cells.get h1) (c.cells.get h2),fun x hx=>?_,fun x d h=>(by cases h),I.ok.hd,I.ok.frames,.inl rfl,fun b hb=>⟨?_,fun x d e=>(hf b hb).2.2.2.2.1 x d (c.cells.get e)⟩,
  fun b o e=>I.bs b o e,Nat.le_trans I.ok.bsz I.sz,fun b o e hb=>?_,fun b hb z=>?_,I.stack,I.stkFree,I.ok.tb.un I.base⟩,rfl,I.bare,Un.kept hk,⟨_,hn,fun i x v e1 e2 e3=>?_⟩,fun x d e=>?_,I.hok.fresh hC,fun x d e=>I.freeC x d (c.cells.get e),fun p hp=>(by cases hp),I.hok.kept hk,?_⟩
 ·rcases hx with hx | hx
  ·obtain ⟨k',e1,e2⟩:=kindOfY x _ hx
   rcases e2 with e2 | ⟨e2,_⟩
   ·exact absurd e2 (c.nc _ (PySem.mem_of_lookup e1))
   ·subst e2; exact c.fr e1
  ·obtain ⟨k',e1,e2⟩:=kindOfY x _ hx
   rcases e2 with e2 | ⟨_,e2⟩
   ·subst e2; exact c.fr e1
   ·cases e2
 ·exact Nat.ne_of_lt (Nat.lt_of_lt_of_le (hlt b hb) hC)
 ·rcases (hf b hb).2.2.2.1 with z | z
  ·exact I.ok.noex b o e z
  ·exact absurd (Nat.lt_of_lt_of_le (Heap.lt_size e) (Nat.le_trans I.ok.bsz z)) (Nat.lt_irrefl _)
 ·rcases List.mem_cons.mp (I.stkSub b z) with q | q
  ·exact (hf b hb).2.1 q
  ·exact (hf b hb).2.2.1 q
 ·-- a name taken from the frame
  have e1:(cJ X own js)[i]? = some x:=e1
  unfold cJ at e1
  unfold bG at e2
  by_cases hi:i<own.length
  ·rw [List.getElem?_append_left (by simpa using hi),List.getElem?_map,List.getElem?_eq_getElem hi] at e2
   cases e2
  ·rw [List.getElem?_append_right (by simpa using Nat.not_lt.mp hi),List.getElem?_map,List.length_map] at e2
   rw [List.getElem?_append_right (Nat.not_lt.mp hi),List.getElem?_map] at e1
   cases ej:js[i - own.length]? with
   | none=>rw [ej] at e2; cases e2
   | some j =>
    rw [ej] at e1 e2
    have hj:=List.all_eq_true.mp c.js j (List.mem_of_getElem? ej)
    unfold okJ at hj
    have e1':(X.N[j]?).getD (Str.ofString "")=x:=Option.some.inj e1
    have e2':(σ[j]?).getD none=some v:=Option.some.inj e2
    cases en:X.N[j]? with
    | none=>rw [en] at hj; cases hj
    | some y =>
     rw [en] at hj e1'
     have e1'':y=x:=e1'
     subst e1''
     have hv : σ[j]? = some (some v):=by
      cases es : σ[j]? with
      | none=>rw [es] at e2'; cases e2'
      | some ov=>rw [es] at e2'; rw [show ov=some v from e2']
     dsimp only at hj
     rw [Bool.and_eq_true] at hj
     have k1:X.env.scope.names.lookup y=some .cell:=by
      have:=hj.1
      split at this
      ·assumption
      ·cases this
     have k2:scope.names.lookup y=some .free:=by
      have:=hj.2
      split at this
      ·assumption
      ·cases this
     obtain ⟨m,_,hl⟩:=I.loc
     obtain ⟨u,ru,l⟩:=hl j y v en hv (.inr (.inl k1))
     refine ⟨u,ru,?_⟩
     rcases l with ⟨l,_⟩ | ⟨_,d,ed,z⟩
     ·rw [show X.env.kindOf y=some .cell from k1] at l; cases l
     ·obtain ⟨d',ed'⟩:=c.fr k2
      have:=c.cells.get ed'
      rw [ed] at this
      cases this
      obtain ⟨o,ho,hd⟩:=z
      refine .inr ⟨?_,d,ed',⟨o,hk _ _ ho,hd⟩⟩
      have e3:(bp X scope cl (cJ X own js) C s H fp).env.scope.names.lookup y=some .local∨(bp X scope cl (cJ X own js) C s H fp).env.scope.names.lookup y=some .cell∨(bp X scope cl (cJ X own js) C s H fp).env.scope.names.lookup y=some .free:=e3
      rcases e3 with e3 | e3 | e3
      ·obtain ⟨k',q1,q2⟩:=kindOfY y _ e3
       rw [k2] at q1
       cases q1
       rcases q2 with q2 | ⟨_,q2⟩ <;> cases q2
      ·exact .inl e3
      ·exact .inr e3
 ·obtain ⟨v,o,ho,hd⟩:=I.cell x d (c.cells.get e)
  exact ⟨v,o,hk _ _ ho,hd⟩
 ·show (bG own js σ).length=(cJ X own js).length
  unfold bG cJ
  simp
structure PIf (X:Cx) (ifs:List Expr) (t:TT):Prop where
 go:∀ (pins:List (Addr×Obj)) (s:Shared) (σ:St) (H:Hp) (Q:Bool→Hp→Prop),Inv X pins σ H s→t σ H Q →
  wpAny (model X.prog X.w) X.A (forIn ifs true fun c r=>if r=true then do let ok ← isTrue c X.env (eval c X.env); pure (ForInStep.yield ok) else pure (ForInStep.yield r)) (TP X pins σ Q) X.xe s
def tYes:TT:=fun _ H Q=>Q true H
theorem qL:PIf X [] tYes:=⟨fun pins s σ H Q I h=>wpAny_tests_nil ⟨H,I,h⟩⟩
theorem qd {c:Expr} {t:TT} (h:PT X c t):PIf X [c] t:=⟨fun pins s σ H Q I q=>wpAny_tests_one (h.go pins s σ H Q I q)⟩
theorem eQ {prog:Program} {w:World} {A:Around} {R:Result→Shared→Prop} {s:Shared} {elt target iter:Expr} {ifs:List Expr} {scope:Scope} {pos:Pos} {it acc:Value} {env:Env} (I:Nat→Shared→Prop)
 (turn:∀ n s,I n s→wpAny (model prog w) A (pyNext it) (fun r s₁=>match r with
  | none=>R (.ok .next) s₁
  | some v=>wpAny (model prog w) A (letOwnedTupleGo target it v) (fun _ s₁=>wpAny (model prog w) A (assign target env v) (fun _ s₂ =>
   wpAny (model prog w) A (forIn ifs true fun c r=>if r=true then do let ok ← isTrue c env (eval c env); pure (ForInStep.yield ok) else pure (ForInStep.yield r)) (fun ok s₃ =>
    if ok=true then wpAny (model prog w) A (eval elt env) (fun x s₄ =>
     wpAny (model prog w) A (call (.builtin "list.append") [acc,x]) (fun _ s₅=>∃ m,m<n∧I m s₅) (fun _ _=>False) s₄) (fun _ _=>False) s₃
    else ∃ m,m<n∧I m s₃) (fun _ _=>False) s₂) (fun _ _=>False) s₁) (fun _ _=>False) s₁) (fun _ _=>False) s)
 (n:Nat) (h:I n s) :
 codeAny (model prog w) A (.compLoop (.ListComp elt [⟨target,iter,ifs,0⟩] scope pos) 0 it acc env) R s:=by
 refine codeAny_loop rfl I (fun n s hI=>?_) n h
 show wpAny _ A ((compTurn (.ListComp elt [⟨target,iter,ifs,0⟩] scope pos) 0 it acc env).onRaise (fun x=>do noteFrame x env; theTreesLotGoes x)) _ _ s
 refine wpAny_noted ?_
 rw [compTurn_list]
 refine wpAny_bind (wpAny_standAt (wpAny_bind (wpAny_mono (turn n s hI) (fun r s₁ h₁=>?_) fun _ _ h'=>h'.elim)))
 cases r with
 | none=>exact wpAny_pure h₁
 | some v =>
  refine wpAny_bind (wpAny_mono h₁ (fun _ s₁ h₁=>?_) fun _ _ h'=>h'.elim)
  refine wpAny_bind (wpAny_mono h₁ (fun _ s₂ h₂=>wpAny_bind (wpAny_mono h₂ (fun ok s₃ h₃=>?_) fun _ _ h'=>h'.elim)) fun _ _ h'=>h'.elim)
  cases ok with
  | false=>exact wpAny_pure ⟨rfl,h₃⟩
  | true =>
   exact wpAny_bind (wpAny_bind (wpAny_mono h₃ (fun x s₄ h₄=>wpAny_bind (wpAny_mono h₄ (fun _ s₅ h₅=>wpAny_pure (wpAny_pure ⟨rfl,h₅⟩)) fun _ _ h'=>h'.elim)) fun _ _ h'=>h'.elim))
def kept:St→St→Prop
 | [],[]=>True
 | none :: r,_ :: r'=>kept r r'
 | some v :: r,y :: r'=>y=some v∧kept r r'
 | [],_ :: _=>False
 | _ :: _,[]=>False
theorem fC:∀ {a b:St},kept a b→a.length=b.length
 | [],[],_=>rfl
 | none :: r,_ :: r',h=>congrArg (· + 1) (fC (a:=r) (b:=r') h)
 | some v :: r,y :: r',h=>congrArg (· + 1) (fC (a:=r) (b:=r') h.2)
 | [],_ :: _,h=>False.elim h
 | none :: _,[],h=>False.elim h
 | some _ :: _,[],h=>False.elim h
theorem et:∀ {a b:St},kept a b→∀ (i:Nat) (v:V),a[i]? = some (some v)→b[i]? = some (some v)
 | [],[],_,i,v,e=>by simp at e
 | none :: r,_ :: r',h,0,v,e=>by simp at e
 | none :: r,_ :: r',h,i + 1,v,e=>by simpa using et (a:=r) (b:=r') h i v (by simpa using e)
 | some w :: r,y :: r',h,0,v,e=>by simp at e; subst e; simp [h.1]
 | some w :: r,y :: r',h,i + 1,v,e=>by simpa using et (a:=r) (b:=r') h.2 i v (by simpa using e)
 | [],_ :: _,h,_,_,_=>False.elim h
 | none :: _,[],h,_,_,_=>False.elim h
 | some _ :: _,[],h,_,_,_=>False.elim h
def lZ (J:It) (g:TG) (tt:TT) (te:TE) (σ0:St) (H:Hp) (Z:List V→Hp→Prop):Prop :=
 ∃ W:Nat→Nat→List V→Hp→Prop,(∃ m,W 0 m [] H)∧∀ i m acc H,W i m acc H →
  (J.stop i H∧acc.length≤sizeLine∧Z acc H)∨(J.go i H∧acc.length<sizeLine∧∃ N:List V→Hp→Prop,(∀ acc' H',N acc' H'→∃ m',m'<m∧W (i + 1) m' acc' H') ∧
   ∀ x H',J.yld i H x H'→g x σ0 H' fun σ2 H2=>kept σ0 σ2∧tt σ2 H2 fun b H3=>if b=true then te σ2 H3 fun v H4=>N (acc++[v]) H4 else N acc H3)
theorem HOk.adopt {P:Program} {w:World} {H:Hp} {h:Heap} {a:Addr} {o:HO} (x:HOk P w H h) (hn:H a=none) (new:bE P w (upd H a o) h a o):HOk P w (upd H a o) h:=fun b u e=>by
 by_cases hb:b=a
 ·subst hb; rw [ax] at e; cases e; exact new
 ·rw [ag hb] at e
  exact (x b u e).stay (fun c v _ q=>q) (fun c q=>by rw [ag (am q hn)]; exact q) (fun c xs q=>by rw [ag (am q hn)]; exact q) fun c ob u q=>by rw [ag (am q hn)]; exact q
theorem iS {elt tg iter:Expr} {ifs:List Expr} {pos:Pos} {J:It} {fp:List Addr} {it:Addr} {tn:Nat→Heap→Prop} {g:TG} {tt:TT} {te:TE} {Z:List V→Hp→Prop} {E:Value→Shared→Prop}
 {RR:Value→Addr→Result→Shared→Prop} (c:CompOk X scope cl own js) (hc:X.calm=true) (I:Inv X pins σ H s) (T:Turn X.prog X.w X.K tg J fp it tn) (t0:tn 0 s.heap) (hf:∀ b∈fp,ju X pins H b)
 (inner:∀ (C:Addr) (s₀:Shared) (H₀:Hp) (ex:List Addr),PG (bp X scope cl (cJ X own js) C s₀ H₀ ex) tg g∧PIf (bp X scope cl (cJ X own js) C s₀ H₀ ex) ifs tt∧PE (bp X scope cl (cJ X own js) C s₀ H₀ ex) elt te)
 (hW:lZ J g tt te (bG own js σ) H Z)
 (hRR:∀ (D C:Addr) (s':Shared) (acc:List V) (H':Hp),(∃ m,s'.heap.Ns C m)→H' D=none→Z acc H'→s.heap.objs.size≤C→C≠X.env.locals→(upd H' D (.lst acc)) C=none→(∀ h',Heap.SameBut C s'.heap h'→Inv X pins σ (upd H' D (.lst acc)) { s' with heap:=h' })→RR (.ref D) C (.ok .next) s') :
 wpAny (model X.prog X.w) X.A (newList []) (fun acc s₃=>wpAny (model X.prog X.w) X.A (newFunctionEnv scope X.env.globals cl [] X.env.qual none .none (some X.env)) (fun cenv s₄ =>
  codeAny (model X.prog X.w) X.A (.compStart (.ListComp elt [⟨tg,iter,ifs,0⟩] scope pos) 0 (.ref it) acc { cenv with scope:=relabel scope X.env }) (RR acc cenv.locals) s₄) E s₃) E s:=by
 refine wpAny_newObj_type (wpAny_newFunctionEnv c.nc (by intro y hy; simp at hy) (fun h₁ hns₁ hsb₁=>?_) c.kind)
 dsimp only at hns₁ hsb₁ ⊢
 generalize hH2:s.heap.push { cls:=.type "list",dict:=none,data:=.seq ([]:List Value).toArray } = H2 at hns₁ hsb₁ ⊢
 have hCs:H2.objs.size=s.heap.objs.size + 1:=by rw [← hH2,Heap.size_push]
 have hns₁:h₁.Ns H2.objs.size (fun _=>none):=hns₁
 have hCle:s.heap.objs.size≤H2.objs.size:=by rw [hCs]; exact Nat.le_succ _
 have hDC:s.heap.objs.size≠H2.objs.size:=by rw [hCs]; exact Nat.ne_of_lt (Nat.lt_succ_self _)
 have below:∀ b,b<s.heap.objs.size→b≠H2.objs.size∧b≠s.heap.objs.size:=fun b hb=>⟨by rw [hCs]; exact Nat.ne_of_lt (Nat.lt_succ_of_lt hb),Nat.ne_of_lt hb⟩
 have old:∀ b o,s.heap.get? b=some o→h₁.get? b=some o:=fun b o e=>hsb₁.extBut b o (below b (Heap.lt_size e)).1 (Heap.get?_push_of_some _ (hH2 ▸ Heap.get?_push_of_some _ e))
 have hD1:h₁.get? s.heap.objs.size=some { cls:=.type "list",data:=.seq ([]:List Value).toArray }:=hsb₁.extBut _ _ hDC (Heap.get?_push_of_some _ (hH2 ▸ Heap.get?_push_size _ rfl))
 have hlt:∀ b∈fp,b<s.heap.objs.size:=fun b hb=>by
  obtain ⟨o,e,_⟩:=T.obj 0 _ t0 b hb
  exact Heap.lt_size e
 have hCL:H2.objs.size≠X.env.locals:=fun z=>absurd (Nat.lt_of_lt_of_le I.lt (by rw [← z]; exact hCle)) (Nat.lt_irrefl _)
 have hDfs:s.heap.objs.size ∉ frs X.stack:=fun z=>by
  rcases List.mem_cons.mp (I.stkSub _ z) with q | q
  ·exact absurd I.lt (by rw [← q]; exact Nat.lt_irrefl _)
  ·exact I.nofs (Nat.le_refl _) q
 have hfs:∀ b∈fp,b ∉ frs X.stack:=fun b hb z=>by
  rcases List.mem_cons.mp (I.stkSub b z) with q | q
  ·exact (hf b hb).2.1 q
  ·exact (hf b hb).2.2.1 q
 have hDcell:∀ x d,cl.lookup x=some d→d≠s.heap.objs.size:=fun x d e=>by
  obtain ⟨v,q⟩:=I.cell x d (c.cells.get e)
  exact Nat.ne_of_lt q.lt
 have fresh:H s.heap.objs.size=none:=I.hok.fresh (Nat.le_refl _)
 obtain ⟨W,⟨m0,w0⟩,turn⟩:=hW
 have loop:∀ s₃:Shared,s₃ = { s with heap:=h₁,toks:=s.toks + ([]:List (Str×Value)).length } →
  codeAny (model X.prog X.w) X.A (.compLoop (.ListComp elt [⟨tg,iter,ifs,0⟩] scope pos) 0 (.ref it) (.ref s.heap.objs.size) (compEnvC scope cl H2.objs.size X.env)) (RR (.ref s.heap.objs.size) H2.objs.size) s₃:=by
  rintro s₃ rfl
  have I0:=kQ (t':=s.toks + ([]:List (Str×Value)).length) c I hf hlt hCle old hns₁
  obtain ⟨hg,hi,he⟩:=inner H2.objs.size s H fp
  generalize hY:bp X scope cl (cJ X own js) H2.objs.size s H fp=Y at I0 hg hi he
  have Yp:Y.prog=X.prog:=by rw [← hY]; rfl
  have Yw:Y.w=X.w:=by rw [← hY]; rfl
  have YK:Y.K=X.K:=by rw [← hY]; rfl
  have YA:Y.A=X.A:=by rw [← hY]; rfl
  have Ye:Y.env=compEnvC scope cl H2.objs.size X.env:=by rw [← hY]; rfl
  have Yl:Y.env.locals=H2.objs.size:=by rw [← hY]; rfl
  have Yc:Y.env.cells=cl:=by rw [← hY]; rfl
  have Yf:Y.fs=frs X.stack:=by rw [← hY]; rfl
  have Yx:Y.ex=fp:=by rw [← hY]; rfl
  have Ys:Y.s₀=s:=by rw [← hY]; rfl
  have YH:Y.H₀=H:=by rw [← hY]; rfl
  have Yn:Y.pn=[]:=by rw [← hY]; rfl
  have Yo:Y.calm=true:=by rw [← hY]; exact hc
  have YE:Y.xe=fun _ _=>False:=by rw [← hY]; rfl
  have fpY:∀ {H':Hp} (pn:List (Addr×Obj)),(∀ b∈fp,H' b=none)→(∀ b∈fp,∀ p∈pn,p.1≠b)→∀ b∈fp,ju Y pn H' b:=fun pn hn hp b hb =>
   ⟨hn b hb,by rw [Yl]; exact (below b (hlt b hb)).1,by rw [Yf]; exact hfs b hb,.inl (by rw [Yx]; exact hb),fun x d e=>(hf b hb).2.2.2.2.1 x d (c.cells.get (by rw [← Yc]; exact e)),fun p hp'=>hp b hb p (by rw [Yn] at hp'; exact hp')⟩
  refine eQ (fun n s'=>∃ i acc its k H',Inv Y [] (bG own js σ) H' s'∧tn i s'.heap∧(∀ b∈fp,H' b=none)∧W i n acc H'∧H' s.heap.objs.size=none∧s'.heap.get? s.heap.objs.size=some { cls:=.type "list",data:=.seq (its:List Value).toArray k }∧aI acc its) ?_ m0
   ⟨0,[],[],0,H,I0,T.keep 0 _ _ t0 (fun b hb o e=>old b o e),fun b hb=>(hf b hb).1,w0,fresh,hD1,.nil⟩
  rintro n s' ⟨i,acc,its,k,H',I',tn',fr',w',hD',oD',hv'⟩
  have hpinD:∀ b∈fp,∀ p∈[(s.heap.objs.size,({ cls:=.type "list",data:=.seq its.toArray k }:Obj))],p.1≠b:=fun b hb p hp=>by
   rw [List.mem_singleton] at hp
   subst hp
   exact fun z=>(below b (hlt b hb)).2 z.symm
  have ID:Inv Y [(s.heap.objs.size,({ cls:=.type "list",data:=.seq its.toArray k }:Obj))] (bG own js σ) H' s':=I'.pins_of fun p hp=>by
   rw [List.mem_singleton] at hp
   subst hp
   exact ⟨oD',hD',by rw [Yl]; exact hDC,by rw [Yf]; exact hDfs,fun v z=>by cases z⟩
  rcases turn i n acc H' w' with ⟨stop,hlen,hz⟩ | ⟨go,hlen,N,hN,step⟩
  ·have hd:=T.done Y Yp Yw YK Yo i _ s' (bG own js σ) H' (fun _ _=>False) ID (fpY _ fr' hpinD) tn' stop
   rw [YA] at hd
   refine thn hd fun r s1 ⟨hr,I1⟩=>?_
   subst hr
   obtain ⟨oD1,_⟩:=I1.pin _ (List.mem_append_right _ (List.mem_singleton.mpr rfl))
   have hC0:H' H2.objs.size=none:=by have:=I1.free; rw [Yl] at this; exact this
   have B1:Un (frs X.stack) fp H H' s.heap s1.heap:=by have:=I1.base; rw [Yf,Yx,YH,Ys] at this; exact this
   refine hRR s.heap.objs.size H2.objs.size s1 acc H' (by obtain ⟨m,hn,_⟩:=I1.loc; rw [Yl] at hn; exact ⟨m,hn⟩) hD' hz hCle hCL (by rw [ag (Ne.symm hDC)]; exact hC0) fun h' hsb=>?_
   have at':∀ b o,b≠H2.objs.size→s1.heap.get? b=some o→h'.get? b=some o:=fun b o hb e=>by rw [hsb.2 b hb]; exact e
   refine I.call' (s':={ s1 with heap:=h' }) (ch:=fp) (by have:=I1.os; rw [Ys] at this; exact this) ⟨fun b o q nn hb hx=>?_,fun b o q nn hb hx=>?_,fun b o q nn hx=>?_,fun b o q hx=>?_,fun b xs q=>?_,fun b o u q=>?_,fun b ps q0 q=>?_⟩ ?_ I1.bare fun b hb=>⟨(hf b hb).2.2.2.1,(hf b hb).2.1,(hf b hb).2.2.2.2.1,(hf b hb).2.2.2.2.2⟩
   ·exact at' b o (below b (Heap.lt_size q)).1 (B1.keep b o q nn hb hx)
   ·obtain ⟨sl,e⟩:=B1.slot b o q nn hb hx
    exact ⟨sl,at' b _ (below b (Heap.lt_size q)).1 e⟩
   ·rw [ag (below b (Heap.lt_size q)).2]; exact B1.free b o q nn hx
   ·obtain ⟨o',e⟩:=B1.there b o q hx
    exact ⟨o',at' b _ (below b (Heap.lt_size q)).1 e⟩
   ·have q':=B1.tups b xs q
    rw [ag (am q' hD')]; exact q'
   ·have q':=B1.frzs b o u q
    rw [ag (am q' hD')]; exact q'
   ·obtain ⟨more,q'⟩:=B1.tbls b ps _ q
    exact ⟨more,by rw [ag (am q' hD')]; exact q'⟩
   ·have hok1:HOk X.prog X.w H' h':=fun a o e=>by
     have hok:=I1.hok
     rw [Yp,Yw] at hok
     refine (hok a o e).stay (fun b u hb q=>at' b u ?_ q) (fun _ q=>q) (fun _ _ q=>q) fun _ _ _ q=>q
     rcases hb with rfl | hb
     ·exact am e hC0
     ·exact am hb hC0
    exact hok1.adopt hD' ⟨hlen,its,k,hv',at' _ _ hDC oD1⟩
  ·have hd:=T.item Y Yp Yw YK Yo i _ s' (bG own js σ) H' (fun _ _=>False) ID (fpY _ fr' hpinD) tn' go
   rw [YA] at hd
   refine thn hd fun r s1 ⟨u,hr,h4⟩=>?_
   subst hr
   have h4:=h4
   refine thn h4 fun _ s2 ⟨x,H5,I5,r5,y5,tn5,fr5⟩=>?_
   have I5':=I5.pinned (fpY _ fr5 hpinD) (T.obj _ _ tn5)
   have hg':=hg.go _ s2 _ H5 x u _ I5' r5 (step x H5 y5)
   rw [Yp,Yw,YA,Ye,YE] at hg'
   refine thn hg' fun _ s3 ⟨σ6,H6,I6,kp6,q6⟩=>?_
   have hi':=hi.go _ s3 σ6 H6 _ I6 q6
   rw [Yp,Yw,YA,Ye,YE] at hi'
   refine thn hi' fun ok s4 ⟨H7,I7,q7⟩=>?_
   cases ok with
   | false =>
    rw [if_neg Bool.false_ne_true] at q7 ⊢
    obtain ⟨m',hm,w7⟩:=hN _ _ q7
    obtain ⟨oD7,hD7,_⟩:=I7.pin _ (List.mem_append_right _ (List.mem_append_left _ (List.mem_singleton.mpr rfl)))
    refine ⟨m',hm,i + 1,acc,its,k,H7,(I7.pins_of (pins':=[]) fun p hp=>(by cases hp)).weak (fC kp6) (et kp6),T.keep _ _ _ tn5 fun b hb o e=>(I7.pin (b,o) (List.mem_append_right _ (List.mem_append_right _ (bZ hb e)))).1,fun b hb=>?_,w7,hD7,oD7,hv'⟩
    obtain ⟨o,e,_⟩:=T.obj _ _ tn5 b hb
    exact (I7.pin (b,o) (List.mem_append_right _ (List.mem_append_right _ (bZ hb e)))).2.1
   | true =>
    rw [if_pos rfl] at q7 ⊢
    have he':=he.go _ s4 σ6 H7 _ I7 q7
    rw [Yp,Yw,YA,Ye,YE] at he'
    refine thn he' fun v s5 ⟨xv,H8,I8,r8,n8⟩=>?_
    obtain ⟨m',hm,w8⟩:=hN _ _ n8
    obtain ⟨oD8,hD8,_⟩:=I8.pin _ (List.mem_append_right _ (List.mem_append_left _ (List.mem_singleton.mpr rfl)))
    have hsz:its.toArray.size<sizeLine:=by rw [List.size_toArray,← hv'.length]; exact hlen
    refine call_meets F.slot_list_append ⟨_,oD8,rfl⟩ F.entry_list_append (F.args_list_append_2 _ _) (PySem.list_append s.heap.objs.size its.toArray k v (Nat.le_of_lt hsz)) ⟨oD8,?_⟩
    have q:=PySem.IsL.update oD8 (fun a=>a.push v)
    have J8:Inv Y (g8 fp s2.heap) σ6 H8 s5:=I8.pins_of fun p hp=>I8.pin p (List.mem_append_right _ (List.mem_append_right _ hp))
    have ne8:∀ b,b∈fp→b≠s.heap.objs.size:=fun b hb=>(below b (hlt b hb)).2
    have J9:=J8.turned (t':=s5.toks) (h':=s5.heap.update s.heap.objs.size (Obj.mapSeq fun a=>a.push v)) (it:=s.heap.objs.size) (fun b o hb e=>(Heap.get?_update_other s5.heap _ (Ne.symm hb)).trans e) hD8 (by rw [Yl]; exact hDC) (.inr (by rw [Ys]; exact Nat.le_refl _)) (fun x d e=>hDcell x d (by rw [← Yc]; exact e))
     (fun p hp=>by
      rw [Yn,List.nil_append] at hp
      obtain ⟨hb,_⟩:=iR hp
      exact ne8 _ hb)
    have keep9:∀ b o,b∈fp→s2.heap.get? b=some o→(s5.heap.update s.heap.objs.size (Obj.mapSeq fun a=>a.push v)).get? b=some o:=fun b o hb e=>(J9.pin (b,o) (List.mem_append_right _ (bZ hb e))).1
    refine ⟨m',hm,i + 1,acc++[xv],its++[v],(if ((its++[v]).toArray.size == its.toArray.size)=true then k else k + 1),H8,(J9.pins_of (pins':=[]) fun p hp=>(by cases hp)).weak (fC kp6) (et kp6),T.keep _ _ _ tn5 fun b hb o e=>keep9 b o hb e,fun b hb=>?_,w8,hD8,?_,hv'.append (.cons r8 .nil)⟩
    ·obtain ⟨o,e,_⟩:=T.obj _ _ tn5 b hb
     exact (J9.pin (b,o) (List.mem_append_right _ (bZ hb e))).2.1
    ·have q':=q
     simp only [List.push_toArray] at q'
     exact q'
 exact codeAny_compStart_list (loop _ rfl) (T.self _ 0 _ _ _ (T.keep 0 _ _ t0 (fun b hb o e=>old b o e)) (loop _ rfl))
def kz (wi:TI) (g:TG) (tt:TT) (te:TE) (own:List Str) (js:List Nat):TE:=fun σ H Q=>wi σ H fun J H1=>lZ J g tt te (bG own js σ) H1 fun acc H2=>∀ p,H2 p=none→Q (.ref p) (upd H2 p (.lst acc))
theorem jm {elt tg iter:Expr} {ifs:List Expr} {pos:Pos} {wi:TI} {g:TG} {tt:TT} {te:TE} (own:List Str) (js:List Nat) (c:CompOk X scope cl own js) (hc:X.calm=true) (hi:PI X tg iter wi)
 (inner:∀ (C:Addr) (s₀:Shared) (H₀:Hp) (ex:List Addr),PG (bp X scope cl (cJ X own js) C s₀ H₀ ex) tg g∧PIf (bp X scope cl (cJ X own js) C s₀ H₀ ex) ifs tt∧PE (bp X scope cl (cJ X own js) C s₀ H₀ ex) elt te)
 (hs:∀ x,foldedSetIterable iter X.env x=pure x:=by intro _; rfl):PE X (.ListComp elt [⟨tg,iter,ifs,0⟩] scope pos) (kz wi g tt te own js):=by
 refine ⟨fun pins s σ H Q I h=>?_⟩
 rw [eval_ListComp]
 refine wpAny_comprehension_free (use:=none) rfl hs c.clos c.kind c.names (thn (hi.go pins s σ H _ I h) fun v s1 h1=>thn h1 fun itv s2 h2=>?_)
 obtain ⟨it,fp,tn,J,H2,e,I2,T,st2,f2,hW⟩:=h2
 subst e
 refine iS (RR:=fun acc C=>compPost (model X.prog X.w) X.A X.xe none (EP X pins σ Q) acc C) c hc I2 T st2 f2 inner hW ?_
 intro D C s' acc H' hn hD hz hDC hCL hUC hI
 exact ⟨hn.choose,hn.choose_spec,fun h' hsb=>⟨.ref D,_,hI h' hsb,rfl,hz D hD⟩⟩
theorem kL {elt tg iter:Expr} {ifs:List Expr} {pos spos py:Pos} {wi:TI} {g:TG} {tt:TT} {te:TE} {i:Nat} {y:Str} (own:List Str) (js:List Nat) (c:CompOk X scope cl own js) (hc:X.calm=true) (hN:X.N.Nodup) (hy:X.N[i]? = some y) (hx:Loc X.env.scope y) (hi:PI X tg iter wi)
 (inner:∀ (C:Addr) (s₀:Shared) (H₀:Hp) (ex:List Addr),PG (bp X scope cl (cJ X own js) C s₀ H₀ ex) tg g∧PIf (bp X scope cl (cJ X own js) C s₀ H₀ ex) ifs tt∧PE (bp X scope cl (cJ X own js) C s₀ H₀ ex) elt te)
 (hsw:swapsWith (.ListComp elt [⟨tg,iter,ifs,0⟩] scope pos) (some (.Name y py)) spos.line X.env=pure true:=by rfl)
 (hs:∀ x,foldedSetIterable iter X.env x=pure x:=by intro _; rfl) (hf:X.fn y=true∨X.env.scope.names.lookup y=some .local:=by first | exact .inl rfl | exact .inr rfl | assumption) :
 PS X (.Assign [.Name y py] (.ListComp elt [⟨tg,iter,ifs,0⟩] scope pos) spos) (p5 (kz wi g tt te own js) (ip i)):=by
 refine ⟨fun pins s σ H D I h=>?_⟩
 rw [exec_Assign_Name_used _ _ _ _ hsw]
 refine wpAny_bind (wpAny_standAt (wpAny_bind ?_))
 show wpAny _ X.A (do let _ ← comprehension (.ListComp elt [⟨tg,iter,ifs,0⟩] scope pos) scope X.env _ (newList []) false (eval iter X.env) (some (assign (.Name y py) X.env))) _ _ s
 refine wpAny_bind (wpAny_mono (wpAny_comprehension_free (use:=some (assign (.Name y py) X.env)) (Q:=fun _ s'=>SP X pins D .next s') rfl hs c.clos c.kind c.names
  (thn (hi.go pins s σ H _ I h) fun v s1 h1=>thn h1 fun itv s2 h2=>?_)) (fun _ s' hq=>wpAny_pure (wpAny_pure hq)) fun _ _ e=>e)
 obtain ⟨it,fp,tn,J,H2,e,I2,T,st2,f2,hW⟩:=h2
 subst e
 refine iS (RR:=fun acc C=>compPost (model X.prog X.w) X.A X.xe (some (assign (.Name y py) X.env)) (fun _ s'=>SP X pins D .next s') acc C) c hc I2 T st2 f2 inner hW ?_
 intro D' C s' acc H' hn hD hz hDC hCL hUC hI
 show wpAny _ X.A (assign (.Name y py) X.env (.ref D')) _ _ _
 have I9:=hI s'.heap (Heap.SameBut.refl _ _)
 obtain ⟨m,hm⟩:=hn
 refine wpAny_assign_Name (iL (v:=.ref D') I9 hN hy hx rfl (fun s'' I'' ⟨a,sb,ha⟩=>?_) hf)
 have aC:C≠a:=by
  rcases ha with ha | ha
  ·rw [ha]; exact hCL
  ·intro z
   subst z
   obtain ⟨v,q⟩:=I2.cell y C ha
   exact absurd (Nat.lt_of_lt_of_le q.lt hDC) (Nat.lt_irrefl _)
 refine ⟨m,hm.sameBut sb aC,fun h' hsb=>?_⟩
 refine ⟨σ.set i (some (.ref D')),upd H' D' (.lst acc),I''.turned (t':=s''.toks) (it:=C) (fun b o hb e=>by rw [hsb.2 b hb]; exact e) ?_ hCL (.inr (Nat.le_trans I2.sz hDC)) (fun x d e z=>?_) (fun p hp z=>?_),hz D' hD⟩
 ·exact hUC
 ·obtain ⟨v,q⟩:=I2.cell x d e
  rw [z] at q
  exact absurd (Nat.lt_of_lt_of_le q.lt hDC) (Nat.lt_irrefl _)
 ·have q:=Heap.lt_size (I2.pin p hp).1
  rw [z] at q
  exact absurd (Nat.lt_of_lt_of_le q hDC) (Nat.lt_irrefl _)
end
def Ite (a:Addr):It :=
 ⟨fun i H=>∃ xs x,H a=some (.lst xs)∧xs[i]? = some x,fun i H v H'=>∃ p x,H p=none∧v = .ref p∧H'=upd H p (.tup [.int i,x])∧∀ xs,H a=some (.lst xs)→xs[i]? = some x,fun i H=>∃ xs,H a=some (.lst xs)∧xs.length≤i⟩
theorem mG {P:Program} {w:World} {K:PySem.W.Frag} {es:List Expr} {k:Nat} {pos:Pos} (a e it:Addr) (hne:e≠it) :
 Turn P w K (.Tuple es k pos) (Ite a) [e,it] e (fun i h=>(∃ old,IsEnum h e it i old)∧h.IsListIter it a i) where
 mem:=by simp
 obj:=fun i h st b hb=>by
  rw [List.mem_cons,List.mem_singleton] at hb
  rcases hb with rfl | rfl
  ·obtain ⟨⟨old,q⟩,_⟩:=st
   exact ⟨_,q,fun v z=>by cases z⟩
  ·obtain ⟨_,o,q,c,d⟩:=st
   exact ⟨o,q,fun v z=>by rw [d] at z; cases z⟩
 keep:=fun i h h' st kp=>⟨by obtain ⟨old,q⟩:=st.1; exact ⟨old,kp e (by simp) _ q⟩,st.2.at fun o q=>kp it (by simp) o q⟩
 item:=by
  intro X hP hw hK hc i pins s σ H E I hf st hg
  subst hP hw hK
  obtain ⟨xs,x,hq,hx⟩:=hg
  obtain ⟨⟨old,he⟩,hit⟩:=st
  obtain ⟨its,rv,p,hz⟩:=I.list (SqL.of hq)
  obtain ⟨u,hu,ru⟩:=rv.get hx
  obtain ⟨f0,f1,f2,f3,f4,f5⟩:=hf e (by simp)
  obtain ⟨g0,g1,g2,g3,g4,g5⟩:=hf it (by simp)
  refine wpAny_pyNext_enum_item he hit p.isList (x:=u) (by simpa using hu) hne fun h' eo it' ht hsz hk=>?_
  refine ⟨.ref s.heap.objs.size,rfl,?_⟩
  refine wpAny_letOwnedTupleGo_enum eo fun h2 he2 hs2=>?_
  have fr:H s.heap.objs.size=none:=I.hok.fresh (Nat.le_refl _)
  have ne2:∀ b,b<s.heap.objs.size→b≠s.heap.objs.size:=fun b hb=>Nat.ne_of_lt hb
  have ee:e<s.heap.objs.size:=Heap.lt_size he
  have k2:∀ b o,b≠e→b≠it→s.heap.get? b=some o→h2.get? b=some o:=fun b o h1 h2' q=>(hs2.2 b h1).trans (hk b o h1 h2' q)
  have ht2:h2.get? s.heap.objs.size=some { cls:=.type "tuple",data:=.seq #[.int i s.toks,u] }:=(hs2.2 _ (Nat.ne_of_gt ee)).trans ht
  have trk:∀ b v,H b=some v→b≠e∧b≠it:=fun b v q=>⟨am q f0,am q g0⟩
  have hok0:HOk X.prog X.w H h2:=fun b o q=>(I.hok b o q).stay (fun c v hc q'=>by
   rcases hc with rfl | hc
   ·exact k2 c v (trk c _ q).1 (trk c _ q).2 q'
   ·exact k2 c v (trk c _ hc).1 (trk c _ hc).2 q') (fun _ z=>z) (fun _ _ z=>z) fun _ _ _ z=>z
  have I1:Inv X pins σ (upd H s.heap.objs.size (.tup [.int i,x])) { s with heap:=h2,toks:=s.toks + 1 }:=by
   refine I.step (g':=s.gens) (d':=s.drawn) (ch:=[e,it]) (fun b hb=>?_) (fun b o _ _ hc q _=>k2 b o (fun z=>hc (by simp [z])) (fun z=>hc (by simp [z])) q) (fun b o _ _ hc q _=>⟨o.slots,k2 b o (fun z=>hc (by simp [z])) (fun z=>hc (by simp [z])) q⟩)
    (fun b o _ q n=>by rw [ag (ne2 b (Heap.lt_size q))]; exact n) (fun b o hc q=>⟨o,k2 b o (fun z=>hc (by simp [z])) (fun z=>hc (by simp [z])) q⟩) (fun b ys q=>by rw [ag (am q fr)]; exact q) (fun b o v q=>by rw [ag (am q fr)]; exact q)
    (fun b ps _ q=>⟨#[],by rw [ag (am q fr),q]; simp⟩) (fun m hm=>?_) ?_ I.bare
   ·rw [List.mem_cons,List.mem_singleton] at hb
    rcases hb with rfl | rfl
    ·exact ⟨f3,f1,f4,f5⟩
    ·exact ⟨g3,g1,g4,g5⟩
   ·obtain ⟨o,es',ep,ho,r⟩:=hm
    exact ⟨o,es',ep,k2 _ o (Ne.symm f1) (Ne.symm g1) ho,r⟩
   ·exact hok0.adopt fr ⟨by show 2≤sizeLine; decide,[.int i s.toks,u],.cons ⟨_,rfl⟩ (.cons ru .nil),⟨_,ht2,rfl,_,rfl⟩⟩
  refine ⟨.ref s.heap.objs.size,_,I1,rfl,⟨_,x,fr,rfl,rfl,fun ys hy=>by rw [hq] at hy; cases hy; exact hx⟩,⟨⟨_,by simpa using he2⟩,it'.extBut hs2.extBut (Ne.symm hne)⟩,fun b hb=>?_⟩
  have:H b=none:=(hf b hb).1
  have hb':b<s.heap.objs.size:=by
   rw [List.mem_cons,List.mem_singleton] at hb
   rcases hb with rfl | rfl
   ·exact ee
   ·obtain ⟨o,q,_⟩:=hit; exact Heap.lt_size q
  rw [ag (ne2 b hb')]
  exact this
 done:=by
  intro X hP hw hK hc i pins s σ H E I hf st hg
  subst hP hw hK
  obtain ⟨xs,hq,hx⟩:=hg
  obtain ⟨⟨old,he⟩,hit⟩:=st
  obtain ⟨its,rv,p,hz⟩:=I.list (SqL.of hq)
  obtain ⟨g0,g1,g2,g3,g4,g5⟩:=hf it (by simp)
  have hl:=rv.length
  exact wpAny_pyNext_enum_end (I.ok.hd hc) he hit p.isList (by simp; omega) fun h' eb=>⟨rfl,I.turned (t':=s.toks) (fun b o hb e=>eb b o hb e) g0 g1 g3 g4 g5⟩
 self:=fun _ _ _ _ _ st h=>by
  obtain ⟨⟨old,he⟩,_⟩:=st
  exact wpAny_pyIter_enum he h
section
variable {X:Cx} {es:List Expr} {k:Nat} {tpos:Pos}
def iEnum (ta:TA):TI:=fun σ H R=>ta σ H fun vs H1=>∃ a,vs=[.ref a]∧(∃ xs,H1 a=some (.lst xs))∧R (Ite a) H1
theorem qr {l:Expr} {ta:TA} {p pos:Pos} (hg:Gl X "enumerate") (hm:X.mg "enumerate" = none) (ha:PA X [l] ta) (hs:starEach [l] X.env=[(false,eval l X.env)]:=by rfl):PI X (.Tuple es k tpos) (.Call (.Name "enumerate" p) [l] [] pos) (iEnum ta):=by
 refine ⟨fun pins s σ H R I h=>?_⟩
 refine wpAny_Call_Name_kw (fg I hg hm jF ?_)
 refine PyProof.Rows.callWith_type1 (thn (ha pos pins s σ H _ I h) fun us s1 ⟨vs,H1,I1,r1,a,e,⟨xs,hx⟩,q⟩=>?_) hs rfl
 subst e
 obtain ⟨u,rfl,ru⟩:=gH r1
 cases ru
 obtain ⟨_,its,n,rv,ho⟩:=(show bE X.prog X.w H1 s1.heap a (.lst xs) from I1.hok a _ hx)
 refine call_enumerate_1 ho fun h' he hit hsz hk=>?_
 have I2:Inv X pins σ H1 { s1 with heap:=h' }:=I1.kept (t':=s1.toks) hk
 refine wpAny_pyIter_enum he ⟨s1.heap.objs.size + 1,[s1.heap.objs.size + 1,s1.heap.objs.size],_,Ite a,H1,rfl,I2,mG a (s1.heap.objs.size + 1) s1.heap.objs.size (Nat.succ_ne_self _),⟨⟨_,he⟩,hit⟩,fun b hb=>?_,q⟩
 have hb':s1.heap.objs.size≤b:=by
  rw [List.mem_cons,List.mem_singleton] at hb
  rcases hb with rfl | rfl <;> omega
 have z:=I1.fpOk (H':=H1) hb' (I1.hok.fresh hb')
 exact z
end
mutual
def toP:D→PyData
 | .non=>.none
 | .bl b=>.bool b
 | .int i=>.int i
 | .str x=>.str x
 | .tup ds=>.tuple (toPs ds)
 | .lst ds=>.list (toPs ds)
 | .dct=>.dict []
 | .dic _ _=>.dict []
 | .obj _ _ _=>.dict []
 | .scr _ _=>.dict []
 | .ext _=>.dict []
def toPs:List D→List PyData
 | []=>[]
 | d :: ds=>toP d :: toPs ds
end
mutual
theorem c_ {X:Cx} {pins:List (Addr×Obj)} {σ:St} {H:Hp} {s:Shared} (I:Inv X pins σ H s):∀ (d:D) (v:V) (u:Value),Rep H d v→aU v u→(toP d).canLay0=true→∃ as,Reads s.heap u (toP d) as
 | .non,v,u,h,r,_=>by rw [Rep] at h; subst h; cases r; rw [toP]; exact ⟨_,.none⟩
 | .bl b,v,u,h,r,_=>by rw [Rep] at h; subst h; cases r; rw [toP]; exact ⟨_,.bool b⟩
 | .int i,v,u,h,r,_=>by rw [Rep] at h; subst h; obtain ⟨t,rfl⟩:=r; rw [toP]; exact ⟨_,.int i t⟩
 | .str x,v,u,h,r,_=>by rw [Rep] at h; subst h; obtain ⟨t,rfl⟩:=r; rw [toP]; exact ⟨_,.str x t⟩
 | .tup ds,v,u,h,r,c=>by
  rw [Rep] at h
  obtain ⟨a,xs,rfl,ha,hx⟩:=h
  cases r
  rw [toP] at c ⊢
  obtain ⟨_,its,rv,o,e1,e2,n,e3⟩:=(show bE X.prog X.w H s.heap a (.tup xs) from I.hok a _ ha)
  obtain ⟨as,q⟩:=reps_reads I ds xs its hx rv (by rw [PyData.canLay0] at c; exact c)
  exact ⟨_,reads_tuple_at e1 e2 e3 (by simpa using q)⟩
 | .lst ds,v,u,h,r,c=>by
  rw [Rep] at h
  obtain ⟨a,xs,rfl,ha,hx⟩:=h
  cases r
  rw [toP] at c ⊢
  obtain ⟨_,its,n,rv,e1⟩:=(show bE X.prog X.w H s.heap a (.lst xs) from I.hok a _ ha)
  obtain ⟨as,q⟩:=reps_reads I ds xs its hx rv (by rw [PyData.canLay0] at c; exact c)
  exact ⟨_,reads_list_at e1 rfl rfl (by simpa using q)⟩
 | .dct,v,u,h,r,c=>by rw [toP,PyData.canLay0] at c; cases c
 | .dic _ _,v,u,h,r,c=>by rw [toP,PyData.canLay0] at c; cases c
 | .obj _ _ _,v,u,h,r,c=>by rw [toP,PyData.canLay0] at c; cases c
 | .scr _ _,v,u,h,r,c=>by rw [toP,PyData.canLay0] at c; cases c
 | .ext _,v,u,h,r,c=>by rw [toP,PyData.canLay0] at c; cases c
theorem reps_reads {X:Cx} {pins:List (Addr×Obj)} {σ:St} {H:Hp} {s:Shared} (I:Inv X pins σ H s):∀ (ds:List D) (vs:List V) (us:List Value),Reps H ds vs→aI vs us→PyData.canLayAll0 (toPs ds)=true→∃ as,ReadsAll s.heap us (toPs ds) as
 | [],vs,us,h,r,_=>by rw [Reps] at h; subst h; cases r; rw [toPs]; exact ⟨_,.nil⟩
 | d :: ds,vs,us,h,r,c=>by
  rw [Reps] at h
  obtain ⟨v,vs',rfl,h1,h2⟩:=h
  rw [toPs] at c ⊢
  rw [PyData.canLayAll0,Bool.and_eq_true] at c
  cases r with
  | cons r1 r2 =>
   obtain ⟨as,q1⟩:=c_ I d v _ h1 r1 c.1
   obtain ⟨bs,q2⟩:=reps_reads I ds vs' _ h2 r2 c.2
   exact ⟨_,.cons q1 q2⟩
end
section
variable {X:Cx}
def rEqD:R2:=fun x y H Q=>∃ d e,Rep H d x∧Rep H e y∧SeqAt.shaped (toP d)=true∧SeqAt.shaped (toP e)=true∧Q (.bl (PyData.eqv (toP d) (toP e))) H
def rNeD:R2:=fun x y H Q=>∃ d e,Rep H d x∧Rep H e y∧SeqAt.shaped (toP d)=true∧SeqAt.shaped (toP e)=true∧Q (.bl (!PyData.eqv (toP d) (toP e))) H
theorem cC (hu:X.A.units + 64<cLine):OpR X (compareOp .Eq) rEqD:=by
 intro pins s σ H x y v u Q I rx ry h
 obtain ⟨d,e,h1,h2,c1,c2,q⟩:=h
 obtain ⟨as,r1⟩:=c_ I d x v h1 rx (SeqAt.canLay_of_shaped c1)
 obtain ⟨bs,r2⟩:=c_ I e y u h2 ry (SeqAt.canLay_of_shaped c2)
 exact eq_dataH r1 r2 c1 c2 hu ⟨.bl _,H,I,rfl,q⟩
theorem cE (hu:X.A.units + 64<cLine):OpR X (compareOp .NotEq) rNeD:=by
 intro pins s σ H x y v u Q I rx ry h
 obtain ⟨d,e,h1,h2,c1,c2,q⟩:=h
 obtain ⟨as,r1⟩:=c_ I d x v h1 rx (SeqAt.canLay_of_shaped c1)
 obtain ⟨bs,r2⟩:=c_ I e y u h2 ry (SeqAt.canLay_of_shaped c2)
 exact ne_dataH r1 r2 c1 c2 hu ⟨.bl _,H,I,rfl,q⟩
end
def ai (ns:List Int):D:=.lst (ns.map .int)
theorem gy (ns:List Int):toPs (ns.map .int)=ns.map .int:=by
 induction ns with
 | nil=>rw [List.map_nil,toPs]; rfl
 | cons n r ih=>rw [List.map_cons,toPs,ih,toP]; rfl
theorem nX (ns:List Int):PyData.canLayAll0 (ns.map .int)=true∧PyData.depthAll (ns.map .int)≤1:=by
 induction ns with
 | nil=>simp [PyData.canLayAll0,PyData.depthAll]
 | cons n r ih=>simp only [List.map_cons,PyData.canLayAll0,PyData.canLay0,PyData.depthAll,PyData.depth,ih.1,Bool.and_self,true_and]; have:=ih.2; omega
theorem pz (ns ms:List Int):PyData.eqvAll (ns.map .int) (ms.map .int)=decide (ns=ms):=by
 induction ns generalizing ms with
 | nil=>cases ms <;> simp [PyData.eqvAll]
 | cons n r ih =>
  cases ms with
  | nil=>simp [PyData.eqvAll]
  | cons m q =>
   rw [List.map_cons,List.map_cons,PyData.eqvAll,PyData.eqv,ih]
   by_cases h:n=m
   ·subst h; simp
   ·simp [h]
theorem kx (ns:List Int):SeqAt.shaped (toP (ai ns))=true:=by
 have h:=nX ns
 unfold SeqAt.shaped ai
 rw [toP,gy,PyData.canLay0,PyData.depth,h.1,Bool.true_and]
 exact decide_eq_true (by have:=h.2; omega)
theorem oU (ns ms:List Int):PyData.eqv (toP (ai ns)) (toP (ai ms))=decide (ns=ms):=by
 unfold ai
 rw [toP,toP,gy,gy,PyData.eqv,pz]
theorem iZ {H:Hp}:∀ ns:List Int,Reps H (ns.map .int) (ns.map V.int)
 | []=>bK
 | n :: r=>bn (bi n) (iZ r)
def aR (ns ms:List Int):D:=.tup [ai ns,ai ms]
section
variable {X:Cx}
end
abbrev DSt:=List (Option D)
abbrev Own:=Addr→Option (Nat×List Nat)
mutual
def Sep (G H:Hp) (O:Own) (i:Nat):D→List Nat→V→Prop
 | .non,_,v=>v = .non
 | .bl b,_,v=>v = .bl b
 | .int n,_,v=>v = .int n
 | .str x,_,v=>v = .str x
 | .tup ds,π,v=>∃ a xs,v = .ref a∧G a=some (.tup xs)∧Seps G H O i ds 0 π xs
 | .lst ds,π,v=>∃ a xs,v = .ref a∧O a=some (i,π)∧H a=some (.lst xs)∧Seps G H O i ds 0 π xs
 | .dct,_,_=>False
 | .dic ks ds,π,v=>∃ a xs,v = .ref a∧O a=some (i,π)∧H a=some (.dK (ks.zip xs))∧ks.length=ds.length∧Seps G H O i ds 0 π xs
 | .obj C ks ds,π,v=>∃ a dx xs,v = .ref a∧O a=some (i,π)∧H a=some (.ins C dx (ks.zip xs))∧ks.length=ds.length∧Seps G H O i ds 0 π xs
 | .scr _ _,_,_=>False
 | .ext _,_,_=>False
def Seps (G H:Hp) (O:Own) (i:Nat):List D→Nat→List Nat→List V→Prop
 | [],_,_,xs=>xs=[]
 | d :: ds,k,π,xs=>∃ v vs,xs=v :: vs∧Sep G H O i d (k :: π) v∧Seps G H O i ds (k + 1) π vs
end
def bF (G G':Hp):Prop:=∀ a xs,G a=some (.tup xs)→G' a=some (.tup xs)
theorem az.ts {G G':Hp} (h:az G G'):bF G G':=fun a xs e=>h a _ e
mutual
theorem Sep.map {G H G' H':Hp} {O O':Own} {i i':Nat} {f:List Nat→List Nat} (hG:bF G G') (hf:∀ k π,f (k :: π)=k :: f π) :
 ∀ (d:D) (π:List Nat) (v:V),(∀ a τ,O a=some (i,τ++π)→O' a=some (i',f (τ++π))∧H' a=H a)→Sep G H O i d π v→Sep G' H' O' i' d (f π) v
 | .non,_,_,_,h=>by rw [Sep] at *; exact h
 | .bl b,_,_,_,h=>by rw [Sep] at *; exact h
 | .int n,_,_,_,h=>by rw [Sep] at *; exact h
 | .str x,_,_,_,h=>by rw [Sep] at *; exact h
 | .tup ds,π,v,hO,h=>by
  rw [Sep] at *
  obtain ⟨a,xs,h1,h2,h3⟩:=h
  exact ⟨a,xs,h1,hG _ _ h2,Seps.map hG hf ds 0 π xs (fun a τ _=>hO a τ) h3⟩
 | .lst ds,π,v,hO,h=>by
  rw [Sep] at *
  obtain ⟨a,xs,h1,h2,h3,h4⟩:=h
  have q:=hO a [] h2
  exact ⟨a,xs,h1,q.1,q.2.trans h3,Seps.map hG hf ds 0 π xs (fun a τ _=>hO a τ) h4⟩
 | .dic ks ds,π,v,hO,h=>by
  rw [Sep] at *
  obtain ⟨a,xs,h1,h2,h3,h5,h4⟩:=h
  have q:=hO a [] h2
  exact ⟨a,xs,h1,q.1,q.2.trans h3,h5,Seps.map hG hf ds 0 π xs (fun a τ _=>hO a τ) h4⟩
 | .obj C ks ds,π,v,hO,h=>by
  rw [Sep] at *
  obtain ⟨a,dx,xs,h1,h2,h3,h5,h4⟩:=h
  have q:=hO a [] h2
  exact ⟨a,dx,xs,h1,q.1,q.2.trans h3,h5,Seps.map hG hf ds 0 π xs (fun a τ _=>hO a τ) h4⟩
 | .dct,_,_,_,h=>by rw [Sep] at h; exact h.elim
 | .scr _ _,_,_,_,h=>by rw [Sep] at h; exact h.elim
 | .ext _,_,_,_,h=>by rw [Sep] at h; exact h.elim
theorem Seps.map {G H G' H':Hp} {O O':Own} {i i':Nat} {f:List Nat→List Nat} (hG:bF G G') (hf:∀ k π,f (k :: π)=k :: f π) :
 ∀ (ds:List D) (k:Nat) (π:List Nat) (xs:List V),(∀ a τ,τ≠[]→O a=some (i,τ++π)→O' a=some (i',f (τ++π))∧H' a=H a)→Seps G H O i ds k π xs→Seps G' H' O' i' ds k (f π) xs
 | [],_,_,_,_,h=>by rw [Seps] at *; exact h
 | d :: ds,k,π,xs,hO,h=>by
  rw [Seps] at *
  obtain ⟨v,vs,h1,h2,h3⟩:=h
  refine ⟨v,vs,h1,?_,Seps.map hG hf ds (k + 1) π vs hO h3⟩
  rw [← hf]
  refine Sep.map hG hf d (k :: π) v (fun a τ e=>?_) h2
  have e' : τ++k :: π=(τ++[k])++π:=by simp
  rw [e'] at e ⊢
  exact hO a (τ++[k]) (by simp) e
end
theorem Sep.keep {G H G' H':Hp} {O O':Own} {i i':Nat} {d:D} {π:List Nat} {v:V} (hG:bF G G') (hO:∀ a τ,O a=some (i,τ++π)→O' a=some (i',τ++π)∧H' a=H a) (h:Sep G H O i d π v):Sep G' H' O' i' d π v :=
 Sep.map (f:=id) hG (fun _ _=>rfl) d π v hO h
theorem Seps.keep {G H G' H':Hp} {O O':Own} {i i':Nat} {ds:List D} {k:Nat} {π:List Nat} {xs:List V} (hG:bF G G') (hO:∀ a τ,τ≠[]→O a=some (i,τ++π)→O' a=some (i',τ++π)∧H' a=H a) (h:Seps G H O i ds k π xs):Seps G' H' O' i' ds k π xs :=
 Seps.map (f:=id) hG (fun _ _=>rfl) ds k π xs hO h
mutual
theorem Sep.rep {G H G':Hp} {O:Own} {i:Nat} (hG:bF G G'):∀ (d:D) (π:List Nat) (v:V),(∀ a τ (o:HO),O a=some (i,τ++π)→H a=some o→G' a=some o)→Sep G H O i d π v→Rep G' d v
 | .non,_,_,_,h=>by rw [Sep] at h; rw [Rep]; exact h
 | .bl b,_,_,_,h=>by rw [Sep] at h; rw [Rep]; exact h
 | .int n,_,_,_,h=>by rw [Sep] at h; rw [Rep]; exact h
 | .str x,_,_,_,h=>by rw [Sep] at h; rw [Rep]; exact h
 | .tup ds,π,v,hO,h=>by
  rw [Sep] at h; rw [Rep]
  obtain ⟨a,xs,h1,h2,h3⟩:=h
  exact ⟨a,xs,h1,hG _ _ h2,Seps.rep hG ds 0 π xs (fun a τ ys _=>hO a τ ys) h3⟩
 | .lst ds,π,v,hO,h=>by
  rw [Sep] at h; rw [Rep]
  obtain ⟨a,xs,h1,h2,h3,h4⟩:=h
  exact ⟨a,xs,h1,hO a [] _ h2 h3,Seps.rep hG ds 0 π xs (fun a τ ys _=>hO a τ ys) h4⟩
 | .dic ks ds,π,v,hO,h=>by
  rw [Sep] at h; rw [Rep]
  obtain ⟨a,xs,h1,h2,h3,h5,h4⟩:=h
  exact ⟨a,xs,h1,hO a [] _ h2 h3,h5,Seps.rep hG ds 0 π xs (fun a τ ys _=>hO a τ ys) h4⟩
 | .obj C ks ds,π,v,hO,h=>by
  rw [Sep] at h; rw [Rep]
  obtain ⟨a,dx,xs,h1,h2,h3,h5,h4⟩:=h
  exact ⟨a,dx,xs,h1,hO a [] _ h2 h3,h5,Seps.rep hG ds 0 π xs (fun a τ ys _=>hO a τ ys) h4⟩
 | .dct,_,_,_,h=>by rw [Sep] at h; exact h.elim
 | .scr _ _,_,_,_,h=>by rw [Sep] at h; exact h.elim
 | .ext _,_,_,_,h=>by rw [Sep] at h; exact h.elim
theorem Seps.rep {G H G':Hp} {O:Own} {i:Nat} (hG:bF G G'):∀ (ds:List D) (k:Nat) (π:List Nat) (xs:List V),(∀ a τ (o:HO),τ≠[]→O a=some (i,τ++π)→H a=some o→G' a=some o)→Seps G H O i ds k π xs→Reps G' ds xs
 | [],_,_,_,_,h=>by rw [Seps] at h; rw [Reps]; exact h
 | d :: ds,k,π,xs,hO,h=>by
  rw [Seps] at h; rw [Reps]
  obtain ⟨v,vs,h1,h2,h3⟩:=h
  refine ⟨v,vs,h1,Sep.rep hG d (k :: π) v (fun a τ ys e q=>?_) h2,Seps.rep hG ds (k + 1) π vs hO h3⟩
  have e' : τ++k :: π=(τ++[k])++π:=by simp
  rw [e'] at e
  exact hO a (τ++[k]) ys (by simp) e q
end
mutual
def imm:D→Bool
 | .tup ds=>imms ds
 | .lst _=>false
 | .dct=>false
 | .dic _ _=>false
 | .obj _ _ _=>false
 | .scr _ _=>false
 | .ext _=>false
 | _=>true
def imms:List D→Bool
 | []=>true
 | d :: ds=>imm d&&imms ds
end
mutual
theorem Rep.sep {G H:Hp} {O:Own} {i:Nat}:∀ (d:D) (π:List Nat) (v:V),imm d=true→Rep G d v→Sep G H O i d π v
 | .non,_,_,_,h=>by rw [Rep] at h; rw [Sep]; exact h
 | .bl b,_,_,_,h=>by rw [Rep] at h; rw [Sep]; exact h
 | .int n,_,_,_,h=>by rw [Rep] at h; rw [Sep]; exact h
 | .str x,_,_,_,h=>by rw [Rep] at h; rw [Sep]; exact h
 | .tup ds,π,v,hi,h=>by
  rw [Rep] at h; rw [Sep]
  obtain ⟨a,xs,h1,h2,h3⟩:=h
  exact ⟨a,xs,h1,h2,Reps.sep ds 0 π xs (by rw [imm] at hi; exact hi) h3⟩
 | .lst ds,_,_,hi,_=>by rw [imm] at hi; cases hi
 | .dct,_,_,hi,_=>by rw [imm] at hi; cases hi
 | .dic _ _,_,_,hi,_=>by rw [imm] at hi; cases hi
 | .obj _ _ _,_,_,hi,_=>by rw [imm] at hi; cases hi
 | .scr _ _,_,_,hi,_=>by rw [imm] at hi; cases hi
 | .ext _,_,_,hi,_=>by rw [imm] at hi; cases hi
theorem Reps.sep {G H:Hp} {O:Own} {i:Nat}:∀ (ds:List D) (k:Nat) (π:List Nat) (xs:List V),imms ds=true→Reps G ds xs→Seps G H O i ds k π xs
 | [],_,_,_,_,h=>by rw [Reps] at h; rw [Seps]; exact h
 | d :: ds,k,π,xs,hi,h=>by
  rw [Reps] at h; rw [Seps]
  rw [imms,Bool.and_eq_true] at hi
  obtain ⟨v,vs,h1,h2,h3⟩:=h
  exact ⟨v,vs,h1,Rep.sep d (k :: π) v hi.1 h2,Reps.sep ds (k + 1) π vs hi.2 h3⟩
end
mutual
theorem Rep.imms {G G':Hp} (hG:bF G G'):∀ (d:D) (v:V),L2.imm d=true→Rep G d v→Rep G' d v
 | .non,_,_,h=>by rw [Rep] at *; exact h
 | .bl b,_,_,h=>by rw [Rep] at *; exact h
 | .int n,_,_,h=>by rw [Rep] at *; exact h
 | .str x,_,_,h=>by rw [Rep] at *; exact h
 | .tup ds,v,hi,h=>by
  rw [Rep] at *
  obtain ⟨a,xs,h1,h2,h3⟩:=h
  exact ⟨a,xs,h1,hG _ _ h2,Reps.imms hG ds xs (by rw [L2.imm] at hi; exact hi) h3⟩
 | .lst ds,_,hi,_=>by rw [L2.imm] at hi; cases hi
 | .dct,_,hi,_=>by rw [L2.imm] at hi; cases hi
 | .dic _ _,_,hi,_=>by rw [L2.imm] at hi; cases hi
 | .obj _ _ _,_,hi,_=>by rw [L2.imm] at hi; cases hi
 | .scr _ _,_,hi,_=>by rw [L2.imm] at hi; cases hi
 | .ext _,_,hi,_=>by rw [L2.imm] at hi; cases hi
theorem Reps.imms {G G':Hp} (hG:bF G G'):∀ (ds:List D) (xs:List V),L2.imms ds=true→Reps G ds xs→Reps G' ds xs
 | [],_,_,h=>by rw [Reps] at *; exact h
 | d :: ds,xs,hi,h=>by
  rw [Reps] at *
  rw [L2.imms,Bool.and_eq_true] at hi
  obtain ⟨v,vs,h1,h2,h3⟩:=h
  exact ⟨v,vs,h1,Rep.imms hG d v hi.1 h2,Reps.imms hG ds vs hi.2 h3⟩
end
theorem Seps.length {G H:Hp} {O:Own} {i:Nat}:∀ {ds:List D} {k:Nat} {π:List Nat} {xs:List V},Seps G H O i ds k π xs→xs.length=ds.length
 | [],_,_,_,h=>by rw [Seps] at h; subst h; rfl
 | d :: ds,k,π,xs,h=>by
  rw [Seps] at h
  obtain ⟨v,vs,rfl,_,h3⟩:=h
  simp [Seps.length h3]
inductive WrO where
 | inl (xs:List V) | inr (kvs:List (Key×V)) | ins (C dx:Addr) (fs:List (Str×V))
def WrO.ho:WrO→HO
 | .inl xs=>.lst xs
 | .inr kvs=>.dK kvs
 | .ins C dx fs=>.ins C dx fs
theorem WrO.ne {m:WrO} {xs:List V} (h:m.ho = .tup xs):False:=by cases m <;> cases h
structure Ctx where
 G:Hp
 H:Hp
 O:Own
 mu:List (Option V)
 np:Nat
def bg (G H:Hp) (O:Own):List (D×V)→Prop
 | []=>True
 | (d,v) :: r=>Sep G H O (2 * r.length + 1) d [] v∧bg G H O r
def Nw (C:Ctx) (a:Addr) (l:Nat):Prop:=C.H a=none∨∃ π,C.O a=some (l,π)
def NT (o:HO):Prop:=∀ ps q,o≠.tbl ps q
theorem WrO.nt (x:WrO):NT x.ho:=by cases x <;> (intro _ _ z; cases z)
structure RO (C:Ctx) (ow:List Bool) (G:Hp) (ρ:DSt) (σ:St) (H:Hp) (pd:List (D×V)) (O:Own):Prop where
 len : ρ.length=σ.length
 gh:az G H
 g0:az C.G G
 gn:∀ a o,G a=some o→C.G a=some o∨C.H a=none
 og:∀ a l,O a=some l→G a=none∧(∃ xs:WrO,H a=some xs.ho)∧Nw C a l.1
 cok:∀ a l π,C.O a=some (l,π)→(∃ (i:Nat) (v:V),l=2 * i∧C.mu[i]? = some (some v))∨∃ j,l=2 * j + 1∧j<C.np
 fr:∀ a o,C.H a=some o→C.O a=none→NT o→H a=some o
 ft:∀ a ps q,H a=some (.tbl ps q)→G a=none
 al:∀ a,H a=none→C.H a=none
 mp:∀ (i:Nat) v,C.mu[i]? = some (some v)→σ[i]? = some (some v)
 sl:∀ (i:Nat) d,ρ[i]? = some (some d)→∃ v,σ[i]? = some (some v)∧if ow[i]? = some true then Sep G H O (2 * i) d [] v else Rep G d v
 pn:bg G H O pd
 np:C.np≤pd.length
def R (C:Ctx) (ow:List Bool) (G:Hp) (ρ:DSt) (σ:St) (H:Hp) (pd:List (D×V)):Prop:=∃ O,RO C ow G ρ σ H pd O
theorem bg.keep {G H G' H':Hp} {O O':Own} (hG:bF G G'):∀ {pd:List (D×V)},(∀ a j π,j<pd.length→O a=some (2 * j + 1,π)→O' a=some (2 * j + 1,π)∧H' a=H a)→bg G H O pd→bg G' H' O' pd
 | [],_,_=>trivial
 | (d,v) :: r,hO,⟨h1,h2⟩=>⟨h1.keep hG fun a τ e=>hO a r.length _ (by simp) e,bg.keep hG (fun a j π hj=>hO a j π (by simp; omega)) h2⟩
section
variable {C:Ctx} {ow:List Bool} {G:Hp} {ρ:DSt} {σ:St} {H:Hp} {pd:List (D×V)} {O:Own}
theorem RO.new (h:RO C ow G ρ σ H pd O) {p:Addr} (hp:H p=none) (o:HO) (nt:NT o:=by intro _ _ z; cases z):RO C ow (upd G p o) ρ σ (upd H p o) pd O∧az G (upd G p o):=by
 have gp:G p=none:=by
  cases e:G p with
  | none=>rfl
  | some z=>rw [h.gh _ _ e] at hp; cases hp
 have sG:=nT gp o
 have ne:∀ a l,O a=some l→a≠p:=fun a l e z=>by
  obtain ⟨_,⟨xs,q⟩,_⟩:=h.og a l e
  rw [z,hp] at q; cases q
 refine ⟨⟨h.len,?_,fun a u e=>sG _ _ (h.g0 a u e),?_,?_,h.cok,?_,?_,?_,h.mp,?_,?_,h.np⟩,sG⟩
 ·intro a u e
  by_cases z:a=p
  ·subst z; rw [ax] at e ⊢; exact e
  ·rw [ag z] at e ⊢; exact h.gh _ _ e
 ·intro a u e
  by_cases z:a=p
  ·subst z; exact .inr (h.al _ hp)
  ·rw [ag z] at e; exact h.gn a u e
 ·intro a l e
  have z:=ne a l e
  rw [ag z,ag z]
  exact h.og a l e
 ·intro a u e n t
  rw [ag (am (h.fr a u e n t) hp)]
  exact h.fr a u e n t
 ·intro a ps q e
  by_cases z:a=p
  ·subst z; rw [ax] at e; cases e; exact absurd rfl (nt ps q)
  ·rw [ag z] at e ⊢; exact h.ft a ps q e
 ·intro a e
  by_cases z:a=p
  ·subst z; rw [ax] at e; cases e
  ·rw [ag z] at e; exact h.al a e
 ·intro i d e
  obtain ⟨v,h1,h2⟩:=h.sl i d e
  refine ⟨v,h1,?_⟩
  split at h2
  ·rename_i c; rw [if_pos c]; exact h2.keep sG.ts fun a τ q=>⟨q,ag (ne a _ q)⟩
  ·rename_i c; rw [if_neg c]; exact h2.mono sG
 ·exact bg.keep sG.ts (fun a j π _ q=>⟨q,ag (ne a _ q)⟩) h.pn
theorem RO.newL (h:RO C ow G ρ σ H pd O) {p:Addr} (hp:H p=none) {xs:List V} {ds:List D} (hi:imms ds=true) (hr:Reps G ds xs) :
 R C ow G ρ σ (upd H p (.lst xs)) ((.lst ds,.ref p) :: pd):=by
 have gp:G p=none:=by
  cases e:G p with
  | none=>rfl
  | some z=>rw [h.gh _ _ e] at hp; cases hp
 have ne:∀ a l,O a=some l→a≠p:=fun a l e z=>by
  obtain ⟨_,⟨xs,q⟩,_⟩:=h.og a l e
  rw [z,hp] at q; cases q
 let O':Own:=fun a=>if a=p then some (2 * pd.length + 1,[]) else O a
 have old:∀ a l,O a=some l→O' a=some l:=fun a l e=>by
  show (if a=p then _ else _)=_
  rw [if_neg (ne a _ e),e]
 refine ⟨O',h.len,?_,h.g0,h.gn,?_,h.cok,?_,?_,?_,h.mp,?_,⟨?_,?_⟩,Nat.le_succ_of_le h.np⟩
 ·intro a u e
  rw [ag (fun z=>by rw [z,gp] at e; cases e)]
  exact h.gh _ _ e
 ·intro a l e
  by_cases z:a=p
  ·subst z; exact ⟨gp,⟨.inl xs,ax⟩,.inl (h.al _ hp)⟩
  ·rw [ag z]
   change (if a=p then _ else _)=_ at e
   rw [if_neg z] at e
   exact h.og a _ e
 ·intro a u e n t
  rw [ag (am (h.fr a u e n t) hp)]
  exact h.fr a u e n t
 ·intro a ps q e
  by_cases z:a=p
  ·subst z; rw [ax] at e; cases e
  ·rw [ag z] at e; exact h.ft a ps q e
 ·intro a e
  by_cases z:a=p
  ·subst z; rw [ax] at e; cases e
  ·rw [ag z] at e; exact h.al a e
 ·intro i d e
  obtain ⟨v,h1,h2⟩:=h.sl i d e
  refine ⟨v,h1,?_⟩
  split at h2
  ·rename_i c; rw [if_pos c]; exact h2.keep (fun _ _ z=>z) fun a τ q=>⟨old a _ q,ag (ne a _ q)⟩
  ·rename_i c; rw [if_neg c]; exact h2
 ·rw [Sep]
  exact ⟨p,xs,rfl,by show (if p=p then _ else _)=_; rw [if_pos rfl],ax,hr.sep ds 0 [] xs hi⟩
 ·exact bg.keep (fun _ _ z=>z) (fun a j π hj q=>⟨old a _ q,ag (ne a _ q)⟩) h.pn
end
theorem Seps.snoc {G H:Hp} {O:Own} {i:Nat} {d:D} {v:V}:∀ {ds:List D} {k:Nat} {π:List Nat} {xs:List V},Seps G H O i ds k π xs→Sep G H O i d ((k + ds.length) :: π) v→Seps G H O i (ds++[d]) k π (xs++[v])
 | [],k,π,xs,h,hd=>by rw [Seps] at h; subst h; show Seps _ _ _ _ [d] _ _ [v]; rw [Seps]; exact ⟨v,[],rfl,by simpa using hd,by rw [Seps]⟩
 | e :: ds,k,π,xs,h,hd=>by
  rw [Seps] at h
  obtain ⟨u,us,rfl,h2,h3⟩:=h
  show Seps _ _ _ _ (e :: (ds++[d])) _ _ (u :: (us++[v]))
  rw [Seps]
  refine ⟨u,us++[v],rfl,h2,Seps.snoc h3 ?_⟩
  have:k + 1 + ds.length=k + (e :: ds).length:=by simp; omega
  rw [this]; exact hd
theorem Seps.set {G H:Hp} {O:Own} {i:Nat} {d:D} {v:V}:∀ {ds:List D} {k:Nat} {π:List Nat} {xs:List V} {j:Nat},Seps G H O i ds k π xs→Sep G H O i d ((k + j) :: π) v→Seps G H O i (ds.set j d) k π (xs.set j v)
 | [],k,π,xs,j,h,hd=>by rw [Seps] at h; subst h; simp; rw [Seps]
 | e :: ds,k,π,xs,0,h,hd=>by
  rw [Seps] at h
  obtain ⟨u,us,rfl,h2,h3⟩:=h
  simp only [List.set_cons_zero]; rw [Seps]
  exact ⟨v,us,rfl,by simpa using hd,h3⟩
 | e :: ds,k,π,xs,j + 1,h,hd=>by
  rw [Seps] at h
  obtain ⟨u,us,rfl,h2,h3⟩:=h
  simp only [List.set_cons_succ]; rw [Seps]
  refine ⟨u,_,rfl,h2,Seps.set h3 ?_⟩
  have:k + 1 + j=k + (j + 1):=by omega
  rw [this]; exact hd
theorem Seps.at {G H:Hp} {O:Own} {i:Nat} {d:D}:∀ {ds:List D} {k:Nat} {π:List Nat} {xs:List V} {j:Nat},Seps G H O i ds k π xs→ds[j]? = some d→∃ v,xs[j]? = some v∧Sep G H O i d ((k + j) :: π) v
 | [],k,π,xs,j,h,e=>by simp at e
 | e :: ds,k,π,xs,0,h,q=>by
  rw [Seps] at h
  obtain ⟨u,us,rfl,h2,h3⟩:=h
  simp at q; subst q
  exact ⟨u,rfl,by simpa using h2⟩
 | e :: ds,k,π,xs,j + 1,h,q=>by
  rw [Seps] at h
  obtain ⟨u,us,rfl,h2,h3⟩:=h
  obtain ⟨v,h4,h5⟩:=Seps.at (j:=j) h3 (by simpa using q)
  refine ⟨v,by simpa using h4,?_⟩
  have:k + 1 + j=k + (j + 1):=by omega
  rw [← this]; exact h5
section
variable {C:Ctx} {ow:List Bool} {G:Hp} {ρ:DSt} {σ:St} {H:Hp} {pd:List (D×V)} {O:Own}
theorem a_ {α:Type} {l:List (Option α)} {i j:Nat} {x:Option α} {d : α} (h:(l.set i x)[j]? = some (some d)):(j=i∧x=some d)∨(j≠i∧l[j]? = some (some d)):=by
 rw [List.getElem?_set] at h
 by_cases e:i=j
 ·rw [if_pos e] at h
  split at h
  ·exact .inl ⟨e.symm,Option.some.inj h⟩
  ·cases h
 ·rw [if_neg e] at h; exact .inr ⟨fun z=>e z.symm,h⟩
theorem cD {α:Type} {l:List (Option α)} {i:Nat} {x:Option α} (h:l[i]? = some x):i<l.length:=(List.getElem?_eq_some_iff.mp h).1
theorem RO.setS (h:RO C ow G ρ σ H pd O) {i:Nat} {d:D} {v:V} (hi:ow[i]?≠some true) (hm:∀ v,C.mu[i]?≠some (some v)) (r:Rep G d v):RO C ow G (ρ.set i (some d)) (σ.set i (some v)) H pd O:=by
 refine ⟨by simp [h.len],h.gh,h.g0,h.gn,h.og,h.cok,h.fr,h.ft,h.al,?_,?_,h.pn,h.np⟩
 ·intro j u e
  have:i≠j:=fun z=>hm u (z ▸ e)
  rw [List.getElem?_set_ne this]
  exact h.mp j u e
 ·intro j e q
  rcases a_ q with ⟨rfl,z⟩ | ⟨z,q'⟩
  ·cases z
   have hl:j<σ.length:=by have:=cD q; rw [List.length_set,h.len] at this; exact this
   exact ⟨v,by rw [List.getElem?_set_self hl],by rw [if_neg hi]; exact r⟩
  ·obtain ⟨u,h1,h2⟩:=h.sl j e q'
   exact ⟨u,by rw [List.getElem?_set_ne (Ne.symm z)]; exact h1,h2⟩
theorem RO.drop {d:D} {v:V} (h:RO C ow G ρ σ H ((d,v) :: pd) O) (hn:C.np≤pd.length):RO C ow G ρ σ H pd O :=
 ⟨h.len,h.gh,h.g0,h.gn,h.og,h.cok,h.fr,h.ft,h.al,h.mp,h.sl,h.pn.2,hn⟩
def lab (f:Nat→List Nat→Nat×List Nat) (O:Own):Own:=fun a=>(O a).map fun l=>f l.1 l.2
theorem bJ {f:Nat→List Nat→Nat×List Nat} {a:Addr} {l:Nat} {π:List Nat} (h:O a=some (l,π)):lab f O a=some (f l π):=by unfold lab; rw [h]; rfl
theorem hV {f:Nat→List Nat→Nat×List Nat} {a:Addr} {m:Nat×List Nat} (h:lab f O a=some m):∃ l π,O a=some (l,π)∧m=f l π:=by
 unfold lab at h
 cases e:O a with
 | none=>rw [e] at h; cases h
 | some l=>rw [e] at h; exact ⟨l.1,l.2,rfl,(Option.some.inj h).symm⟩
theorem a8 {i j:Nat} : 2 * i≠2 * j + 1:=by omega
theorem RO.setO {d:D} {v:V} (h:RO C ow G ρ σ H ((d,v) :: pd) O) {i:Nat} (hi:ow[i]? = some true) (hm:∀ v,C.mu[i]?≠some (some v)) (hn:C.np≤pd.length) :
 R C ow G (ρ.set i (some d)) (σ.set i (some v)) H pd:=by
 refine ⟨lab (fun l π=>if l=2 * pd.length + 1 then (2 * i,π) else (l,π)) O,by simp [h.len],h.gh,h.g0,h.gn,?_,h.cok,h.fr,h.ft,h.al,?_,?_,?_,hn⟩
 ·intro a m e
  obtain ⟨l,π,e1,rfl⟩:=hV e
  obtain ⟨q1,q2,q3⟩:=h.og a _ e1
  refine ⟨q1,q2,?_⟩
  try dsimp only
  split
  ·rename_i z
   rcases q3 with q3 | ⟨_,q3⟩
   ·exact .inl q3
   ·rcases h.cok _ _ _ q3 with ⟨k,_,q4,_⟩ | ⟨k,q4,q5⟩
    ·exact absurd (q4.symm.trans z) a8
    ·omega
  ·exact q3
 ·intro j u e
  have:i≠j:=fun z=>hm u (z ▸ e)
  rw [List.getElem?_set_ne this]
  exact h.mp j u e
 ·intro j e q
  rcases a_ q with ⟨rfl,z⟩ | ⟨z,q'⟩
  ·cases z
   have hl:j<σ.length:=by have:=cD q; rw [List.length_set,h.len] at this; exact this
   refine ⟨v,by rw [List.getElem?_set_self hl],?_⟩
   rw [if_pos hi]
   exact h.pn.1.keep (fun _ _ z=>z) fun a τ q=>⟨by rw [bJ q,if_pos rfl],rfl⟩
  ·obtain ⟨u,h1,h2⟩:=h.sl j e q'
   refine ⟨u,by rw [List.getElem?_set_ne (Ne.symm z)]; exact h1,?_⟩
   split at h2
   ·rename_i c; rw [if_pos c]; exact h2.keep (fun _ _ z=>z) fun a τ q=>⟨by rw [bJ q,if_neg a8],rfl⟩
   ·rename_i c; rw [if_neg c]; exact h2
 ·exact bg.keep (fun _ _ z=>z) (fun a j π hj q=>⟨by rw [bJ q,if_neg (by omega)],rfl⟩) h.pn.2
theorem RO.move (h:RO C ow G ρ σ H pd O) {i:Nat} {d:D} (e : ρ[i]? = some (some d)) (hi:ow[i]? = some true) (hm:∀ v,C.mu[i]?≠some (some v)) :
 ∃ v,σ[i]? = some (some v)∧R C ow G (ρ.set i none) σ H ((d,v) :: pd):=by
 obtain ⟨v,hv,s⟩:=h.sl i d e
 rw [if_pos hi] at s
 refine ⟨v,hv,lab (fun l π=>if l=2 * i then (2 * pd.length + 1,π) else (l,π)) O,by simp [h.len],h.gh,h.g0,h.gn,?_,h.cok,h.fr,h.ft,h.al,h.mp,?_,⟨?_,?_⟩,Nat.le_succ_of_le h.np⟩
 ·intro a m e
  obtain ⟨l,π,e1,rfl⟩:=hV e
  obtain ⟨q1,q2,q3⟩:=h.og a _ e1
  refine ⟨q1,q2,?_⟩
  try dsimp only
  split
  ·rename_i z
   rcases q3 with q3 | ⟨_,q3⟩
   ·exact .inl q3
   ·rcases h.cok _ _ _ q3 with ⟨k,u,q4,q5⟩ | ⟨k,q4,_⟩
    ·have:k=i:=by have:=q4.symm.trans z; omega
     exact absurd (this ▸ q5) (hm u)
    ·omega
  ·exact q3
 ·intro j e q
  rcases a_ q with ⟨rfl,z⟩ | ⟨z,q'⟩
  ·cases z
  ·obtain ⟨u,h1,h2⟩:=h.sl j e q'
   refine ⟨u,h1,?_⟩
   split at h2
   ·rename_i c; rw [if_pos c]; exact h2.keep (fun _ _ z=>z) fun a τ q=>⟨by rw [bJ q,if_neg (by omega)],rfl⟩
   ·rename_i c; rw [if_neg c]; exact h2
 ·exact s.keep (fun _ _ z=>z) fun a τ q=>⟨by rw [bJ q,if_pos rfl],rfl⟩
 ·exact bg.keep (fun _ _ z=>z) (fun a j π hj q=>⟨by rw [bJ q,if_neg (fun z=>a8 z.symm)],rfl⟩) h.pn
def hasL (O:Own) (l:Nat) (a:Addr):Bool:=match O a with
 | some m=>m.1 == l
 | none=>false
theorem eh {l:Nat} {a:Addr}:hasL O l a=true↔∃ π,O a=some (l,π):=by
 unfold hasL
 cases e:O a with
 | none=>simp
 | some m=>obtain ⟨m1,m2⟩:=m; simp
theorem RO.share {d:D} {v:V} (h:RO C ow G ρ σ H ((d,v) :: pd) O) (hn:C.np≤pd.length):∃ G',az G G'∧R C ow G' ρ σ H pd∧Rep G' d v:=by
 let l₀:=2 * pd.length + 1
 let G':Hp:=fun a=>if hasL O l₀ a=true then H a else G a
 have sG:az G G':=fun a o e=>by
  show (if _ then _ else _)=_
  split
  ·exact h.gh _ _ e
  ·exact e
 have inH:∀ a τ (o:HO),O a=some (l₀,τ)→H a=some o→G' a=some o:=fun a τ xs q e=>by
  show (if _ then _ else _)=_
  rw [if_pos (eh.mpr ⟨_,q⟩)]; exact e
 refine ⟨G',sG,⟨fun a=>if hasL O l₀ a=true then none else O a,h.len,?_,fun a o e=>sG _ _ (h.g0 _ _ e),?_,?_,h.cok,h.fr,(fun a ps q e=>by
  show (if _ then _ else _)=_
  split
  ·rename_i c
   obtain ⟨τ,c⟩:=eh.mp c
   obtain ⟨_,⟨xs,z⟩,_⟩:=h.og a _ c
   rw [z] at e; exact absurd (Option.some.inj e) (WrO.nt xs _ _)
  ·exact h.ft a ps q e),h.al,h.mp,?_,?_,hn⟩,h.pn.1.rep sG.ts d [] v (fun a τ xs q e=>inH a _ xs q e)⟩
 ·intro a o e
  change (if _ then _ else _)=_ at e
  split at e
  ·exact e
  ·exact h.gh _ _ e
 ·intro a o e
  change (if _ then _ else _)=_ at e
  split at e
  ·rename_i c
   obtain ⟨π,q⟩:=eh.mp c
   obtain ⟨_,_,q3⟩:=h.og a _ q
   rcases q3 with q3 | ⟨_,q3⟩
   ·exact .inr q3
   ·rcases h.cok _ _ _ q3 with ⟨k,_,q4,_⟩ | ⟨k,q4,q5⟩
    ·exact absurd q4.symm a8
    ·have q4' : 2 * pd.length + 1=2 * k + 1:=q4
     omega
  ·exact h.gn a o e
 ·intro a l e
  try dsimp only at e
  split at e
  ·cases e
  ·rename_i c
   obtain ⟨q1,q2,q3⟩:=h.og a l e
   exact ⟨by show (if _ then _ else _)=_; rw [if_neg c]; exact q1,q2,q3⟩
 ·intro j e q
  obtain ⟨u,h1,h2⟩:=h.sl j e q
  refine ⟨u,h1,?_⟩
  split at h2
  ·rename_i c; rw [if_pos c]
   refine h2.keep sG.ts fun a τ q=>⟨?_,rfl⟩
   rw [if_neg,q]
   intro z
   obtain ⟨π,z⟩:=eh.mp z
   rw [q] at z
   have:=(Prod.mk.inj (Option.some.inj z)).1
   omega
  ·rename_i c; rw [if_neg c]; exact h2.mono sG
 ·refine bg.keep sG.ts (fun a j π hj q=>⟨?_,rfl⟩) h.pn.2
  rw [if_neg,q]
  intro z
  obtain ⟨π,z⟩:=eh.mp z
  rw [q] at z
  have:=(Prod.mk.inj (Option.some.inj z)).1
  omega
theorem RO.write (h:RO C ow G ρ σ H pd O) {i:Nat} {ds:List D} (e : ρ[i]? = some (some (.lst ds))) (hi:ow[i]? = some true) :
 ∃ a xs,σ[i]? = some (some (.ref a))∧H a=some (.lst xs)∧Seps G H O (2 * i) ds 0 [] xs ∧
  ∀ ds' xs',Seps G H O (2 * i) ds' 0 [] xs'→RO C ow G (ρ.set i (some (.lst ds'))) σ (upd H a (.lst xs')) pd O:=by
 obtain ⟨v,hv,s⟩:=h.sl i _ e
 rw [if_pos hi,Sep] at s
 obtain ⟨a,xs,rfl,hO,hH,hs⟩:=s
 refine ⟨a,xs,hv,hH,hs,fun ds' xs' hs'=>?_⟩
 obtain ⟨g0,_,nw⟩:=h.og a _ hO
 have ne:∀ b l π,O b=some (l,π)→(l≠2 * i∨π≠[])→b≠a:=fun b l π q n z=>by
  subst z
  rw [hO] at q
  obtain ⟨q1,q2⟩:=Prod.mk.inj (Option.some.inj q)
  rcases n with n | n
  ·exact n q1.symm
  ·exact n q2.symm
 refine ⟨by simp [h.len],?_,h.g0,h.gn,?_,h.cok,?_,?_,?_,h.mp,?_,?_,h.np⟩
 ·intro b o q
  rw [ag (fun z=>by rw [z,g0] at q; cases q)]; exact h.gh _ _ q
 ·intro b l q
  obtain ⟨q1,⟨ys,q2⟩,q3⟩:=h.og b l q
  refine ⟨q1,?_,q3⟩
  by_cases z:b=a
  ·subst z; exact ⟨.inl _,ax⟩
  ·rw [ag z]; exact ⟨ys,q2⟩
 ·intro b o q n t
  by_cases z:b=a
  ·subst z
   rcases nw with nw | ⟨_,nw⟩
   ·rw [nw] at q; cases q
   ·rw [nw] at n; cases n
  ·rw [ag z]; exact h.fr b o q n t
 ·intro b ps q e
  by_cases z:b=a
  ·subst z; rw [ax] at e; cases e
  ·rw [ag z] at e; exact h.ft b ps q e
 ·intro b q
  by_cases z:b=a
  ·subst z; rw [ax] at q; cases q
  ·rw [ag z] at q; exact h.al b q
 ·intro j u q
  rcases a_ q with ⟨rfl,z⟩ | ⟨z,q'⟩
  ·cases z
   refine ⟨_,hv,?_⟩
   rw [if_pos hi,Sep]
   exact ⟨a,xs',rfl,hO,ax,hs'.keep (fun _ _ z=>z) fun b τ hτ q=>⟨q,ag (ne b _ _ q (.inr (by simpa using hτ)))⟩⟩
  ·obtain ⟨w,h1,h2⟩:=h.sl j u q'
   refine ⟨w,h1,?_⟩
   split at h2
   ·rename_i c; rw [if_pos c]; exact h2.keep (fun _ _ z=>z) fun b τ q=>⟨q,ag (ne b _ _ q (.inl (by omega)))⟩
   ·rename_i c; rw [if_neg c]; exact h2
 ·exact bg.keep (fun _ _ z=>z) (fun b j π hj q=>⟨q,ag (ne b _ _ q (.inl (fun z=>a8 z.symm)))⟩) h.pn
theorem RO.join {d:D} {v:V} (h:RO C ow G ρ σ H ((d,v) :: pd) O) (i n:Nat) (hn:C.np≤pd.length) :
 ∃ O',RO C ow G ρ σ H pd O'∧Sep G H O' (2 * i) d [n] v∧∀ (l:Nat) ds k π xs,l≠2 * pd.length + 1→Seps G H O l ds k π xs→Seps G H O' l ds k π xs:=by
 refine ⟨lab (fun l π=>if l=2 * pd.length + 1 then (2 * i,π++[n]) else (l,π)) O,⟨h.len,h.gh,h.g0,h.gn,?_,h.cok,h.fr,h.ft,h.al,h.mp,?_,?_,hn⟩,?_,?_⟩
 ·intro a m e
  obtain ⟨l,π,e1,rfl⟩:=hV e
  obtain ⟨q1,q2,q3⟩:=h.og a _ e1
  refine ⟨q1,q2,?_⟩
  try dsimp only
  split
  ·rename_i z
   rcases q3 with q3 | ⟨_,q3⟩
   ·exact .inl q3
   ·rcases h.cok _ _ _ q3 with ⟨k,_,q4,_⟩ | ⟨k,q4,q5⟩
    ·exact absurd (q4.symm.trans z) a8
    ·omega
  ·exact q3
 ·intro j e q
  obtain ⟨u,h1,h2⟩:=h.sl j e q
  refine ⟨u,h1,?_⟩
  split at h2
  ·rename_i c; rw [if_pos c]; exact h2.keep (fun _ _ z=>z) fun a τ q=>⟨by rw [bJ q,if_neg a8],rfl⟩
  ·rename_i c; rw [if_neg c]; exact h2
 ·exact bg.keep (fun _ _ z=>z) (fun a j π hj q=>⟨by rw [bJ q,if_neg (by omega)],rfl⟩) h.pn.2
 ·exact Sep.map (f:=fun π=>π++[n]) (fun _ _ z=>z) (fun _ _=>rfl) d [] v (fun a τ q=>⟨by rw [bJ q,if_pos rfl],rfl⟩) h.pn.1
 ·intro l ds k π xs hl hs
  exact hs.keep (fun _ _ z=>z) fun a τ _ q=>⟨by rw [bJ q,if_neg hl],rfl⟩
end
def bor (js:List Nat) (ow:List Bool):List Bool:=ow.mapIdx fun j b=>b && !js.contains j
theorem cz {js:List Nat} {ow:List Bool} {j:Nat}:(bor js ow)[j]? = some true↔ow[j]? = some true∧js.contains j=false:=by
 unfold bor
 rw [List.getElem?_mapIdx]
 cases e:ow[j]? with
 | none=>simp
 | some b=>cases b <;> simp
def lw (ρ:DSt) (js:List Nat) (n l:Nat):Bool:=if l % 2=0 then (match ρ[l / 2]? with | some (some _)=>!js.contains (l / 2) | _=>false) else decide (l / 2<n)
def iE (js:List Nat) (l:Nat):Bool:=decide (l % 2=0)&&js.contains (l / 2)
def cI (f:Nat→Bool) (O:Own):Own:=fun a=>match O a with
 | some m=>if f m.1=true then some m else none
 | none=>none
theorem fv {f:Nat→Bool} {O:Own} {a:Addr} {m:Nat×List Nat} (h:O a=some m) (hf:f m.1=true):cI f O a=some m:=by unfold cI; rw [h]; show (if _ then _ else _)=_; rw [if_pos hf]
theorem cP {f:Nat→Bool} {O:Own} {a:Addr} {m:Nat×List Nat} (h:cI f O a=some m):O a=some m∧f m.1=true:=by
 unfold cI at h
 cases e:O a with
 | none=>rw [e] at h; cases h
 | some n =>
  rw [e] at h
  change (if _ then _ else _)=_ at h
  split at h
  ·rename_i c; cases h; exact ⟨rfl,c⟩
  ·cases h
def isSm {α:Type}:Option α→Bool
 | some _=>true
 | none=>false
section
variable {C:Ctx} {ow:List Bool} {G:Hp} {ρ:DSt} {σ:St} {H:Hp} {pd:List (D×V)} {O:Own}
def gBor (js:List Nat) (G H:Hp) (O:Own):Hp:=fun a=>if isSm (cI (iE js) O a)=true then H a else G a
def cBor (js:List Nat) (G H:Hp) (O:Own) (ρ:DSt) (σ:St) (n:Nat):Ctx:=⟨gBor js G H O,H,cI (lw ρ js n) O,σ,n⟩
theorem i4 (h:RO C ow G ρ σ H pd O) (js:List Nat):az G (gBor js G H O):=fun a o e=>by
 show (if _ then _ else _)=_
 split
 ·exact h.gh _ _ e
 ·exact e
theorem gU {α:Type} {o:Option α} (h:isSm o=true):∃ x,o=some x:=by cases o with | none=>cases h | some x=>exact ⟨x,rfl⟩
theorem RO.enter (h:RO C ow G ρ σ H pd O) (js:List Nat):RO (cBor js G H O ρ σ pd.length) (bor js ow) (gBor js G H O) ρ σ H pd (cI (lw ρ js pd.length) O):=by
 have sG:=i4 h js
 refine ⟨h.len,?_,fun _ _ e=>e,fun _ _ e=>.inl e,?_,?_,fun _ _ e _ _=>e,(fun a ps q e=>by
  show (if _ then _ else _)=_
  split
  ·rename_i c
   obtain ⟨m,c⟩:=gU c
   obtain ⟨_,⟨xs,z⟩,_⟩:=h.og a m (cP c).1
   rw [z] at e; exact absurd (Option.some.inj e) (WrO.nt xs _ _)
  ·exact h.ft a ps q e),fun _ e=>e,fun _ _ e=>e,?_,?_,Nat.le_refl _⟩
 ·intro a o e
  change (if _ then _ else _)=_ at e
  split at e
  ·exact e
  ·exact h.gh _ _ e
 ·intro a l e
  obtain ⟨e1,e2⟩:=cP e
  obtain ⟨q1,q2,q3⟩:=h.og a l e1
  refine ⟨?_,q2,.inr ⟨l.2,e⟩⟩
  ·show (if _ then _ else _)=_
   rw [if_neg]; exact q1
   intro z
   obtain ⟨m,z⟩:=gU z
   obtain ⟨z1,z2⟩:=cP z
   rw [e1] at z1; cases z1
   unfold iE at z2; unfold lw at e2
   simp only [Bool.and_eq_true,decide_eq_true_eq] at z2
   rw [if_pos z2.1] at e2
   split at e2
   ·rw [z2.2] at e2; cases e2
   ·cases e2
 ·intro a l π e
  obtain ⟨e1,e2⟩:=cP e
  unfold lw at e2
  split at e2
  ·rename_i c
   split at e2
   ·rename_i d hd
    obtain ⟨v,hv,_⟩:=h.sl _ _ hd
    exact .inl ⟨l / 2,v,by omega,hv⟩
   ·cases e2
  ·exact .inr ⟨l / 2,by omega,of_decide_eq_true e2⟩
 ·intro j d e
  obtain ⟨v,h1,h2⟩:=h.sl j d e
  refine ⟨v,h1,?_⟩
  by_cases c:ow[j]? = some true
  ·rw [if_pos c] at h2
   by_cases c2:js.contains j=true
   ·rw [if_neg (fun z=>by rw [cz] at z; rw [c2] at z; exact absurd z.2 (by decide))]
    refine h2.rep sG.ts d [] v fun a τ xs q e=>?_
    show (if _ then _ else _)=_
    rw [if_pos]; exact e
    rw [fv q]; rfl
    unfold iE
    simp only [Bool.and_eq_true,decide_eq_true_eq]
    exact ⟨by omega,by rw [show 2 * j / 2=j by omega]; exact c2⟩
   ·rw [if_pos (cz.mpr ⟨c,by simpa using c2⟩)]
    refine h2.keep sG.ts fun a τ q=>⟨fv q ?_,rfl⟩
    unfold lw
    show (if 2 * j % 2=0 then _ else _)=_
    rw [if_pos (by omega),show 2 * j / 2=j by omega,e]
    simp at c2 ⊢; exact c2
  ·rw [if_neg c] at h2
   rw [if_neg (fun z=>c (cz.mp z).1)]
   exact h2.mono sG
 ·refine bg.keep sG.ts (fun a j π hj q=>⟨fv q ?_,rfl⟩) h.pn
  unfold lw
  show (if (2 * j + 1) % 2=0 then _ else _)=_
  rw [if_neg (by omega),show (2 * j + 1) / 2=j by omega]
  simpa using hj
def Kp (ow:List Bool) (ρ ρ':DSt):Prop:=∀ (j:Nat),ow[j]?≠some true→ρ'[j]? = ρ[j]?
def kg (js:List Nat) (O:Own) (G2:Hp):Hp:=fun a=>if isSm (cI (iE js) O a)=true then none else G2 a
def rR (js:List Nat) (O O2:Own):Own:=fun a=>match O2 a with
 | some l=>some l
 | none=>cI (iE js) O a
theorem RO.leave (h:RO C ow G ρ σ H pd O) {js:List Nat} {G2:Hp} {ρ2:DSt} {H2:Hp} {pd2:List (D×V)} {O2:Own}
 (h2:RO (cBor js G H O ρ σ pd.length) (bor js ow) G2 ρ2 σ H2 pd2 O2) (kp:Kp (bor js ow) ρ ρ2) :
 RO C ow (kg js O G2) ρ2 σ H2 pd2 (rR js O O2)∧az G (kg js O G2)∧bF G2 (kg js O G2):=by
 have sG:=i4 h js
 have dm:∀ a m,cI (iE js) O a=some m→O a=some m∧G a=none∧∃ xs:WrO,H a=some xs.ho∧G2 a=some xs.ho:=fun a m e=>by
  obtain ⟨e1,e2⟩:=cP e
  obtain ⟨q1,⟨xs,q2⟩,q3⟩:=h.og a m e1
  refine ⟨e1,q1,xs,q2,h2.g0 a _ ?_⟩
  show (if _ then _ else _)=_
  rw [if_pos (by rw [e]; rfl)]; exact q2
 have nd:∀ a,G a≠none→¬ isSm (cI (iE js) O a)=true:=fun a g z=>by
  obtain ⟨m,z⟩:=gU z
  exact g (dm a m z).2.1
 have sG3:az G (kg js O G2):=fun a o e=>by
  show (if _ then _ else _)=_
  rw [if_neg (nd a (by rw [e]; simp))]
  exact h2.g0 a o (sG a o e)
 have ts:bF G2 (kg js O G2):=fun a xs e=>by
  show (if _ then _ else _)=_
  rw [if_neg]; exact e
  intro z
  obtain ⟨m,z⟩:=gU z
  obtain ⟨_,_,ys,_,q⟩:=dm a m z
  rw [e] at q; exact (WrO.ne (Option.some.inj q).symm).elim
 have o2:∀ a l,O2 a=some l→rR js O O2 a=some l:=fun a l e=>by show (match O2 a with | some l=>some l | none=>_)=_; rw [e]
 refine ⟨⟨h2.len,?_,fun a o e=>sG3 _ _ (h.g0 _ _ e),?_,?_,h.cok,?_,(fun a ps q e=>by show (if _ then _ else _)=_; split <;> first | rfl | exact h2.ft a ps q e),fun a e=>h.al a (h2.al a e),h.mp,?_,?_,Nat.le_trans h.np h2.np⟩,sG3,ts⟩
 ·intro a o e
  change (if _ then _ else _)=_ at e
  split at e
  ·cases e
  ·exact h2.gh _ _ e
 ·intro a o e
  change (if _ then _ else _)=_ at e
  split at e
  ·cases e
  ·rename_i c
   rcases h2.gn a o e with q | q
   ·change (if _ then _ else _)=_ at q
    rw [if_neg c] at q
    exact h.gn a o q
   ·exact .inr (h.al a q)
 ·intro a l e
  change (match O2 a with | some l=>some l | none=>_)=_ at e
  cases q:O2 a with
  | some l' =>
   rw [q] at e; cases e
   obtain ⟨q1,q2,q3⟩:=h2.og a l q
   refine ⟨by show (if _ then _ else _)=_; split <;> first | rfl | exact q1,q2,?_⟩
   rcases q3 with q3 | ⟨q3,q4⟩
   ·exact .inl (h.al a q3)
   ·exact (h.og a _ (cP q4).1).2.2
  | none =>
   rw [q] at e
   change cI (iE js) O a=some l at e
   obtain ⟨e1,q1,xs,q2,q3⟩:=dm a l e
   refine ⟨by show (if _ then _ else _)=_; rw [if_pos (by rw [e]; rfl)],⟨xs,h2.gh _ _ q3⟩,(h.og a l e1).2.2⟩
 ·intro a o e n t
  have q:=h.fr a o e n t
  refine h2.fr a o q ?_ t
  show cI _ O a=none
  cases z:cI (lw ρ js pd.length) O a with
  | none=>rfl
  | some m =>
   obtain ⟨z1,_⟩:=cP z
   obtain ⟨_,_,z3⟩:=h.og a m z1
   rcases z3 with z3 | ⟨_,z3⟩
   ·rw [z3] at e; cases e
   ·rw [z3] at n; cases n
 ·intro j d e
  by_cases c:(bor js ow)[j]? = some true
  ·obtain ⟨v,q1,q2⟩:=h2.sl j d e
   rw [if_pos c] at q2
   refine ⟨v,q1,?_⟩
   rw [if_pos (cz.mp c).1]
   exact q2.keep ts fun a τ q=>⟨o2 _ _ q,rfl⟩
  ·rw [kp j c] at e
   obtain ⟨v,q1,q2⟩:=h.sl j d e
   refine ⟨v,q1,?_⟩
   by_cases c2:ow[j]? = some true
   ·rw [if_pos c2] at q2 ⊢
    have hj:js.contains j=true:=by
     cases z:js.contains j with
     | true=>rfl
     | false=>exact absurd (cz.mpr ⟨c2,z⟩) c
    refine q2.keep sG3.ts fun a τ q=>?_
    have dd:cI (iE js) O a=some (2 * j,τ++[]):=fv q (by
     unfold iE
     simp only [Bool.and_eq_true,decide_eq_true_eq]
     exact ⟨by omega,by rw [show 2 * j / 2=j by omega]; exact hj⟩)
    obtain ⟨_,_,xs,q4,q5⟩:=dm a _ dd
    refine ⟨?_,by rw [q4]; exact h2.gh _ _ q5⟩
    show (match O2 a with | some l=>some l | none=>_)=_
    cases z:O2 a with
    | some l=>have:=(h2.og a l z).1; rw [q5] at this; cases this
    | none=>exact dd
   ·rw [if_neg c2] at q2 ⊢
    exact q2.mono sG3
 ·exact bg.keep ts (fun a j π hj q=>⟨o2 _ _ q,rfl⟩) h2.pn
end
abbrev ME:=DSt→(D→DSt→Prop)→Prop
abbrev MT:=DSt→(Bool→DSt→Prop)→Prop
abbrev MA:=DSt→(List D→DSt→Prop)→Prop
def SE (ow:List Bool) (t:TE) (m:ME):Prop:=∀ (C:Ctx) (G:Hp) (ρ:DSt) (σ:St) (H:Hp) (pd:List (D×V)) (q:D→DSt→Prop) (Q:VK),R C ow G ρ σ H pd→m ρ q →
 (∀ d ρ' v G' H',q d ρ'→az G G'→Kp ow ρ ρ'→R C ow G' ρ' σ H' pd→Rep G' d v→Q v H')→t σ H Q
def SF (ow:List Bool) (t:TE) (m:ME):Prop:=∀ (C:Ctx) (G:Hp) (ρ:DSt) (σ:St) (H:Hp) (pd:List (D×V)) (q:D→DSt→Prop) (Q:VK),R C ow G ρ σ H pd→m ρ q →
 (∀ d ρ' v G' H',q d ρ'→az G G'→Kp ow ρ ρ'→R C ow G' ρ' σ H' ((d,v) :: pd)→Q v H')→t σ H Q
def STe (ow:List Bool) (t:TT) (m:MT):Prop:=∀ (C:Ctx) (G:Hp) (ρ:DSt) (σ:St) (H:Hp) (pd:List (D×V)) (q:Bool→DSt→Prop) (Q:Bool→Hp→Prop),R C ow G ρ σ H pd→m ρ q →
 (∀ b ρ' G' H',q b ρ'→az G G'→Kp ow ρ ρ'→R C ow G' ρ' σ H' pd→Q b H')→t σ H Q
def SA (ow:List Bool) (n:Nat) (t:TA) (m:MA):Prop:=∀ (C:Ctx) (G:Hp) (ρ:DSt) (σ:St) (H:Hp) (pd:List (D×V)) (q:List D→DSt→Prop) (Q:List V→Hp→Prop),R C ow G ρ σ H pd→m ρ q →
 (∀ ds ρ' vs G' H',q ds ρ'→az G G'→Kp ow ρ ρ'→R C ow G' ρ' σ H' pd→Reps G' ds vs→vs.length=n→Q vs H')→t σ H Q
structure QE (X:Cx) (ow:List Bool) (e:Expr) (m:ME):Prop where
 ex:∃ t,PE X e t∧SE ow t m
structure QF (X:Cx) (ow:List Bool) (e:Expr) (m:ME):Prop where
 ex:∃ t,PE X e t∧SF ow t m
structure QT (X:Cx) (ow:List Bool) (e:Expr) (m:MT):Prop where
 ex:∃ t,PT X e t∧STe ow t m
structure QW (X:Cx) (ow:List Bool) (e:Expr) (m:MT):Prop where
 ex:∃ t,PW X e t∧STe ow t m
structure QA (X:Cx) (ow:List Bool) (es:List Expr) (m:MA):Prop where
 ex:∃ t,PA X es t∧SA ow es.length t m
theorem Kp.refl {ow:List Bool} {ρ:DSt}:Kp ow ρ ρ:=fun _ _=>rfl
theorem Kp.trans {ow:List Bool} {ρ ρ1 ρ2:DSt} (a:Kp ow ρ ρ1) (b:Kp ow ρ1 ρ2):Kp ow ρ ρ2:=fun j h=>(b j h).trans (a j h)
theorem R.gh {C:Ctx} {ow:List Bool} {G:Hp} {ρ:DSt} {σ:St} {H:Hp} {pd:List (D×V)} (h:R C ow G ρ σ H pd):az G H:=let ⟨_,h⟩:=h; h.gh
theorem R.np {C:Ctx} {ow:List Bool} {G:Hp} {ρ:DSt} {σ:St} {H:Hp} {pd:List (D×V)} (h:R C ow G ρ σ H pd):C.np≤pd.length:=let ⟨_,h⟩:=h; h.np
section
variable {X:Cx} {ow:List Bool} {a b c e:Expr} {ma mb mc:ME} {pos:Pos}
def mVar (i:Nat):ME:=fun ρ q=>match ρ[i]? with
 | some (some d)=>q d ρ
 | _=>False
theorem aa (i:Nat) {x:Str} (hs:ow[i]?≠some true:=by decide) (hN:X.N[i]? = some x:=by rfl) (hv:Vis X.env.scope x:=by first | exact Or.inl rfl | exact Or.inr (Or.inl rfl) | exact Or.inr (Or.inr rfl)) (hd:(x == ("__debug__":Str))=false:=by decide)
 (hcd:(x == ("__classdict__":Str))=false:=by decide):QE X ow (.Name x pos) (mVar i):=⟨_,bB hN hv hd hcd,fun C G ρ σ H pd q Q r h k=>by
 unfold mVar at h
 split at h
 ·rename_i d e
  obtain ⟨O,ro⟩:=r
  obtain ⟨v,h1,h2⟩:=ro.sl i d e
  rw [if_neg hs] at h2
  exact ⟨v,h1,k d ρ v G H h (az.refl _) Kp.refl ⟨O,ro⟩ h2⟩
 ·exact h.elim⟩
def mC (d:D):ME:=fun ρ q=>q d ρ
theorem qe_c {v:V} {d:D} (h:PE X e (tC v)) (hr:∀ G,Rep G d v):QE X ow e (mC d):=⟨_,h,fun C G ρ σ H pd q Q r h k=>k d ρ v G H h (az.refl _) Kp.refl r (hr G)⟩
theorem ac {i j}:QE X ow (.Constant (.int i) j pos) (mC (.int i)):=qe_c nM fun _=>bi _
theorem ci {i j}:QE X ow (.Constant (.bool i) j pos) (mC (.bl i)):=qe_c rG fun _=>b6 _
theorem ur {j}:QE X ow (.Constant .none j pos) (mC .non):=qe_c tO fun _=>l6
theorem db {x:Str} {i:Int} (hg:Gl X x) (hm:∃ t,X.mg x=some (.int i t)) (hd:(x == ("__debug__":Str))=false:=by decide):QE X ow (.Name x pos) (mC (.int i)):=by
 obtain ⟨t,hm⟩:=hm
 exact qe_c (rh (v:=.int i) hg hm ⟨t,rfl⟩ hd) fun _=>bi _
theorem jh {ta tb:TE} (ha:SE ow ta ma) (hb:SE ow tb mb) {C:Ctx} {G:Hp} {ρ:DSt} {σ:St} {H:Hp} {pd:List (D×V)} {f:D→D→DSt→Prop} {Q:V→V→Hp→Prop}
 (r:R C ow G ρ σ H pd) (h:ma ρ fun x ρ1=>mb ρ1 fun y ρ2=>f x y ρ2)
 (k:∀ dx dy ρ' x y G' H',f dx dy ρ'→az G G'→Kp ow ρ ρ'→R C ow G' ρ' σ H' pd→Rep G' dx x→Rep G' dy y→Q x y H'):ta σ H fun x H1=>tb σ H1 fun y H2=>Q x y H2:=by
 refine ha C G ρ σ H pd _ _ r h fun dx ρ1 x G1 H1 h1 s1 k1 r1 p1=>?_
 refine hb C G1 ρ1 σ H1 pd _ _ r1 h1 fun dy ρ2 y G2 H2 h2 s2 k2 r2 p2=>?_
 exact k dx dy ρ2 x y G2 H2 h2 (s1.trans s2) (k1.trans k2) r2 (Rep.mono s2 _ _ p1) p2
def DOp (r:R2) (f:D→D→(D→Prop)→Prop):Prop:=∀ (G H:Hp) (x y:V) (dx dy:D) (q:D→Prop) (Q:VK),az G H→Rep G dx x→Rep G dy y→f dx dy q→(∀ d v,q d→Rep G d v→Q v H)→r x y H Q
def mOp (f:D→D→(D→Prop)→Prop) (ma mb:ME):ME:=fun ρ q=>ma ρ fun x ρ1=>mb ρ1 fun y ρ2=>f x y fun d=>q d ρ2
theorem lK {r:R2} {f:D→D→(D→Prop)→Prop} {ta tb:TE} (hd:DOp r f) (ha:SE ow ta ma) (hb:SE ow tb mb):SE ow (tOp r ta tb) (mOp f ma mb):=fun C G ρ σ H pd q Q hr h k=>by
 refine jh ha hb hr h fun dx dy ρ' x y G' H' hf s kp r' p1 p2=>?_
 exact hd G' H' x y dx dy _ _ r'.gh p1 p2 hf fun d v hq p=>k d ρ' v G' H' hq s kp r' p
theorem aB {op:Operator} {r:R2} {f:D→D→(D→Prop)→Prop} (ho:OpR X (binaryOp op) r) (hd:DOp r f) (ha:QE X ow a ma) (hb:QE X ow b mb):QE X ow (.BinOp a op b pos) (mOp f ma mb):=by
 obtain ⟨ta,pa,sa⟩:=ha; obtain ⟨tb,pb,sb⟩:=hb
 exact ⟨_,oh ho pa pb,lK hd sa sb⟩
theorem cK {op:CmpOp} {r:R2} {f:D→D→(D→Prop)→Prop} (ho:OpR X (compareOp op) r) (hd:DOp r f) (ha:QE X ow a ma) (hb:QE X ow b mb) (hm:behindInMarks op b=false):QE X ow (.Compare a [op] [b] pos) (mOp f ma mb):=by
 obtain ⟨ta,pa,sa⟩:=ha; obtain ⟨tb,pb,sb⟩:=hb
 exact ⟨_,qX ho pa pb hm,lK hd sa sb⟩
theorem aE {r:R2} {f:D→D→(D→Prop)→Prop} (ho:IxR X r) (hd:DOp r f) (ha:QE X ow a ma) (hb:QE X ow b mb) (hs:fL b):QE X ow (.Subscript a b pos) (mOp f ma mb):=by
 obtain ⟨ta,pa,sa⟩:=ha; obtain ⟨tb,pb,sb⟩:=hb
 exact ⟨_,lJ ho pa pb hs,lK hd sa sb⟩
def mB (m:ME):MT:=fun ρ q=>m ρ fun d ρ'=>match d with
 | .bl b=>q b ρ'
 | _=>False
theorem b7 {G:Hp} {b:Bool} {v:V} (h:Rep G (.bl b) v):v = .bl b:=by rw [Rep] at h; exact h
theorem aA {G:Hp} {b:Int} {v:V} (h:Rep G (.int b) v):v = .int b:=by rw [Rep] at h; exact h
theorem rO {t:TE} {m:ME} (h:SE ow t m):STe ow (rF t) (mB m):=fun C G ρ σ H pd q Q r hm k=>by
 refine h C G ρ σ H pd _ _ r hm fun d ρ' v G' H' hq s kp r' p=>?_
 cases d with
 | bl b=>exact ⟨b,b7 p,k b ρ' G' H' hq s kp r'⟩
 | _=>exact hq.elim
theorem aX {op:CmpOp} {r:R2} {f:D→D→(D→Prop)→Prop} (ho:OpR X (compareOp op) r) (hd:DOp r f) (ha:QE X ow a ma) (hb:QE X ow b mb) (hm:behindInMarks op b=false):QT X ow (.Compare a [op] [b] pos) (mB (mOp f ma mb)):=by
 obtain ⟨ta,pa,sa⟩:=ha; obtain ⟨tb,pb,sb⟩:=hb
 exact ⟨_,ql ho pa pb hm,rO (lK hd sa sb)⟩
theorem aV (h:QE X ow e ma) (he:∀ whole,isTrue e X.env whole=(do let v ← whole; standAt e.pos; holding [v] (truthy v)):=by intro _; rfl):QT X ow e (mB ma):=by
 obtain ⟨ta,pa,sa⟩:=h
 exact ⟨_,uh pa he,rO sa⟩
theorem t8 {α β:Type} {xs:List α} {ds:List β} (h:xs.length=ds.length):(!xs.isEmpty) = !ds.isEmpty:=by
 cases xs <;> cases ds <;> simp_all
def mIf {α:Type} (m:MT) (x y:DSt→(α→DSt→Prop)→Prop):DSt→(α→DSt→Prop)→Prop:=fun ρ q=>m ρ fun b ρ1=>if b=true then x ρ1 q else y ρ1 q
def mo (b:Bool):MT:=fun ρ q=>q b ρ
theorem rV {t t1 t2:TT} {m m1 m2:MT} (h:STe ow t m) (h1:STe ow t1 m1) (h2:STe ow t2 m2):STe ow (fun σ H Q=>t σ H fun c H1=>if c=true then t1 σ H1 Q else t2 σ H1 Q) (mIf m m1 m2):=fun C G ρ σ H pd q Q r hm k=>by
 refine h C G ρ σ H pd _ _ r hm fun b ρ' G' H' hq s kp r'=>?_
 cases b with
 | true=>rw [if_pos rfl] at hq ⊢; exact h1 C G' ρ' σ H' pd _ _ r' hq fun b ρ2 G2 H2 hq2 s2 kp2 r2=>k b ρ2 G2 H2 hq2 (s.trans s2) (kp.trans kp2) r2
 | false=>rw [if_neg (by decide)] at hq ⊢; exact h2 C G' ρ' σ H' pd _ _ r' hq fun b ρ2 G2 H2 hq2 s2 kp2 r2=>k b ρ2 G2 H2 hq2 (s.trans s2) (kp.trans kp2) r2
theorem kC (b:Bool):STe ow (fun _ H Q=>Q b H) (mo b):=fun C G ρ σ H pd q Q r hm k=>k b ρ G H hm (az.refl _) Kp.refl r
variable {mt mu mv:MT} {rest:List Expr}
theorem p7 (h:QT X ow a mt):QW X ow (.BoolOp .And [a] pos) mt:=by obtain ⟨t,p,s⟩:=h; exact ⟨_,qK p,s⟩
theorem fh (h:QT X ow a mt):QW X ow (.BoolOp .Or [a] pos) mt:=by obtain ⟨t,p,s⟩:=h; exact ⟨_,tK p,s⟩
theorem sM (h:QT X ow a mt) (h2:QW X ow (.BoolOp .And (b :: rest) pos) mu):QW X ow (.BoolOp .And (a :: b :: rest) pos) (mIf mt mu (mo false)):=by
 obtain ⟨t,p,s⟩:=h; obtain ⟨t2,p2,s2⟩:=h2; exact ⟨_,t4 p p2,rV s s2 (kC false)⟩
theorem h7 (h:QT X ow a mt) (h2:QW X ow (.BoolOp .Or (b :: rest) pos) mu):QW X ow (.BoolOp .Or (a :: b :: rest) pos) (mIf mt (mo true) mu):=by
 obtain ⟨t,p,s⟩:=h; obtain ⟨t2,p2,s2⟩:=h2; exact ⟨_,pw_or p p2,rV s (kC true) s2⟩
theorem QW.qt (h:QW X ow e mt):QT X ow e mt:=by obtain ⟨t,p,s⟩:=h; exact ⟨_,p.pt,s⟩
def mNot (m:MT):MT:=fun ρ q=>m ρ fun b ρ'=>q (!b) ρ'
theorem bw (h:QT X ow a mt):QT X ow (.UnaryOp .Not a pos) (mNot mt):=by
 obtain ⟨t,p,s⟩:=h
 exact ⟨_,ux p,fun C G ρ σ H pd q Q r hm k=>s C G ρ σ H pd _ _ r hm fun b ρ' G' H' hq s kp r'=>k _ ρ' G' H' hq s kp r'⟩
def mV (m:MT):ME:=fun ρ q=>m ρ fun b ρ'=>q (.bl b) ρ'
theorem gj {op} (h:QE X ow a ma):QE X ow (.BoolOp op [a] pos) ma:=by obtain ⟨t,p,s⟩:=h; exact ⟨_,sh p,s⟩
theorem s8 (h:QE X ow a ma):QE X ow (.UnaryOp .Not a pos) (mV (mNot (mB ma))):=by
 obtain ⟨t,p,s⟩:=h
 refine ⟨_,sj p,fun C G ρ σ H pd q Q r hm k=>?_⟩
 refine s C G ρ σ H pd _ _ r hm fun d ρ' v G' H' hq s kp r' p=>?_
 cases d with
 | bl b=>exact ⟨b,b7 p,k _ ρ' _ G' H' hq s kp r' (b6 _)⟩
 | _=>exact hq.elim
theorem eC (h:QE X ow a ma) (h2:QE X ow (.BoolOp .And (b :: rest) pos) mb):QE X ow (.BoolOp .And (a :: b :: rest) pos) (mIf (mB ma) mb (mC (.bl false))):=by
 obtain ⟨t,p,s⟩:=h; obtain ⟨t2,p2,s2⟩:=h2
 refine ⟨_,sJ p p2,fun C G ρ σ H pd q Q r hm k=>?_⟩
 refine s C G ρ σ H pd _ _ r hm fun d ρ' v G' H' hq s kp r' p=>?_
 cases d with
 | bl b =>
  refine ⟨b,b7 p,?_⟩
  change (if b=true then _ else _) at hq
  cases b with
  | true=>rw [if_pos rfl] at hq ⊢; exact s2 C G' ρ' σ H' pd _ _ r' hq fun d ρ2 v G2 H2 hq2 z2 kp2 r2 p2=>k d ρ2 v G2 H2 hq2 (s.trans z2) (kp.trans kp2) r2 p2
  | false=>rw [if_neg (by decide)] at hq ⊢; exact k _ ρ' _ G' H' hq s kp r' (b6 _)
 | _=>exact hq.elim
theorem fM (h:QT X ow c mt) (ha:QE X ow a ma) (hb:QE X ow b mb):QE X ow (.IfExp c a b pos) (mIf mt ma mb):=by
 obtain ⟨t,p,s⟩:=h; obtain ⟨t1,p1,s1⟩:=ha; obtain ⟨t2,p2,s2⟩:=hb
 refine ⟨_,nR p p1 p2,fun C G ρ σ H pd q Q r hm k=>?_⟩
 refine s C G ρ σ H pd _ _ r hm fun d ρ' G' H' hq s kp r'=>?_
 cases d with
 | true=>rw [if_pos rfl] at hq ⊢; exact s1 C G' ρ' σ H' pd _ _ r' hq fun d ρ2 v G2 H2 hq2 z2 kp2 r2 p2=>k d ρ2 v G2 H2 hq2 (s.trans z2) (kp.trans kp2) r2 p2
 | false=>rw [if_neg (by decide)] at hq ⊢; exact s2 C G' ρ' σ H' pd _ _ r' hq fun d ρ2 v G2 H2 hq2 z2 kp2 r2 p2=>k d ρ2 v G2 H2 hq2 (s.trans z2) (kp.trans kp2) r2 p2
theorem QF.qe (h:QF X ow e ma):QE X ow e ma:=by
 obtain ⟨t,p,s⟩:=h
 refine ⟨_,p,fun C G ρ σ H pd q Q r hm k=>s C G ρ σ H pd _ _ r hm fun d ρ' v G' H' hq s kp r'=>?_⟩
 obtain ⟨O,r'⟩:=r'
 obtain ⟨G2,s2,r2,p2⟩:=r'.share r.np
 exact k d ρ' v G2 H' hq (s.trans s2) kp r2 p2
def mImm (m:ME):ME:=fun ρ q=>m ρ fun d ρ'=>imm d=true∧q d ρ'
theorem QE.qf (h:QE X ow e ma):QF X ow e (mImm ma):=by
 obtain ⟨t,p,s⟩:=h
 refine ⟨_,p,fun C G ρ σ H pd q Q r hm k=>s C G ρ σ H pd _ _ r hm fun d ρ' v G' H' hq s kp r' p=>?_⟩
 obtain ⟨O,r'⟩:=r'
 exact k d ρ' v G' H' hq.2 s kp ⟨O,r'.len,r'.gh,r'.g0,r'.gn,r'.og,r'.cok,r'.fr,r'.ft,r'.al,r'.mp,r'.sl,⟨p.sep d [] v hq.1,r'.pn⟩,Nat.le_succ_of_le r'.np⟩
theorem lx {js:List Nat} {ρ ρ':DSt} (h:Kp (bor js ow) ρ ρ'):Kp ow ρ ρ':=fun j n=>h j fun z=>n (cz.mp z).1
theorem QE.bor (js:List Nat) (h:QE X (bor js ow) e ma):QE X ow e (mImm ma):=by
 obtain ⟨t,p,s⟩:=h
 refine ⟨_,p,fun C G ρ σ H pd q Q r hm k=>?_⟩
 obtain ⟨O,r⟩:=r
 refine s _ _ ρ σ H pd _ _ ⟨_,r.enter js⟩ hm fun d ρ' v G' H' hq s kp r' p=>?_
 obtain ⟨O',r'⟩:=r'
 obtain ⟨r2,s2,ts⟩:=r.leave r' kp
 exact k d ρ' v _ H' hq.2 s2 (lx kp) ⟨_,r2⟩ (p.imms ts d v hq.1)
theorem QF.bor (js:List Nat) (h:QF X (bor js ow) e ma):QF X ow e ma:=by
 obtain ⟨t,p,s⟩:=h
 refine ⟨_,p,fun C G ρ σ H pd q Q r hm k=>?_⟩
 obtain ⟨O,r⟩:=r
 refine s _ _ ρ σ H pd _ _ ⟨_,r.enter js⟩ hm fun d ρ' v G' H' hq s kp r'=>?_
 obtain ⟨O',r'⟩:=r'
 obtain ⟨r2,s2,ts⟩:=r.leave r' kp
 exact k d ρ' v _ H' hq s2 (lx kp) ⟨_,r2⟩
theorem QT.bor (js:List Nat) (h:QT X (bor js ow) e mt):QT X ow e mt:=by
 obtain ⟨t,p,s⟩:=h
 refine ⟨_,p,fun C G ρ σ H pd q Q r hm k=>?_⟩
 obtain ⟨O,r⟩:=r
 refine s _ _ ρ σ H pd _ _ ⟨_,r.enter js⟩ hm fun d ρ' G' H' hq s kp r'=>?_
 obtain ⟨O',r'⟩:=r'
 obtain ⟨r2,s2,ts⟩:=r.leave r' kp
 exact k d ρ' _ H' hq s2 (lx kp) ⟨_,r2⟩
def lv:MA:=fun ρ q=>q [] ρ
def eS (m:ME) (r:MA):MA:=fun ρ q=>m ρ fun d ρ1=>r ρ1 fun ds ρ2=>q (d :: ds) ρ2
variable {mr:MA} {es:List Expr}
theorem aj:QA X ow [] lv:=⟨_,dS,fun C G ρ σ H pd q Q r h k=>k [] ρ [] G H h (az.refl _) Kp.refl r bK rfl⟩
theorem ae (ha:QE X ow e ma) (hr:QA X ow es mr) (hs:starEach (e :: es) X.env=(false,eval e X.env) :: starEach es X.env:=by rfl):QA X ow (e :: es) (eS ma mr):=by
 obtain ⟨t,p,s⟩:=ha; obtain ⟨t2,p2,s2⟩:=hr
 refine ⟨_,a7 p p2 hs,fun C G ρ σ H pd q Q r hm k=>?_⟩
 refine s C G ρ σ H pd _ _ r hm fun d ρ' v G' H' hq z kp r' p=>?_
 refine s2 C G' ρ' σ H' pd _ _ r' hq fun ds ρ2 vs G2 H2 hq2 z2 kp2 r2 p2 hl=>?_
 exact k (d :: ds) ρ2 (v :: vs) G2 H2 hq2 (z.trans z2) (kp.trans kp2) r2 (bn (Rep.mono z2 _ _ p) p2) (by simp [hl])
def mTup (m:MA):ME:=fun ρ q=>m ρ fun ds ρ'=>q (.tup ds) ρ'
def mLst (m:MA):ME:=fun ρ q=>m ρ fun ds ρ'=>q (.lst ds) ρ'
def mLstI (m:MA):ME:=fun ρ q=>m ρ fun ds ρ'=>imms ds=true∧q (.lst ds) ρ'
theorem cx {n:Nat} (h:n≤1000):n≤sizeLine:=Nat.le_of_lt (cB h)
theorem cX {x1} (h:QA X ow es mr) (hl:es.length≤1000:=by decide):QE X ow (.Tuple es x1 pos) (mTup mr):=by
 obtain ⟨t,p,s⟩:=h
 refine ⟨_,pX p,fun C G ρ σ H pd q Q r hm k=>s C G ρ σ H pd _ _ r hm fun ds ρ' vs G' H' hq z kp r' p hn=>⟨cx (by omega),fun a ha=>?_⟩⟩
 obtain ⟨O,r'⟩:=r'
 obtain ⟨r2,s2⟩:=r'.new ha (.tup vs)
 exact k _ ρ' _ _ _ hq (z.trans s2) kp ⟨O,r2⟩ (ji ax (Reps.mono s2 _ _ p))
theorem em (h:QA X ow es mr) (hl:es.length≤1000:=by decide):QE X ow (.List es pos) (mLst mr):=by
 obtain ⟨t,p,s⟩:=h
 refine ⟨_,ld p,fun C G ρ σ H pd q Q r hm k=>s C G ρ σ H pd _ _ r hm fun ds ρ' vs G' H' hq z kp r' p hn=>⟨cx (by omega),fun a ha=>?_⟩⟩
 obtain ⟨O,r'⟩:=r'
 obtain ⟨r2,s2⟩:=r'.new ha (.lst vs)
 exact k _ ρ' _ _ _ hq (z.trans s2) kp ⟨O,r2⟩ (ja ax (Reps.mono s2 _ _ p))
theorem cO (h:QA X ow es mr) (hl:es.length≤1000:=by decide):QF X ow (.List es pos) (mLstI mr):=by
 obtain ⟨t,p,s⟩:=h
 refine ⟨_,ld p,fun C G ρ σ H pd q Q r hm k=>s C G ρ σ H pd _ _ r hm fun ds ρ' vs G' H' hq z kp r' p hn=>⟨cx (by omega),fun a ha=>?_⟩⟩
 obtain ⟨O,r'⟩:=r'
 exact k _ ρ' _ _ _ hq.2 z kp (r'.newL ha hq.1 p)
def fS (r:List V→Hp→VK→Prop) (f:List D→(D→Prop)→Prop):Prop:=∀ (G H:Hp) (xs:List V) (ds:List D) (q:D→Prop) (Q:VK),az G H→Reps G ds xs→f ds q→(∀ d v,q d→Rep G d v→Q v H)→r xs H Q
def mCB (f:List D→(D→Prop)→Prop) (m:MA):ME:=fun ρ q=>m ρ fun ds ρ'=>f ds fun d=>q d ρ'
theorem rZ {r:List V→Hp→VK→Prop} {f:List D→(D→Prop)→Prop} {t:TA} {n:Nat} (hd:fS r f) (s:SA ow n t mr):SE ow (tCB r t) (mCB f mr):=fun C G ρ σ H pd q Q hr hm k =>
 s C G ρ σ H pd _ _ hr hm fun ds ρ' vs G' H' hq z kp r' p hn=>hd G' H' vs ds _ _ r'.gh p hq fun d v hq p=>k d ρ' v G' H' hq z kp r' p
variable {x:Str} {p':Pos}
theorem aF {id:String} {r:List V→Hp→VK→Prop} {f:List D→(D→Prop)→Prop} (hc:cM X (.builtin id) r) (hd:fS r f) (hg:Gl X x) (hm:X.mg x=none) (hv:bootBuiltins x=some (.builtin id)) (ha:QA X ow (e :: es) mr) (hn:x ≠ "__name__":=by decide) (hdb:(x == ("__debug__":Str))=false:=by decide)
 (he:starEach (e :: es) X.env=(false,eval e X.env) :: starEach es X.env:=by rfl) (hpl:(backTo pos (starEach es X.env)).any (·.1)=false:=by rfl):QE X ow (.Call (.Name x p') (e :: es) [] pos) (mCB f mr):=by
 obtain ⟨t,p,s⟩:=ha
 exact ⟨_,ir hc hg hm hv p hn hdb he hpl,rZ hd s⟩
theorem nj {id:String} {r:List V→Hp→VK→Prop} {f:List D→(D→Prop)→Prop} (hc:cM X (.type id) r) (hd:fS r f) (hg:Gl X x) (hm:X.mg x=none) (hv:bootBuiltins x=some (.type id)) (ha:QA X ow (e :: es) mr) (hn:x ≠ "__name__":=by decide) (hdb:(x == ("__debug__":Str))=false:=by decide)
 (he:starEach (e :: es) X.env=(false,eval e X.env) :: starEach es X.env:=by rfl) (hpl:(backTo pos (starEach es X.env)).any (·.1)=false:=by rfl):QE X ow (.Call (.Name x p') (e :: es) [] pos) (mCB f mr):=by
 obtain ⟨t,p,s⟩:=ha
 exact ⟨_,i6 hc hg hm hv p hn hdb he hpl,rZ hd s⟩
end
def fI (g:Int→Int→Int):D→D→(D→Prop)→Prop:=fun a b q=>match a,b with
 | .int i,.int j=>q (.int (g i j))
 | _,_=>False
def fIC (C:Int→Int→Prop) (g:Int→Int→Int):D→D→(D→Prop)→Prop:=fun a b q=>match a,b with
 | .int i,.int j=>C i j∧q (.int (g i j))
 | _,_=>False
def fB (g:Int→Int→Bool):D→D→(D→Prop)→Prop:=fun a b q=>match a,b with
 | .int i,.int j=>q (.bl (g i j))
 | _,_=>False
theorem dI {g:Int→Int→Int}:DOp (rI0 fun i j=>.int (g i j)) (fI g):=fun G H x y dx dy q Q s p1 p2 hf k=>by
 unfold fI at hf
 split at hf
 ·exact ⟨_,_,aA p1,aA p2,k _ _ hf (bi _)⟩
 ·exact hf.elim
theorem dIC {C:Int→Int→Prop} {g:Int→Int→Int}:DOp (rI C fun i j=>.int (g i j)) (fIC C g):=fun G H x y dx dy q Q s p1 p2 hf k=>by
 unfold fIC at hf
 split at hf
 ·exact ⟨_,_,aA p1,aA p2,hf.1,k _ _ hf.2 (bi _)⟩
 ·exact hf.elim
theorem dB {g:Int→Int→Bool}:DOp (rI0 fun i j=>.bl (g i j)) (fB g):=fun G H x y dx dy q Q s p1 p2 hf k=>by
 unfold fB at hf
 split at hf
 ·exact ⟨_,_,aA p1,aA p2,k _ _ hf (b6 _)⟩
 ·exact hf.elim
def eqD (a b:D):Bool:=PyData.eqv (toP a) (toP b)
def okD (a:D):Bool:=SeqAt.shaped (toP a)
def fEq:D→D→(D→Prop)→Prop:=fun a b q=>match a,b with
 | .int i,.int j=>q (.bl (decide (i=j)))
 | a,b=>okD a=true∧okD b=true∧q (.bl (eqD a b))
def fNe:D→D→(D→Prop)→Prop:=fun a b q=>match a,b with
 | .int i,.int j=>q (.bl (!decide (i=j)))
 | a,b=>okD a=true∧okD b=true∧q (.bl (!eqD a b))
theorem lP (i j:Int):eqD (.int i) (.int j)=decide (i=j):=by
 unfold eqD; rw [toP,toP,PyData.eqv]; first | rfl | (rw [Bool.beq_eq_decide_eq])
theorem g7 (i:Int):okD (.int i)=true:=by unfold okD; rw [toP]; rfl
theorem dEq:DOp rEqD fEq:=fun G H x y dx dy q Q s p1 p2 hf k=>by
 have main:okD dx=true∧okD dy=true∧q (.bl (eqD dx dy)):=by
  unfold fEq at hf
  split at hf
  ·exact ⟨g7 _,g7 _,by rw [lP]; exact hf⟩
  ·exact hf
 exact ⟨dx,dy,Rep.mono s _ _ p1,Rep.mono s _ _ p2,main.1,main.2.1,k _ _ main.2.2 (b6 _)⟩
theorem dNe:DOp rNeD fNe:=fun G H x y dx dy q Q s p1 p2 hf k=>by
 have main:okD dx=true∧okD dy=true∧q (.bl (!eqD dx dy)):=by
  unfold fNe at hf
  split at hf
  ·exact ⟨g7 _,g7 _,by rw [lP]; exact hf⟩
  ·exact hf
 exact ⟨dx,dy,Rep.mono s _ _ p1,Rep.mono s _ _ p2,main.1,main.2.1,k _ _ main.2.2 (b6 _)⟩
def isNon:D→Bool
 | .non=>true
 | _=>false
def fIsB:D→D→(D→Prop)→Prop:=fun a b q=>match a,b with
 | .bl x,.bl y=>q (.bl (x == y))
 | _,_=>False
def di:D→Bool
 | .non=>true
 | .bl _=>true
 | .int _=>true
 | .str _=>true
 | _=>false
def eqF:D→D→Bool
 | .non,.non=>true
 | .bl a,.bl b=>a == b
 | .bl a,.int b=>(if a then 1 else 0) == b
 | .int a,.bl b=>a == (if b then 1 else 0)
 | .int a,.int b=>a == b
 | .str a,.str b=>a == b
 | _,_=>false
def toV:D→V
 | .non=>.non
 | .bl b=>.bl b
 | .int i=>.int i
 | .str x=>.str x
 | _=>.non
theorem d7 {G:Hp} {d:D} {v:V} (h:Rep G d v) (f:di d=true):v=toV d:=by
 cases d <;> first | (rw [Rep] at h; exact h) | cases f
theorem qu:∀ {a b:D},di a=true→di b=true→eqV (toV a) (toV b)=eqF a b:=by
 intro a b f g
 cases a <;> cases b <;> first | rfl | exact absurd f Bool.false_ne_true | exact absurd g Bool.false_ne_true
theorem gc {d:D} (f:di d=true):eU (toV d)=true:=by
 cases d <;> first | rfl | cases f
theorem c7 {G:Hp}:∀ {ds:List D} {xs:List V},Reps G ds xs→ds.all di=true→xs=ds.map toV
 | [],xs,h,_=>by rw [Reps] at h; subst h; rfl
 | d :: ds,xs,h,f=>by
  rw [Reps] at h
  obtain ⟨v,vs,rfl,h1,h2⟩:=h
  rw [List.all_cons,Bool.and_eq_true] at f
  rw [d7 h1 f.1,c7 h2 f.2]; rfl
def inD (a:D) (ds:List D):Bool:=ds.any fun y=>eqF y a
theorem jH {a:D} (f:di a=true):∀ {ds:List D},ds.all di=true→inV (toV a) (ds.map toV)=inD a ds
 | [],_=>rfl
 | d :: ds,g=>by
  rw [List.all_cons,Bool.and_eq_true] at g
  have:=jH f g.2
  unfold inV inD at *
  rw [List.map_cons,List.any_cons,List.any_cons,qu g.1 f,this]
theorem ia:∀ {ds:List D},ds.all di=true→(ds.map toV).all eU=true
 | [],_=>rfl
 | d :: ds,g=>by
  rw [List.all_cons,Bool.and_eq_true] at g
  rw [List.map_cons,List.all_cons,gc g.1,ia g.2]; rfl
def fIn (neg:Bool):D→D→(D→Prop)→Prop:=fun a b q=>match b with
 | .lst ds=>di a=true∧ds.all di=true∧q (.bl (if neg then !inD a ds else inD a ds))
 | .tup ds=>di a=true∧ds.all di=true∧q (.bl (if neg then !inD a ds else inD a ds))
 | _=>False
theorem dIn {K:PySem.W.Frag} {neg:Bool}:DOp (rIn K neg) (fIn neg):=fun G H x y dx dy q Q s p1 p2 hf k=>by
 unfold fIn at hf
 split at hf
 ·rw [Rep] at p2
  obtain ⟨a,xs,rfl,h1,h2⟩:=p2
  obtain ⟨f1,f2,hq⟩:=hf
  refine ⟨a,xs,rfl,.inl (SqL.of (s _ _ h1)),?_,?_,?_⟩
  ·rw [d7 p1 f1]; exact gc f1
  ·rw [c7 h2 f2]; exact ia f2
  ·rw [d7 p1 f1,c7 h2 f2,jH f1 f2]; exact k _ _ hq (b6 _)
 ·rw [Rep] at p2
  obtain ⟨a,xs,rfl,h1,h2⟩:=p2
  obtain ⟨f1,f2,hq⟩:=hf
  refine ⟨a,xs,rfl,.inr (SqT.of (s _ _ h1)),?_,?_,?_⟩
  ·rw [d7 p1 f1]; exact gc f1
  ·rw [c7 h2 f2]; exact ia f2
  ·rw [d7 p1 f1,c7 h2 f2,jH f1 f2]; exact k _ _ hq (b6 _)
 ·exact hf.elim
def atD (ds:List D) (i:Int) (q:D→Prop):Prop:=match atI ds i with
 | some d=>q d
 | none=>False
def fIx (K:PySem.W.Frag):D→D→(D→Prop)→Prop:=fun a b q=>match a,b with
 | .lst ds,.int i=>atD ds i q
 | .tup ds,.int i=>atD ds i q
 | .scr φ ns,.int i=>(∀ a H,φ a→SqL K H a (ns.map V.int))∧match atI ns i with
  | some n=>q (.int n)
  | none=>False
 | _,_=>False
theorem dc {G:Hp}:∀ {ds:List D} {xs:List V} {j:Nat} {d:D},Reps G ds xs→ds[j]? = some d→∃ v,xs[j]? = some v∧Rep G d v
 | [],_,_,_,_,e=>by simp at e
 | d :: ds,xs,0,e,h,q=>by rw [Reps] at h; obtain ⟨v,vs,rfl,h1,_⟩:=h; simp at q; subst q; exact ⟨v,rfl,h1⟩
 | d :: ds,xs,j + 1,e,h,q=>by
  rw [Reps] at h
  obtain ⟨v,vs,rfl,_,h2⟩:=h
  obtain ⟨u,e1,e2⟩:=dc (j:=j) h2 (by simpa using q)
  exact ⟨u,by simpa using e1,e2⟩
theorem kb {G:Hp} {ds:List D} {xs:List V} {i:Int} {d:D} (h:Reps G ds xs) (e:atI ds i=some d):∃ v,atI xs i=some v∧Rep G d v:=by
 unfold atI at *
 rw [h.length]
 cases q:ixN ds.length i with
 | none=>rw [q] at e; cases e
 | some j=>rw [q] at e; exact dc h e
theorem qp {α β:Type} {f : α→β} {xs:List α} {i:Int} {x : α} (h:atI xs i=some x):atI (xs.map f) i=some (f x):=by
 unfold atI at *
 rw [List.length_map]
 cases q:ixN xs.length i with
 | none=>rw [q] at h; cases h
 | some j=>rw [q] at h; rw [show (Option.some j).bind _=(xs.map f)[j]? from rfl,List.getElem?_map,show xs[j]? = some x from h]; rfl
theorem dIx {K:PySem.W.Frag}:DOp (rIx K) (fIx K):=fun G H x y dx dy q Q s p1 p2 hf k=>by
 unfold fIx at hf
 split at hf
 ·rw [Rep] at p1
  obtain ⟨a,xs,rfl,h1,h2⟩:=p1
  unfold atD at hf
  split at hf
  ·rename_i e
   obtain ⟨v,e1,e2⟩:=kb h2 e
   exact .inl ⟨a,xs,_,v,rfl,aA p2,SqL.of (s _ _ h1),e1,k _ _ hf e2⟩
  ·exact hf.elim
 ·rw [Rep] at p1
  obtain ⟨a,xs,rfl,h1,h2⟩:=p1
  unfold atD at hf
  split at hf
  ·rename_i e
   obtain ⟨v,e1,e2⟩:=kb h2 e
   exact .inr (.inl ⟨a,xs,_,v,rfl,aA p2,SqT.of (s _ _ h1),e1,k _ _ hf e2⟩)
  ·exact hf.elim
 ·rw [Rep] at p1
  obtain ⟨a,rfl,h1⟩:=p1
  obtain ⟨hk,hf⟩:=hf
  split at hf
  ·rename_i e
   refine .inl ⟨a,_,_,_,rfl,aA p2,?_,qp e,k _ _ hf (bi _)⟩
   rcases h1 with ⟨o,h1⟩ | h1
   ·exact .inl (.inr ⟨o,s _ _ h1⟩)
   ·exact hk a H h1
  ·exact hf.elim
 ·exact hf.elim
def fLen (K:PySem.W.Frag):List D→(D→Prop)→Prop:=fun ds q=>match ds with
 | [.lst ds]=>q (.int ds.length)
 | [.tup ds]=>q (.int ds.length)
 | [.scr φ ns]=>(∀ a H,φ a→SqL K H a (ns.map V.int))∧q (.int ns.length)
 | _=>False
theorem bh {G:Hp} {ds:List D} {v:V} (h:Rep G (.lst ds) v):∃ a xs,v = .ref a∧G a=some (.lst xs)∧Reps G ds xs:=by rw [Rep] at h; exact h
theorem dD {G:Hp} {ds:List D} {v:V} (h:Rep G (.tup ds) v):∃ a xs,v = .ref a∧G a=some (.tup xs)∧Reps G ds xs:=by rw [Rep] at h; exact h
theorem ln {G:Hp} {φ:Addr→Prop} {ns:List Int} {v:V} (h:Rep G (.scr φ ns) v):∃ a,v = .ref a∧((∃ o,G a=some (.frz o (.lst (ns.map V.int))))∨φ a):=by rw [Rep] at h; exact h
theorem bj {G:Hp} {d:D} {xs:List V} (h:Reps G [d] xs):∃ v,xs=[v]∧Rep G d v:=by
 rw [Reps] at h; obtain ⟨v,vs,rfl,h1,h2⟩:=h; rw [Reps] at h2; subst h2; exact ⟨v,rfl,h1⟩
theorem dj {G:Hp} {d e:D} {xs:List V} (h:Reps G [d,e] xs):∃ v u,xs=[v,u]∧Rep G d v∧Rep G e u:=by
 rw [Reps] at h; obtain ⟨v,vs,rfl,h1,h2⟩:=h; obtain ⟨u,rfl,h3⟩:=bj h2; exact ⟨v,u,rfl,h1,h3⟩
theorem dz {K:PySem.W.Frag}:fS (fun xs H Q=>∃ p ys,xs=[.ref p]∧(SqL K H p ys∨SqT K H p ys)∧Q (.int ys.length) H) (fLen K):=fun G H xs ds q Q s p hf k=>by
 unfold fLen at hf
 split at hf
 ·obtain ⟨v,rfl,p1⟩:=bj p
  obtain ⟨a,xs,rfl,h1,h2⟩:=bh p1
  exact ⟨a,xs,rfl,.inl (SqL.of (s _ _ h1)),by rw [h2.length]; exact k _ _ hf (bi _)⟩
 ·obtain ⟨v,rfl,p1⟩:=bj p
  obtain ⟨a,xs,rfl,h1,h2⟩:=dD p1
  exact ⟨a,xs,rfl,.inr (SqT.of (s _ _ h1)),by rw [h2.length]; exact k _ _ hf (bi _)⟩
 ·obtain ⟨v,rfl,p1⟩:=bj p
  obtain ⟨a,rfl,h1⟩:=ln p1
  rename_i φ ns
  have hS:SqL K H a (ns.map V.int):=by
   rcases h1 with ⟨o,h1⟩ | h1
   ·exact .inl (.inr ⟨o,s _ _ h1⟩)
   ·exact hf.1 a H h1
  exact ⟨a,_,rfl,.inl hS,by rw [List.length_map]; exact k _ _ hf.2 (bi _)⟩
 ·exact hf.elim
def fMax:List D→(D→Prop)→Prop:=fun ds q=>match ds with
 | [.int i,.int j]=>q (.int (if j > i then j else i))
 | _=>False
def fMin:List D→(D→Prop)→Prop:=fun ds q=>match ds with
 | [.int i,.int j]=>q (.int (if j<i then j else i))
 | _=>False
theorem dMax:fS (fun xs H Q=>∃ i j,xs=[.int i,.int j]∧Q (.int (if j > i then j else i)) H) fMax:=fun G H xs ds q Q s p hf k=>by
 unfold fMax at hf
 split at hf
 ·obtain ⟨v,u,rfl,p1,p2⟩:=dj p
  rw [aA p1,aA p2]
  exact ⟨_,_,rfl,k _ _ hf (bi _)⟩
 ·exact hf.elim
theorem nE:fS (fun xs H Q=>∃ i j,xs=[.int i,.int j]∧Q (.int (if j<i then j else i)) H) fMin:=fun G H xs ds q Q s p hf k=>by
 unfold fMin at hf
 split at hf
 ·obtain ⟨v,u,rfl,p1,p2⟩:=dj p
  rw [aA p1,aA p2]
  exact ⟨_,_,rfl,k _ _ hf (bi _)⟩
 ·exact hf.elim
def rP:List D→(D→Prop)→Prop:=fun ds q=>match ds with
 | [.int i]=>q (.int i)
 | [.bl k]=>q (.int (if k then 1 else 0))
 | _=>False
theorem dInt1:fS (fun xs H Q=>(∃ i,xs=[.int i]∧Q (.int i) H)∨∃ k,xs=[.bl k]∧Q (.int (if k then 1 else 0)) H) rP:=fun G H xs ds q Q s p hf k=>by
 unfold rP at hf
 split at hf
 ·obtain ⟨v,rfl,p1⟩:=bj p
  rw [aA p1]
  exact .inl ⟨_,rfl,k _ _ hf (bi _)⟩
 ·obtain ⟨v,rfl,p1⟩:=bj p
  rw [b7 p1]
  exact .inr ⟨_,rfl,k _ _ hf (bi _)⟩
 ·exact hf.elim
section
variable {X:Cx} {ow:List Bool} {a b c e:Expr} {ma mb mc:ME} {pos:Pos} {mr:MA} {es:List Expr}
def mIsT (T:String) (m:ME):ME:=fun ρ q=>m ρ fun d ρ'=>match mO d T with
 | some b=>q (.bl b) ρ'
 | none=>False
theorem cH {T:String} {x y:Str} {p1 p2:Pos} (hg:Gl X x) (hm:X.mg x=none) (hv:bootBuiltins x=some (.builtin "isinstance")) (ha:QE X ow a ma) (ht:PE X (.Name y p2) (tC (.ty T)))
 (hn:x ≠ "__name__":=by decide) (hdb:(x == ("__debug__":Str))=false:=by decide)
 (hs:starEach [.Name y p2] X.env=[(false,eval (.Name y p2) X.env)]:=by rfl)
 (he:starEach [a,.Name y p2] X.env=(false,eval a X.env) :: starEach [.Name y p2] X.env:=by rfl) (hpl:(backTo pos (starEach [.Name y p2] X.env)).any (·.1)=false:=by rfl) :
 QE X ow (.Call (.Name x p1) [a,.Name y p2] [] pos) (mIsT T ma):=by
 obtain ⟨t,p,s⟩:=ha
 refine ⟨_,ir j8 hg hm hv (a7 p (a7 ht dS hs) he) hn hdb he hpl,fun C G ρ σ H pd q Q r hm k=>s C G ρ σ H pd _ _ r hm fun d ρ' v G' H' hq s kp r' p=>?_⟩
 cases e:mO d T with
 | none=>rw [e] at hq; exact hq.elim
 | some b=>rw [e] at hq; exact ⟨v,T,d,b,rfl,Rep.mono r'.gh _ _ p,e,k _ ρ' _ G' H' hq s kp r' (b6 _)⟩
def pH (f g:D→D→(D→Prop)→Prop) (ma mb mc:ME):ME:=fun ρ q=>ma ρ fun x ρ1=>mb ρ1 fun y ρ2=>f x y fun z=>match z with
 | .bl k=>if k=true then mc ρ2 fun w ρ3=>g y w fun d=>q d ρ3 else q (.bl false) ρ2
 | _=>False
theorem pM {r r':R2} {f g:D→D→(D→Prop)→Prop} {ta tb tc:TE} (hf:DOp r f) (hg:DOp r' g) (ha:SE ow ta ma) (hb:SE ow tb mb) (hc:SE ow tc mc):SE ow (oO r r' ta tb tc) (pH f g ma mb mc):=fun C G ρ σ H pd q Q hr h k=>by
 refine jh (Q:=fun x y H2=>r x y H2 _) ha hb hr h fun dx dy ρ' x y G' H' h1 s kp r1 p1 p2=>?_
 refine hf G' H' x y dx dy _ _ r1.gh p1 p2 h1 fun d v hq p=>?_
 cases d with
 | bl b =>
  refine ⟨b,b7 p,?_⟩
  change (if b=true then _ else _) at hq
  cases b with
  | true =>
   rw [if_pos rfl] at hq ⊢
   refine hc C G' ρ' σ H' pd _ _ r1 hq fun dw ρ3 w G3 H3 h3 s3 kp3 r3 p3=>?_
   exact hg G3 H3 y w dy dw _ _ r3.gh (Rep.mono s3 _ _ p2) p3 h3 fun d v hq p=>k d ρ3 v G3 H3 hq (s.trans s3) (kp.trans kp3) r3 p
  | false=>rw [if_neg (by decide)] at hq ⊢; exact k _ ρ' _ G' H' hq s kp r1 (b6 _)
 | _=>exact hq.elim
theorem kf {op op':CmpOp} {r r':R2} {f g:D→D→(D→Prop)→Prop} (ho:OpR X (compareOp op) r) (ho':OpR X (compareOp op') r') (hf:DOp r f) (hg:DOp r' g) (ha:QE X ow a ma) (hb:QE X ow b mb) (hc:QE X ow c mc)
 (hm:lastMarks [op,op'] [b,c]=false:=by with_unfolding_all rfl):QE X ow (.Compare a [op,op'] [b,c] pos) (pH f g ma mb mc):=by
 obtain ⟨ta,pa,sa⟩:=ha; obtain ⟨tb,pb,sb⟩:=hb; obtain ⟨tc,pc,sc⟩:=hc
 exact ⟨_,o6 ho ho' pa pb pc hm,pM hf hg sa sb sc⟩
def gw (r:List V→Hp→VK→Prop) (f:List D→(List D→Prop)→Prop):Prop:=∀ (G H:Hp) (xs:List V) (ds:List D) (q:List D→Prop) (Q:VK),az G H→Reps G ds xs→f ds q →
 (∀ es ys p,q es→Reps G es ys→H p=none→Q (.ref p) (upd H p (.lst ys)))→r xs H Q
def mNew (f:List D→(List D→Prop)→Prop) (m:MA):ME:=fun ρ q=>m ρ fun ds ρ'=>f ds fun es=>imms es=true∧q (.lst es) ρ'
def rU (f:List D→(List D→Prop)→Prop) (m:MA):ME:=fun ρ q=>m ρ fun ds ρ'=>f ds fun es=>q (.lst es) ρ'
theorem kM {r:List V→Hp→VK→Prop} {f:List D→(List D→Prop)→Prop} {t:TA} {n:Nat} (hd:gw r f) (s:SA ow n t mr):SF ow (fun σ H Q=>t σ H fun xs H1=>r xs H1 Q) (mNew f mr):=fun C G ρ σ H pd q Q hr hm k =>
 s C G ρ σ H pd _ _ hr hm fun ds ρ' vs G' H' hq z kp r' p hn=>hd G' H' vs ds _ _ r'.gh p hq fun es ys a hq p ha=>by
  obtain ⟨O,r'⟩:=r'
  exact k _ ρ' _ _ _ hq.2 z kp (r'.newL ha hq.1 p)
theorem sv {r:List V→Hp→VK→Prop} {f:List D→(List D→Prop)→Prop} {t:TA} {n:Nat} (hd:gw r f) (s:SA ow n t mr):SE ow (fun σ H Q=>t σ H fun xs H1=>r xs H1 Q) (rU f mr):=fun C G ρ σ H pd q Q hr hm k =>
 s C G ρ σ H pd _ _ hr hm fun ds ρ' vs G' H' hq z kp r' p hn=>hd G' H' vs ds _ _ r'.gh p hq fun es ys a hq p ha=>by
  obtain ⟨O,r'⟩:=r'
  obtain ⟨r2,s2⟩:=r'.new ha (.lst ys)
  exact k _ ρ' _ _ _ hq (z.trans s2) kp ⟨O,r2⟩ (ja ax (Reps.mono s2 _ _ p))
theorem pL {ta tb:TE} (ha:SE ow ta ma) (hb:SE ow tb mb):SA ow 2 (fun σ H Q=>ta σ H fun x H1=>tb σ H1 fun y H2=>Q [x,y] H2) (eS ma (eS mb lv)):=fun C G ρ σ H pd q Q hr hm k =>
 jh (Q:=fun x y H2=>Q [x,y] H2) ha hb hr hm fun dx dy ρ' x y G' H' h1 s kp r1 p1 p2=>k [dx,dy] ρ' [x,y] G' H' h1 s kp r1 (bn p1 (bn p2 bK)) rfl
theorem d_ {G:Hp}:∀ {ds es:List D} {xs ys:List V},Reps G ds xs→Reps G es ys→Reps G (ds++es) (xs++ys)
 | [],es,xs,ys,h,h2=>by rw [Reps] at h; subst h; exact h2
 | d :: ds,es,xs,ys,h,h2=>by rw [Reps] at h; obtain ⟨v,vs,rfl,h1,h3⟩:=h; exact bn h1 (d_ h3 h2)
theorem jY {G:Hp} {ds:List D} {xs:List V} (h:Reps G ds xs):∀ n:Nat,Reps G (List.replicate n ds).flatten (List.replicate n xs).flatten
 | 0=>by simp; exact bK
 | n + 1=>by simp [List.replicate_succ]; exact d_ h (jY h n)
def fCat:List D→(List D→Prop)→Prop:=fun ds q=>match ds with
 | [.lst xs,.lst ys]=>xs.length + ys.length≤1000∧q (xs++ys)
 | _=>False
theorem dCat:gw (fun xs H Q=>∃ x y,xs=[x,y]∧rCat x y H Q) fCat:=fun G H xs ds q Q s p hf k=>by
 unfold fCat at hf
 split at hf
 ·obtain ⟨v,u,rfl,p1,p2⟩:=dj p
  rw [Rep] at p1 p2
  obtain ⟨a1,xs,rfl,h1,h2⟩:=p1
  obtain ⟨a2,ys,rfl,h3,h4⟩:=p2
  exact ⟨_,_,rfl,a1,a2,xs,ys,rfl,rfl,s _ _ h1,s _ _ h3,cx (by rw [h2.length,h4.length]; exact hf.1),fun p hp=>k _ _ p hf.2 (d_ h2 h4) hp⟩
 ·exact hf.elim
def fRep:List D→(List D→Prop)→Prop:=fun ds q=>match ds with
 | [.lst xs,.int n]=>(-(2 ^ 63)≤n∧n<2 ^ 63∧xs.length * n.toNat≤1000)∧q (List.replicate n.toNat xs).flatten
 | _=>False
theorem dRep:gw (fun xs H Q=>∃ x y,xs=[x,y]∧rRep x y H Q) fRep:=fun G H xs ds q Q s p hf k=>by
 unfold fRep at hf
 split at hf
 ·obtain ⟨v,u,rfl,p1,p2⟩:=dj p
  obtain ⟨a1,xs,rfl,h1,h2⟩:=bh p1
  rw [aA p2]
  exact ⟨_,_,rfl,a1,_,xs,rfl,rfl,s _ _ h1,hf.1.1,hf.1.2.1,cx (by rw [h2.length]; exact hf.1.2.2),fun p hp=>k _ _ p hf.2 (jY h2 _) hp⟩
 ·exact hf.elim
def mMk (f:List D→(List D→Prop)→Prop) (ma mb:ME):ME:=mNew f (eS ma (eS mb lv))
def mMkS (f:List D→(List D→Prop)→Prop) (ma mb:ME):ME:=rU f (eS ma (eS mb lv))
def R2ok (r:R2):List V→Hp→VK→Prop:=fun xs H Q=>match xs with
 | [x,y]=>r x y H Q
 | _=>False
theorem gw.r2 {r:R2} {f:List D→(List D→Prop)→Prop} (h:gw (fun xs H Q=>∃ x y,xs=[x,y]∧r x y H Q) f):gw (R2ok r) f:=fun G H xs ds q Q s p hf k=>by
 obtain ⟨x,y,rfl,z⟩:=h G H xs ds q Q s p hf k
 exact z
theorem ny {op:Operator} {r:R2} {f:List D→(List D→Prop)→Prop} (ho:OpR X (binaryOp op) r) (hd:gw (fun xs H Q=>∃ x y,xs=[x,y]∧r x y H Q) f) (ha:QE X ow a ma) (hb:QE X ow b mb):QF X ow (.BinOp a op b pos) (mMk f ma mb):=by
 obtain ⟨ta,pa,sa⟩:=ha; obtain ⟨tb,pb,sb⟩:=hb
 exact ⟨tOp r ta tb,oh ho pa pb,kM (r:=R2ok r) hd.r2 (pL sa sb)⟩
theorem qe_mk {op:Operator} {r:R2} {f:List D→(List D→Prop)→Prop} (ho:OpR X (binaryOp op) r) (hd:gw (fun xs H Q=>∃ x y,xs=[x,y]∧r x y H Q) f) (ha:QE X ow a ma) (hb:QE X ow b mb):QE X ow (.BinOp a op b pos) (mMkS f ma mb):=by
 obtain ⟨ta,pa,sa⟩:=ha; obtain ⟨tb,pb,sb⟩:=hb
 exact ⟨tOp r ta tb,oh ho pa pb,sv (r:=R2ok r) hd.r2 (pL sa sb)⟩
def rX:List D→(List D→Prop)→Prop:=fun ds q=>match ds with
 | [.lst xs]=>q xs
 | [.tup xs]=>q xs
 | _=>False
theorem hE {K:PySem.W.Frag}:gw (fun xs H Q=>∃ p ys,xs=[.ref p]∧(SqL K H p ys∨SqT K H p ys)∧∀ l,H l=none→Q (.ref l) (upd H l (.lst ys))) rX:=fun G H xs ds q Q s p hf k=>by
 unfold rX at hf
 split at hf
 ·obtain ⟨v,rfl,p1⟩:=bj p
  obtain ⟨a,xs,rfl,h1,h2⟩:=bh p1
  exact ⟨a,xs,rfl,.inl (SqL.of (s _ _ h1)),fun l hl=>k _ _ l hf h2 hl⟩
 ·obtain ⟨v,rfl,p1⟩:=bj p
  obtain ⟨a,xs,rfl,h1,h2⟩:=dD p1
  exact ⟨a,xs,rfl,.inr (SqT.of (s _ _ h1)),fun l hl=>k _ _ l hf h2 hl⟩
 ·exact hf.elim
variable {x:Str} {p':Pos}
theorem b5 {id:String} {r:List V→Hp→VK→Prop} {f:List D→(List D→Prop)→Prop} (hc:cM X (.type id) r) (hd:gw r f) (hg:Gl X x) (hm:X.mg x=none) (hv:bootBuiltins x=some (.type id)) (ha:QA X ow (e :: es) mr) (hn:x ≠ "__name__":=by decide) (hdb:(x == ("__debug__":Str))=false:=by decide)
 (he:starEach (e :: es) X.env=(false,eval e X.env) :: starEach es X.env:=by rfl) (hpl:(backTo pos (starEach es X.env)).any (·.1)=false:=by rfl):QF X ow (.Call (.Name x p') (e :: es) [] pos) (mNew f mr):=by
 obtain ⟨t,p,s⟩:=ha
 exact ⟨_,i6 hc hg hm hv p hn hdb he hpl,kM hd s⟩
theorem j6 {id:String} {r:List V→Hp→VK→Prop} {f:List D→(List D→Prop)→Prop} (hc:cM X (.builtin id) r) (hd:gw r f) (hg:Gl X x) (hm:X.mg x=none) (hv:bootBuiltins x=some (.builtin id)) (ha:QA X ow (e :: es) mr) (hn:x ≠ "__name__":=by decide) (hdb:(x == ("__debug__":Str))=false:=by decide)
 (he:starEach (e :: es) X.env=(false,eval e X.env) :: starEach es X.env:=by rfl) (hpl:(backTo pos (starEach es X.env)).any (·.1)=false:=by rfl):QF X ow (.Call (.Name x p') (e :: es) [] pos) (mNew f mr):=by
 obtain ⟨t,p,s⟩:=ha
 exact ⟨_,ir hc hg hm hv p hn hdb he hpl,kM hd s⟩
variable {lo hi:Option Expr} {ml mh:MO} {p2:Pos}
end
def bY (f:Nat→Option Nat) (O:Own):Own:=fun a=>match O a with
 | some m=>(f m.1).map fun l=>(l,m.2)
 | none=>none
theorem lS {f:Nat→Option Nat} {O:Own} {a:Addr} {l l':Nat} {π:List Nat} (h:O a=some (l,π)) (hf:f l=some l'):bY f O a=some (l',π):=by unfold bY; rw [h]; show (f l).map _=_; rw [hf]; rfl
theorem eI {f:Nat→Option Nat} {O:Own} {a:Addr} {l':Nat} {π:List Nat} (h:bY f O a=some (l',π)):∃ l,O a=some (l,π)∧f l=some l':=by
 unfold bY at h
 cases e:O a with
 | none=>rw [e] at h; cases h
 | some m =>
  rw [e] at h
  change (f m.1).map _=_ at h
  cases e2:f m.1 with
  | none=>rw [e2] at h; cases h
  | some l=>rw [e2] at h; cases h; exact ⟨m.1,rfl,e2⟩
theorem md {f:Nat→Option Nat} {O:Own} {a:Addr} {l:Nat} {π:List Nat} (h:O a=some (l,π)) (hf:f l=none):bY f O a=none:=by unfold bY; rw [h]; show (f l).map _=_; rw [hf]; rfl
def msV:List Bool→List V→List (Option V)
 | b :: bs,v :: vs=>(if b=true then some v else none) :: msV bs vs
 | _,_=>[]
theorem jc:∀ {mu:List Bool} {vs:List V} {k:Nat} {v:V},(msV mu vs)[k]? = some (some v)→mu[k]? = some true∧vs[k]? = some v
 | [],vs,k,v,h=>by simp [msV] at h
 | b :: bs,[],k,v,h=>by simp [msV] at h
 | b :: bs,u :: vs,0,v,h=>by
  simp only [msV,List.getElem?_cons_zero,Option.some.injEq] at h
  split at h
  ·rename_i c; cases h; subst c; exact ⟨rfl,rfl⟩
  ·cases h
 | b :: bs,u :: vs,k + 1,v,h=>by
  simp only [msV,List.getElem?_cons_succ] at h
  simpa using jc h
theorem fe:∀ {mu:List Bool} {vs:List V} {k:Nat} {v:V},mu[k]? = some true→vs[k]? = some v→(msV mu vs)[k]? = some (some v)
 | [],vs,k,v,h,_=>by simp at h
 | b :: bs,[],k,v,_,h=>by simp at h
 | b :: bs,u :: vs,0,v,h,h2=>by simp at h h2; subst h; subst h2; simp [msV]
 | b :: bs,u :: vs,k + 1,v,h,h2=>by simp only [msV,List.getElem?_cons_succ]; exact fe (by simpa using h) (by simpa using h2)
section
variable {C:Ctx} {ow mu:List Bool} {G:Hp} {ρ:DSt} {σ:St} {H:Hp} {pd:List (D×V)} {O:Own} {fin fbk:Nat→Option Nat}
theorem RO.into (ro:RO C ow G ρ σ H pd O) {ds:List D} {vs:List V} (hl:ds.length=vs.length)
 (hs:∀ (k:Nat) d,ds[k]? = some d→∃ v,vs[k]? = some v∧if mu[k]? = some true then ∃ l,Sep G H O l d [] v∧fin l=some (2 * k) else Rep G d v)
 (hc:∀ l l',fin l=some l'→∃ k,l'=2 * k∧mu[k]? = some true∧k<vs.length) :
 RO ⟨G,H,bY fin O,msV mu vs,0⟩ mu G (ds.map some) (vs.map some) H [] (bY fin O):=by
 refine ⟨by simp [hl],ro.gh,fun _ _ e=>e,fun _ _ e=>.inl e,?_,?_,fun _ _ e _ _=>e,ro.ft,fun _ e=>e,?_,?_,trivial,Nat.le_refl _⟩
 ·intro a m e
  obtain ⟨l',π⟩:=m
  obtain ⟨l,e1,e2⟩:=eI e
  obtain ⟨q1,q2,_⟩:=ro.og a _ e1
  exact ⟨q1,q2,.inr ⟨π,e⟩⟩
 ·intro a l' π e
  obtain ⟨l,e1,e2⟩:=eI e
  obtain ⟨k,rfl,h2,h3⟩:=hc _ _ e2
  exact .inl ⟨k,vs[k],rfl,fe h2 (List.getElem?_eq_getElem h3)⟩
 ·intro k v e
  rw [List.getElem?_map,(jc e).2]; rfl
 ·intro k d e
  rw [List.getElem?_map] at e
  cases e1:ds[k]? with
  | none=>rw [e1] at e; cases e
  | some d' =>
   rw [e1] at e
   cases e
   obtain ⟨v,h1,h2⟩:=hs k d e1
   refine ⟨v,by rw [List.getElem?_map,h1]; rfl,?_⟩
   split at h2
   ·rename_i c
    rw [if_pos c]
    obtain ⟨l,h3,h4⟩:=h2
    exact h3.keep (fun _ _ z=>z) fun a τ q=>⟨lS q h4,rfl⟩
   ·rename_i c; rw [if_neg c]; exact h2
def lf (fin fbk:Nat→Option Nat) (O O2:Own):Own:=fun a=>match O2 a with
 | some m=>(fbk m.1).map fun l=>(l,m.2)
 | none=>match bY fin O a with
  | some _=>none
  | none=>O a
theorem RO.out (ro:RO C ow G ρ σ H pd O) {vs:List V} {G2:Hp} {ρ2:DSt} {σ2:St} {H2:Hp} {pd2 pd3:List (D×V)} {O2:Own} {ρ3:DSt} {ow2:List Bool} {np:Nat} {mv:List (Option V)}
 (ri:RO ⟨G,H,bY fin O,mv,np⟩ ow2 G2 ρ2 σ2 H2 pd2 O2) (hib:∀ l0 l' l,fin l0=some l'→fbk l'=some l→l=l0)
 (hlen : ρ3.length=σ.length) (hnp:C.np≤pd3.length)
 (hS:∀ (i:Nat) d,ow[i]?≠some true→ρ3[i]? = some (some d)→ρ[i]? = some (some d))
 (hO:∀ (i:Nat) d,ow[i]? = some true→ρ3[i]? = some (some d)→(fin (2 * i)=none∧ρ[i]? = some (some d))∨∃ (k:Nat) (v:V),fbk (2 * k)=some (2 * i)∧ow2[k]? = some true∧ρ2[k]? = some (some d)∧σ[i]? = some (some v)∧σ2[k]? = some (some v))
 (hP:∀ (O3:Own),(∀ a l π,O a=some (l,π)→fin l=none→O3 a=some (l,π)∧H2 a=H a)→(∀ a l l' π,O2 a=some (l',π)→fbk l'=some l→O3 a=some (l,π))→bF G G2→bg G2 H2 O3 pd3) :
 RO C ow G2 ρ3 σ H2 pd3 (lf fin fbk O O2):=by
 have keep:∀ a l π,O a=some (l,π)→fin l=none→lf fin fbk O O2 a=some (l,π)∧H2 a=H a:=fun a l π e hn=>by
  have e1:=md (f:=fin) e hn
  obtain ⟨g,⟨xs,hx⟩,_⟩:=ro.og a _ e
  have e2:O2 a=none:=by
   cases q:O2 a with
   | none=>rfl
   | some m =>
    obtain ⟨_,_,q3⟩:=ri.og a m q
    rcases q3 with q3 | ⟨π',q3⟩
    ·change H a=none at q3; rw [hx] at q3; cases q3
    ·change bY fin O a=_ at q3; rw [e1] at q3; cases q3
  constructor
  ·show (match O2 a with | some m=>_ | none=>_)=_
   rw [e2]
   show (match bY fin O a with | some _=>none | none=>O a)=_
   rw [e1]; exact e
  ·rw [ri.fr a _ hx e1 (WrO.nt xs),hx]
 have come:∀ a l l' π,O2 a=some (l',π)→fbk l'=some l→lf fin fbk O O2 a=some (l,π):=fun a l l' π e hb=>by
  show (match O2 a with | some m=>_ | none=>_)=_
  rw [e]
  show (fbk l').map _=_
  rw [hb]; rfl
 have ts:bF G G2:=(az.ts ri.g0)
 refine ⟨hlen,ri.gh,fun a o e=>ri.g0 a o (ro.g0 a o e),?_,?_,ro.cok,?_,ri.ft,fun a e=>ro.al a (ri.al a e),ro.mp,?_,hP _ keep come ts,hnp⟩
 ·intro a o e
  rcases ri.gn a o e with q | q
  ·exact ro.gn a o q
  ·exact .inr (ro.al a q)
 ·intro a m e
  change (match O2 a with | some m=>_ | none=>_)=_ at e
  cases q:O2 a with
  | some m' =>
   rw [q] at e
   change (fbk m'.1).map _=_ at e
   cases q2:fbk m'.1 with
   | none=>rw [q2] at e; cases e
   | some l =>
    rw [q2] at e; cases e
    obtain ⟨g1,g2,g3⟩:=ri.og a m' q
    refine ⟨g1,g2,?_⟩
    rcases g3 with g3 | ⟨π',g3⟩
    ·exact .inl (ro.al a g3)
    ·obtain ⟨l0,g4,g5⟩:=eI g3
     have:=hib _ _ _ g5 q2
     subst this
     exact (ro.og a _ g4).2.2
  | none =>
   rw [q] at e
   change (match bY fin O a with | some _=>none | none=>O a)=_ at e
   cases q2:bY fin O a with
   | some _=>rw [q2] at e; cases e
   | none =>
    rw [q2] at e
    change O a=some m at e
    obtain ⟨g1,⟨xs,g2⟩,g3⟩:=ro.og a m e
    refine ⟨?_,⟨xs,ri.fr a _ g2 q2 (WrO.nt xs)⟩,g3⟩
    cases z:G2 a with
    | none=>rfl
    | some o =>
     rcases ri.gn a o z with z | z
     ·change G a=_ at z; rw [g1] at z; cases z
     ·change H a=_ at z; rw [g2] at z; cases z
 ·intro a o e n t
  have q:=ro.fr a o e n t
  refine ri.fr a o q ?_ t
  show bY fin O a=none
  cases z:bY fin O a with
  | none=>rfl
  | some m =>
   obtain ⟨l',π⟩:=m
   obtain ⟨l,z1,_⟩:=eI z
   obtain ⟨_,_,z3⟩:=ro.og a _ z1
   rcases z3 with z3 | ⟨_,z3⟩
   ·rw [z3] at e; cases e
   ·rw [z3] at n; cases n
 ·intro i d e
  by_cases c:ow[i]? = some true
  ·rcases hO i d c e with ⟨h1,h2⟩ | ⟨k,v,h1,h2,h3,h4,h5⟩
   ·obtain ⟨v,q1,q2⟩:=ro.sl i d h2
    rw [if_pos c] at q2
    exact ⟨v,q1,by rw [if_pos c]; exact q2.keep ts fun a τ q=>keep a _ _ q h1⟩
   ·obtain ⟨v',q1,q2⟩:=ri.sl k d h3
    rw [if_pos h2] at q2
    rw [h5] at q1; cases q1
    exact ⟨v,h4,by rw [if_pos c]; exact q2.keep (fun _ _ z=>z) fun a τ q=>⟨come _ _ _ _ q h1,rfl⟩⟩
  ·obtain ⟨v,q1,q2⟩:=ro.sl i d (hS i d c e)
   rw [if_neg c] at q2
   exact ⟨v,q1,by rw [if_neg c]; exact q2.mono ri.g0⟩
end
def Ret (fr:Bool) (C:Ctx) (ow:List Bool) (G:Hp) (ρ:DSt) (σ:St) (H:Hp) (d:D) (v:V):Prop:=if fr=true then R C ow G ρ σ H [(d,v)] else R C ow G ρ σ H []∧Rep G d v
def mus:List Bool→DSt→DSt
 | true :: bs,x :: ρ=>x :: mus bs ρ
 | false :: bs,_ :: ρ=>mus bs ρ
 | true :: bs,[]=>none :: mus bs []
 | false :: bs,[]=>mus bs []
 | [],_=>[]
def cr {α:Type}:Nat→List (Option α)→List (Option α)
 | 0,_=>[]
 | n + 1,x :: ρ=>x :: cr n ρ
 | n + 1,[]=>none :: cr n []
theorem dt {α:Type}:∀ (n:Nat) (ρ:List (Option α)),(cr n ρ).length=n
 | 0,_=>rfl
 | n + 1,x :: ρ=>by simp [cr,dt n ρ]
 | n + 1,[]=>by simp [cr,dt n []]
theorem dh:∀ (mu:List Bool) (ρ:DSt),mus mu (cr mu.length ρ)=mus mu ρ
 | [],_=>by simp [mus]
 | true :: bs,x :: ρ=>by simp [cr,mus,dh bs ρ]
 | false :: bs,x :: ρ=>by simp [cr,mus,dh bs ρ]
 | true :: bs,[]=>by simp [cr,mus,dh bs []]
 | false :: bs,[]=>by simp [cr,mus,dh bs []]
theorem jq {α:Type}:∀ {n:Nat} {ρ:List (Option α)} {i:Nat} {d : α},(cr n ρ)[i]? = some (some d)→i<n∧ρ[i]? = some (some d)
 | 0,_,_,_,h=>by simp [cr] at h
 | n + 1,x :: ρ,0,d,h=>by simp [cr] at h; exact ⟨by omega,by simp [h]⟩
 | n + 1,x :: ρ,i + 1,d,h=>by simp only [cr,List.getElem?_cons_succ] at h; obtain ⟨a,b⟩:=jq h; exact ⟨by omega,by simpa using b⟩
 | n + 1,[],0,d,h=>by simp [cr] at h
 | n + 1,[],i + 1,d,h=>by simp only [cr,List.getElem?_cons_succ] at h; obtain ⟨a,b⟩:=jq h; simp at b
theorem jy {α:Type}:∀ {n:Nat} {ρ:List (Option α)} {i:Nat} {d : α},i<n→ρ[i]? = some (some d)→(cr n ρ)[i]? = some (some d)
 | 0,_,_,_,h,_=>by omega
 | n + 1,x :: ρ,0,d,h,e=>by simp at e; simp [cr,e]
 | n + 1,x :: ρ,i + 1,d,h,e=>by simp only [cr,List.getElem?_cons_succ]; exact jy (by omega) (by simpa using e)
 | n + 1,[],i,d,h,e=>by simp at e
abbrev SpD:=List D→(D→DSt→Prop)→Prop
def aQ (mu:List Bool) (fr:Bool) (sd:SpD):Sp:=fun vs H Q _=>∃ (C:Ctx) (G:Hp) (ds:List D) (q:D→DSt→Prop),C.np=0∧C.mu=msV mu vs∧R C mu G (ds.map some) (vs.map some) H []∧sd ds q∧mu.length=ds.length ∧
 ∀ d ρ' σ' v G' H',q d (mus mu ρ')→az G G'→ρ'.length=mu.length→Ret fr C mu G' ρ' σ' H' d v→Q v H'
structure EndsD where
 nx:DSt→Prop
 rt:D→DSt→Prop
 bk:DSt→Prop:=fun _=>False
 ct:DSt→Prop:=fun _=>False
abbrev MS:=EndsD→DSt→Prop
structure Ks (C:Ctx) (ow:List Bool) (fr:Bool) (G:Hp) (n:EndsD) (D:Ends):Prop where
 nx:∀ ρ σ G' H,n.nx ρ→az G G'→R C ow G' ρ σ H []→D.nx σ H
 bk:∀ ρ σ G' H,n.bk ρ→az G G'→R C ow G' ρ σ H []→D.bk σ H
 ct:∀ ρ σ G' H,n.ct ρ→az G G'→R C ow G' ρ σ H []→D.ct σ H
 rt:∀ d ρ σ v G' H,n.rt d ρ→az G G'→Ret fr C ow G' ρ σ H d v→D.rt v H
theorem Ks.mono {C:Ctx} {ow:List Bool} {fr:Bool} {G G1:Hp} {n:EndsD} {D:Ends} (h:Ks C ow fr G n D) (s:az G G1):Ks C ow fr G1 n D :=
 ⟨fun ρ σ G' H a b c=>h.nx ρ σ G' H a (s.trans b) c,fun ρ σ G' H a b c=>h.bk ρ σ G' H a (s.trans b) c,fun ρ σ G' H a b c=>h.ct ρ σ G' H a (s.trans b) c,fun d ρ σ v G' H a b c=>h.rt d ρ σ v G' H a (s.trans b) c⟩
def hZ (C:Ctx) (mu:List Bool):Prop:=∀ (i:Nat) v,C.mu[i]? = some (some v)→mu[i]? = some true
theorem hZ.no {C:Ctx} {mu:List Bool} (h:hZ C mu) {i:Nat} (hi:mu[i]?≠some true):∀ v,C.mu[i]?≠some (some v):=fun v e=>hi (h i v e)
structure Md where
 mu:List Bool
 ow:List Bool
 fr:Bool
def SS (M:Md) (t:TS) (m:MS):Prop:=∀ (C:Ctx) (G:Hp) (ρ:DSt) (σ:St) (H:Hp) (n:EndsD) (D:Ends),hZ C M.mu→C.np=0→R C M.ow G ρ σ H []→m n ρ→Ks C M.ow M.fr G n D→t D σ H
structure QS (X:Cx) (M:Md) (st:Stmt) (m:MS):Prop where
 ex:∃ t,PS X st t∧SS M t m
structure QSs (X:Cx) (M:Md) (st:List Stmt) (m:MS):Prop where
 ex:∃ t,PSs X st t∧SS M t m
section
variable {X:Cx} {M:Md} {a b c e:Expr} {ma mb mc:ME} {mt:MT} {pos pos':Pos} {st:Stmt} {rest:List Stmt} {m m1 m2:MS}
def mSeq (m1 m2:MS):MS:=fun n ρ=>m1 { n with nx:=fun ρ'=>m2 n ρ' } ρ
def mNext:MS:=fun n ρ=>n.nx ρ
theorem aG:QSs X M [] mNext:=⟨_,qA,fun C G ρ σ H n D hm hn r h k=>k.nx ρ σ G H h (az.refl _) r⟩
theorem af (h:QS X M st m):QSs X M [st] m:=by obtain ⟨t,p,s⟩:=h; exact ⟨_,qw p,s⟩
theorem ad (h:QS X M st m1) (h2:QSs X M rest m2):QSs X M (st :: rest) (mSeq m1 m2):=by
 obtain ⟨t,p,s⟩:=h; obtain ⟨t2,p2,s2⟩:=h2
 refine ⟨_,km p p2,fun C G ρ σ H n D hm hn r h k=>s C G ρ σ H _ _ hm hn r h ?_⟩
 exact ⟨fun ρ' σ' G' H' h' z r'=>s2 C G' ρ' σ' H' n D hm hn r' h' (k.mono z),k.bk,k.ct,k.rt⟩
def t9:MS:=fun _ _=>False
theorem bA:QS X M st t9:=⟨_,oJ,fun C G ρ σ H n D hm hn r h k=>h.elim⟩
def mIfS (mt:MT) (m1 m2:MS):MS:=fun n ρ=>mt ρ fun b ρ1=>if b=true then m1 n ρ1 else m2 n ρ1
theorem aY {s1 s2:List Stmt} (h:QT X M.ow c mt) (h1:QSs X M s1 m1) (h2:QSs X M s2 m2):QS X M (.If c s1 s2 pos) (mIfS mt m1 m2):=by
 obtain ⟨t,p,s⟩:=h; obtain ⟨t1,p1,s1⟩:=h1; obtain ⟨t2,p2,s2⟩:=h2
 refine ⟨_,ps_if p p1 p2,fun C G ρ σ H n D hm hn r h k=>s C G ρ σ H [] _ _ r h fun b ρ' G' H' hq z kp r'=>?_⟩
 cases b with
 | true=>rw [if_pos rfl] at hq ⊢; exact s1 C G' ρ' σ H' n D hm hn r' hq (k.mono z)
 | false=>rw [if_neg (by decide)] at hq ⊢; exact s2 C G' ρ' σ H' n D hm hn r' hq (k.mono z)
def mRet (m:ME):MS:=fun n ρ=>m ρ n.rt
theorem aK (h:QE X M.ow e ma) (hf:M.fr=false:=by rfl):QS X M (.Return (some e) pos) (mRet ma):=by
 obtain ⟨t,p,s⟩:=h
 refine ⟨_,nH p,fun C G ρ σ H n D hm hn r h k=>s C G ρ σ H [] _ _ r h fun d ρ' v G' H' hq z kp r' p=>k.rt d ρ' σ v G' H' hq z (by unfold Ret; rw [if_neg (by rw [hf]; decide)]; exact ⟨r',p⟩)⟩
theorem R.non {C:Ctx} {ow:List Bool} {fr:Bool} {G:Hp} {ρ:DSt} {σ:St} {H:Hp} (r:R C ow G ρ σ H []):Ret fr C ow G ρ σ H .non .non:=by
 unfold Ret
 split
 ·obtain ⟨O,r⟩:=r
  exact ⟨O,r.len,r.gh,r.g0,r.gn,r.og,r.cok,r.fr,r.ft,r.al,r.mp,r.sl,⟨by rw [Sep],trivial⟩,Nat.le_succ_of_le r.np⟩
 ·exact ⟨r,l6⟩
def mT (i:Nat) (m:ME):MS:=fun n ρ=>m ρ fun d ρ1=>n.nx (ρ1.set i (some d))
theorem nU {t:TE} {i:Nat} (s:SE M.ow t ma) (ho:M.ow[i]?≠some true) (hu:M.mu[i]?≠some true):SS M (p5 t (ip i)) (mT i ma):=fun C G ρ σ H n D hm hn r h k =>
 s C G ρ σ H [] _ _ r h fun d ρ' v G' H' hq z kp r' p=>by
  obtain ⟨O,r'⟩:=r'
  exact k.nx _ _ G' H' hq z ⟨O,r'.setS ho (hm.no hu) p⟩
theorem p9 {t:TE} {i:Nat} (s:SF M.ow t ma) (ho:M.ow[i]? = some true) (hu:M.mu[i]?≠some true):SS M (p5 t (ip i)) (mT i ma):=fun C G ρ σ H n D hm hn r h k =>
 s C G ρ σ H [] _ _ r h fun d ρ' v G' H' hq z kp r'=>by
  obtain ⟨O,r'⟩:=r'
  exact k.nx _ _ G' H' hq z (r'.setO ho (hm.no hu) (by rw [hn]; exact Nat.zero_le _))
theorem aT {i:Nat} {x:Str} (hN:X.N.Nodup) (hi:X.N[i]? = some x) (hx:Loc X.env.scope x) (he:QE X M.ow e ma) (ho:M.ow[i]?≠some true:=by decide) (hu:M.mu[i]?≠some true:=by decide) (hs:swapsWith e (some (.Name x pos')) pos.line X.env=pure false:=by rfl) (hf:X.fn x=true∨X.env.scope.names.lookup x=some .local:=by first | exact .inl rfl | exact .inr rfl | assumption) :
 QS X M (.Assign [.Name x pos'] e pos) (mT i ma):=by
 obtain ⟨t,p,s⟩:=he
 exact ⟨_,kP hN hi hx p hs hf,nU s ho hu⟩
theorem cR {i:Nat} {x:Str} (hN:X.N.Nodup) (hi:X.N[i]? = some x) (hx:Loc X.env.scope x) (he:QF X M.ow e ma) (ho:M.ow[i]? = some true:=by decide) (hu:M.mu[i]?≠some true:=by decide) (hs:swapsWith e (some (.Name x pos')) pos.line X.env=pure false:=by rfl) (hf:X.fn x=true∨X.env.scope.names.lookup x=some .local:=by first | exact .inl rfl | exact .inr rfl | assumption) :
 QS X M (.Assign [.Name x pos'] e pos) (mT i ma):=by
 obtain ⟨t,p,s⟩:=he
 exact ⟨_,kP hN hi hx p hs hf,p9 s ho hu⟩
def mPar (i j:Nat) (ma mb:ME):MS:=fun n ρ=>ma ρ fun x ρ1=>mb ρ1 fun y ρ2=>n.nx ((ρ2.set i (some x)).set j (some y))
theorem sT {i j:Nat} {x y:Str} {px py pt:Pos} {kt k2 pt2} (hc:X.calm=true) (hN:X.N.Nodup) (hi:X.N[i]? = some x) (hj:X.N[j]? = some y) (hij:i≠j)
 (hx:X.env.scope.names.lookup x=some .local) (hy:X.env.scope.names.lookup y=some .local) (ha:QE X M.ow a ma) (hb:QE X M.ow b mb)
 (hw:swappedStores [.Tuple [.Name x px,.Name y py] kt pt] (.Tuple [a,b] k2 pt2) X.env=pure (some [x,y]))
 (oi:M.ow[i]?≠some true:=by decide) (oj:M.ow[j]?≠some true:=by decide) (ui:M.mu[i]?≠some true:=by decide) (uj:M.mu[j]?≠some true:=by decide)
 (hs1:starEach [a,b] X.env=(false,eval a X.env) :: starEach [b] X.env:=by rfl) (hs2:starEach [b] X.env=[(false,eval b X.env)]:=by rfl)
 (hs:swapsWithSole [.Tuple [.Name x px,.Name y py] kt pt] (.Tuple [a,b] k2 pt2) pos.line X.env=pure false:=by rfl) :
 QS X M (.Assign [.Tuple [.Name x px,.Name y py] kt pt] (.Tuple [a,b] k2 pt2) pos) (mPar i j ma mb):=by
 obtain ⟨ta,pa,sa⟩:=ha; obtain ⟨tb,pb,sb⟩:=hb
 refine ⟨_,tJ hc hN hi hj hij hx hy (a7 pa (a7 pb dS hs2) hs1) hw hs,fun C G ρ σ H n D hm hn r h k=>?_⟩
 refine jh (Q:=fun u w H2=>∃ v w',[u,w]=[v,w']∧D.nx ((σ.set i (some v)).set j (some w')) H2) sa sb r h fun dx dy ρ' u w G' H' hq z kp r' p1 p2=>⟨u,w,rfl,?_⟩
 obtain ⟨O,r'⟩:=r'
 exact k.nx _ _ G' H' hq z ⟨O,(r'.setS oi (hm.no ui) p1).setS oj (hm.no uj) p2⟩
abbrev MG:=D→DSt→(DSt→Prop)→Prop
abbrev MGs:=List D→DSt→(DSt→Prop)→Prop
def SG (M:Md) (g:TG) (m:MG):Prop:=∀ (C:Ctx) (G:Hp) (ρ:DSt) (σ:St) (H:Hp) (pd:List (D×V)) (d:D) (v:V) (k:DSt→Prop) (K:St→Hp→Prop),hZ C M.mu→R C M.ow G ρ σ H pd→Rep G d v→m d ρ k →
 (∀ ρ' σ',k ρ'→R C M.ow G ρ' σ' H pd→K σ' H)→g v σ H K
def SGs (M:Md) (g:TGs) (m:MGs):Prop:=∀ (C:Ctx) (G:Hp) (ρ:DSt) (σ:St) (H:Hp) (pd:List (D×V)) (d:List D) (v:List V) (k:DSt→Prop) (K:St→Hp→Prop),hZ C M.mu→R C M.ow G ρ σ H pd→Reps G d v→m d ρ k →
 (∀ ρ' σ',k ρ'→R C M.ow G ρ' σ' H pd→K σ' H)→g v σ H K
structure QG (X:Cx) (M:Md) (e:Expr) (m:MG):Prop where
 ex:∃ t,PG X e t∧SG M t m
structure QGs (X:Cx) (M:Md) (e:List Expr) (m:MGs):Prop where
 ex:∃ t,PGs X e t∧SGs M t m
def ga (i:Nat):MG:=fun d ρ k=>k (ρ.set i (some d))
theorem aH {i:Nat} {x:Str} (hN:X.N.Nodup) (hi:X.N[i]? = some x) (hx:Loc X.env.scope x) (ho:M.ow[i]?≠some true:=by decide) (hu:M.mu[i]?≠some true:=by decide) (hf:X.fn x=true∨X.env.scope.names.lookup x=some .local:=by first | exact .inl rfl | exact .inr rfl | assumption):QG X M (.Name x pos) (ga i) :=
 ⟨_,a9 hN hi hx hf,fun C G ρ σ H pd d v k K hm r p h kk=>by obtain ⟨O,r⟩:=r; exact kk _ _ h ⟨O,r.setS ho (hm.no hu) p⟩⟩
def lI:MGs:=fun ds ρ k=>match ds with
 | []=>k ρ
 | _=>False
def h_ (t:MG) (u:MGs):MGs:=fun ds ρ k=>match ds with
 | d :: ds=>t d ρ fun ρ1=>u ds ρ1 k
 | []=>False
def oH (t:MGs):MG:=fun d ρ k=>match d with
 | .tup ds=>t ds ρ k
 | _=>False
variable {mg:MG} {mgs:MGs} {es:List Expr}
theorem cb:QGs X M [] lI:=⟨_,gR,fun C G ρ σ H pd d v k K hm r p h kk=>by
 cases d with
 | nil=>rw [Reps] at p; exact ⟨p,kk _ _ h r⟩
 | cons _ _=>exact h.elim⟩
theorem aJ (h1:QG X M e mg) (h2:QGs X M es mgs) (hs:(assignEach (e :: es) X.env).map (·.2)=assign e X.env :: (assignEach es X.env).map (·.2):=by rfl):QGs X M (e :: es) (h_ mg mgs):=by
 obtain ⟨t,p,s⟩:=h1; obtain ⟨t2,p2,s2⟩:=h2
 refine ⟨_,cp p p2 hs,fun C G ρ σ H pd d v k K hm r p h kk=>?_⟩
 cases d with
 | nil=>exact h.elim
 | cons d ds =>
  rw [Reps] at p
  obtain ⟨v,vs,rfl,p1,p3⟩:=p
  exact ⟨v,vs,rfl,s C G ρ σ H pd d v _ _ hm r p1 h fun ρ' σ' h' r'=>s2 C G ρ' σ' H pd ds vs k K hm r' p3 h' kk⟩
def iG (n:Nat) (m:MGs):Prop:=∀ ds ρ k,m ds ρ k→ds.length=n
theorem ba:iG 0 lI:=fun ds ρ k h=>by cases ds with | nil=>rfl | cons _ _=>exact h.elim
theorem aq {n:Nat} {i:Nat} (h:iG n mgs):iG (n + 1) (h_ (ga i) mgs):=fun ds ρ k q=>by
 cases ds with
 | nil=>exact q.elim
 | cons d ds=>simp [h ds _ _ q]
theorem cW {kk:Nat} {n:Nat} (hc:X.calm=true) (h:QGs X M es mgs) (ht:iG n mgs)
 (hn:(assignEach es X.env).length=n:=by rfl) (hst:(assignEach es X.env).findIdx? (·.1)=none:=by rfl):QG X M (.Tuple es kk pos) (oH mgs):=by
 obtain ⟨t,p,s⟩:=h
 refine ⟨_,jC hc p hn hst,fun C G ρ σ H pd d v k K hm r p h kk=>?_⟩
 cases d with
 | tup ds =>
  obtain ⟨a,xs,rfl,h1,h2⟩:=dD p
  exact ⟨a,xs,rfl,SqT.of (r.gh _ _ h1),by rw [h2.length]; exact ht _ _ _ h,s C G ρ σ H pd ds xs k K hm r h2 h kk⟩
 | _=>exact h.elim
def mAsg (m:ME) (g:MG):MS:=fun n ρ=>m ρ fun d ρ1=>g d ρ1 n.nx
theorem gk {tg:Expr} (he:QE X M.ow e ma) (hg:QG X M tg mg) (hs:swapsWithSole [tg] e pos.line X.env=pure false:=by rfl) (hw:swappedStores [tg] e X.env=pure none:=by rfl)
 (h1:(assignEach [tg] X.env).map (·.2)=[assign tg X.env]:=by rfl):QS X M (.Assign [tg] e pos) (mAsg ma mg):=by
 obtain ⟨t,p,s⟩:=he; obtain ⟨t2,p2,s2⟩:=hg
 refine ⟨_,jG p p2 hs hw h1,fun C G ρ σ H n D hm hn r h k=>s C G ρ σ H [] _ _ r h fun d ρ' v G' H' hq z kp r' p=>?_⟩
 exact s2 C G' ρ' σ H' [] d v _ _ hm r' p hq fun ρ2 σ2 h2 r2=>k.nx ρ2 σ2 G' H' h2 z r2
def mDrop (m:ME):MS:=fun n ρ=>m ρ fun _ ρ1=>n.nx ρ1
theorem cV (he:QE X M.ow e ma) (hs:swapsWith e none pos.line X.env=pure false:=by rfl):QS X M (.Expr e pos) (mDrop ma):=by
 obtain ⟨t,p,s⟩:=he
 exact ⟨_,gO p hs,fun C G ρ σ H n D hm hn r h k=>s C G ρ σ H [] _ _ r h fun d ρ' v G' H' hq z kp r' p=>k.nx ρ' σ G' H' hq z r'⟩
def lL (i:Nat) (m:ME):MS:=fun n ρ=>match ρ[i]? with
 | some (some (.lst _))=>m ρ fun d ρ1=>match ρ1[i]? with
  | some (some (.lst ds))=>ds.length<1000∧n.nx (ρ1.set i (some (.lst (ds++[d]))))
  | _=>False
 | _=>False
theorem b8 {i:Nat} {x:Str} {apos cpos npos:Pos} (hN:X.N[i]? = some x) (he:QF X M.ow e ma) (ho:M.ow[i]? = some true:=by decide)
 (hv:Vis X.env.scope x:=by first | exact Or.inl rfl | exact Or.inr (Or.inl rfl) | exact Or.inr (Or.inr rfl)) (hd:(x == ("__debug__":Str))=false:=by decide) (hcd:(x == ("__classdict__":Str))=false:=by decide)
 (hbase:attributeBase (.Name x npos) "append" X.env (eval (.Name x npos) X.env)=eval (.Name x npos) X.env:=by rfl)
 (hfew:((backTo cpos (starEach [e] X.env)).all (fun x=>!x.1)&&(backToKw cpos (keywordEach [] X.env)).all (fun x=>x.1.isSome)
  && decide ([e].length + ([]:List Keyword).length + (if ([]:List Keyword).isEmpty then 0 else 1)<30))=true:=by rfl)
 (hline:(apos.endLine == cpos.line)=true:=by rfl) (hst:starEach [e] X.env=[(false,eval e X.env)]:=by rfl)
 (hs:swapsWith (.Call (.Attribute (.Name x npos) "append" apos) [e] [] cpos) none pos.line X.env=pure false:=by rfl) :
 QS X M (.Expr (.Call (.Attribute (.Name x npos) "append" apos) [e] [] cpos) pos) (lL i ma):=by
 obtain ⟨t,p,s⟩:=he
 refine ⟨_,gO (rD PySem.F.plainAttrs_list PySem.F.slot_list_append PySem.F.type_list_append iF (bB hN hv hd hcd) (a7 p dS hst) hbase hfew hline hst (by rfl)) hs,fun C G ρ σ H n D hm hn r h k=>?_⟩
 unfold lL at h
 split at h
 ·rename_i ds e1
  obtain ⟨O,ro⟩:=r
  obtain ⟨a,xs,h1,h2,_,_⟩:=ro.write e1 ho
  refine ⟨.ref a,h1,.inl ⟨rfl,xs,SqL.of h2⟩,?_⟩
  refine s C G ρ σ H [] _ _ ⟨O,ro⟩ h fun d ρ' v G' H' hq z kp r'=>?_
  split at hq
  ·rename_i ds' e2
   obtain ⟨O',r'⟩:=r'
   obtain ⟨O2,r2,s2,s3⟩:=r'.join i ds'.length (by rw [hn]; exact Nat.zero_le _)
   obtain ⟨a',xs',g1,g2,g3,g4⟩:=r2.write e2 ho
   rw [h1] at g1; cases g1
   have hl:=g3.length
   refine ⟨a,xs',v,rfl,rfl,g2,by rw [hl]; exact cB (Nat.le_of_lt hq.1),?_⟩
   exact k.nx _ _ G' _ hq.2 z ⟨O2,g4 _ _ (g3.snoc (by simpa using s2))⟩
  ·exact hq.elim
 ·exact h.elim
def mSetI (i:Nat) (mk m:ME):MS:=fun n ρ=>m ρ fun d ρ1=>match ρ1[i]? with
 | some (some (.lst _))=>mk ρ1 fun k ρ2=>match ρ2[i]? with
  | some (some (.lst ds))=>match k with
   | .int j=>match ixN ds.length j with
    | some p=>n.nx (ρ2.set i (some (.lst (ds.set p d))))
    | none=>False
   | _=>False
  | _=>False
 | _=>False
theorem jp {i:Nat} {x:Str} {npos spos:Pos} (hN:X.N[i]? = some x) (he:QF X M.ow e ma) (hk:QE X M.ow b mb) (ho:M.ow[i]? = some true:=by decide)
 (hv:Vis X.env.scope x:=by first | exact Or.inl rfl | exact Or.inr (Or.inl rfl) | exact Or.inr (Or.inr rfl)) (hd:(x == ("__debug__":Str))=false:=by decide) (hcd:(x == ("__classdict__":Str))=false:=by decide)
 (ha:∀ v,assign (.Subscript (.Name x npos) b spos) X.env v=(do
  let ov ← holding [v] (eval (.Name x npos) X.env)
  let iv ← holding [v,ov] (eval b X.env)
  standAt spos
  holding [v,ov,iv] (setItem ov iv v)
  release [v,ov,iv] []):=by intro _; rfl)
 (hs:swapsWithSole [.Subscript (.Name x npos) b spos] e pos.line X.env=pure false:=by rfl) (hw:swappedStores [.Subscript (.Name x npos) b spos] e X.env=pure none:=by rfl)
 (h1:(assignEach [.Subscript (.Name x npos) b spos] X.env).map (·.2)=[assign (.Subscript (.Name x npos) b spos) X.env]:=by rfl) :
 QS X M (.Assign [.Subscript (.Name x npos) b spos] e pos) (mSetI i mb ma):=by
 obtain ⟨t,p,s⟩:=he; obtain ⟨t2,p2,s2⟩:=hk
 refine ⟨_,jG p (uz (bB hN hv hd hcd) p2 jW ha) hs hw h1,fun C G ρ σ H n D hm hn r h k=>s C G ρ σ H [] _ _ r h fun d ρ' v G' H' hq z kp r'=>?_⟩
 split at hq
 ·rename_i ds0 e0
  obtain ⟨O0,ro⟩:=r'
  obtain ⟨a,xs,hu,_,_,_⟩:=ro.write e0 ho
  refine ⟨.ref a,hu,?_⟩
  refine s2 C G' ρ' σ H' _ _ _ ⟨O0,ro⟩ hq fun dk ρ2 jv G2 H2 hq2 z2 kp2 r2 pj=>?_
  split at hq2
  ·rename_i ds e2
   cases dk with
   | int j =>
    dsimp only at hq2
    split at hq2
    ·rename_i pl e3
     obtain ⟨O',r2⟩:=r2
     obtain ⟨O2,r3,w2,w3⟩:=r2.join i pl (by rw [hn]; exact Nat.zero_le _)
     obtain ⟨a',xs',g1,g2,g3,g4⟩:=r3.write e2 ho
     rw [hu] at g1; cases g1
     refine ⟨a,xs',j,pl,rfl,aA pj,g2,by rw [g3.length]; exact e3,?_⟩
     exact k.nx _ _ G2 _ hq2 (z.trans z2) ⟨O2,g4 _ _ (g3.set (by simpa using w2))⟩
    ·exact hq2.elim
   | _=>exact hq2.elim
  ·exact hq2.elim
 ·exact hq.elim
def tH (mt:MT) (mb:MS):MS:=fun n ρ=>∃ W:Nat→DSt→Prop,(∃ k,W k ρ)∧∀ k ρ,W k ρ→mt ρ fun b ρ1 =>
 if b=true then mb { n with nx:=fun ρ'=>∃ k',k'<k∧W k' ρ',ct:=fun ρ'=>∃ k',k'<k∧W k' ρ',bk:=n.nx } ρ1 else n.nx ρ1
theorem jL {body:List Stmt} (hp:PassesOwn (model X.prog X.w) X.A X.env X.xe) (hc:QT X M.ow c mt) (hb:QSs X M body m):QS X M (.While c body [] pos) (tH mt m):=by
 obtain ⟨t,p,s⟩:=hc; obtain ⟨t2,p2,s2⟩:=hb
 refine ⟨_,pS hp p p2,fun C G ρ σ H n D hm hn r h k=>?_⟩
 obtain ⟨W,⟨k0,w0⟩,turn⟩:=h
 refine ⟨fun j σ' H'=>∃ G' ρ',az G G'∧R C M.ow G' ρ' σ' H' []∧W j ρ',⟨k0,G,ρ,az.refl _,r,w0⟩,?_⟩
 rintro j σ' H' ⟨G',ρ',z,r',w⟩
 refine s C G' ρ' σ' H' [] _ _ r' (turn j ρ' w) fun b ρ1 G1 H1 hq z1 kp r1=>?_
 cases b with
 | true =>
  rw [if_pos rfl] at hq ⊢
  refine ⟨fun σ2 H2=>∃ j',j'<j∧∃ G2 ρ2,az G G2∧R C M.ow G2 ρ2 σ2 H2 []∧W j' ρ2,fun σ2 H2 h=>h,?_⟩
  refine s2 C G1 ρ1 σ' H1 _ _ hm hn r1 hq ⟨?_,?_,?_,?_⟩
  ·rintro ρ2 σ2 G2 H2 ⟨j',hj,w'⟩ z2 r2; exact ⟨j',hj,G2,ρ2,z.trans (z1.trans z2),r2,w'⟩
  ·intro ρ2 σ2 G2 H2 h z2 r2; exact k.nx ρ2 σ2 G2 H2 h (z.trans (z1.trans z2)) r2
  ·rintro ρ2 σ2 G2 H2 ⟨j',hj,w'⟩ z2 r2; exact ⟨j',hj,G2,ρ2,z.trans (z1.trans z2),r2,w'⟩
  ·intro d ρ2 σ2 v G2 H2 h z2 r2; exact k.rt d ρ2 σ2 v G2 H2 h (z.trans (z1.trans z2)) r2
 | false=>rw [if_neg (by decide)] at hq ⊢; exact k.nx ρ1 σ' G1 H1 hq (z.trans z1) r1
def kX (J:It) (G:Hp) (ds:List D):Prop:=∀ (C:Ctx) (ow:List Bool) (G':Hp) (ρ:DSt) (σ:St) (H:Hp) (pd:List (D×V)) (i:Nat),az G G'→R C ow G' ρ σ H pd →
 (ds.length≤i→J.stop i H)∧∀ d,ds[i]? = some d→J.go i H∧∀ x H',J.yld i H x H'→∃ G2,az G' G2∧R C ow G2 ρ σ H' pd∧Rep G2 d x
def SI (ow:List Bool) (wi:TI) (mi:MA):Prop:=∀ (C:Ctx) (G:Hp) (ρ:DSt) (σ:St) (H:Hp) (pd:List (D×V)) (q:List D→DSt→Prop) (Q:It→Hp→Prop),R C ow G ρ σ H pd→mi ρ q →
 (∀ ds ρ' G' H' J,q ds ρ'→az G G'→Kp ow ρ ρ'→R C ow G' ρ' σ H' pd→kX J G' ds→Q J H')→wi σ H Q
structure QI (X:Cx) (ow:List Bool) (tg iter:Expr) (mi:MA):Prop where
 ex:∃ t,PI X tg iter t∧SI ow t mi
def forD (g:MG) (mb:MS) (n:EndsD) (ds:List D) (ρ:DSt):Prop:=∃ I:Nat→DSt→Prop,I 0 ρ ∧
 (∀ i d ρ,ds[i]? = some d→I i ρ→g d ρ fun ρ1=>mb { n with nx:=I (i + 1),ct:=I (i + 1),bk:=n.nx } ρ1)∧∀ ρ,I ds.length ρ→n.nx ρ
def mFor (mi:MA) (g:MG) (mb:MS):MS:=fun n ρ=>mi ρ fun ds ρ1=>forD g mb n ds ρ1
theorem cF {mi:MA} {tg iter:Expr} {body:List Stmt} (hp:PassesOwn (model X.prog X.w) X.A X.env X.xe) (hc:X.calm=true) (hi:QI X M.ow tg iter mi) (hg:QG X M tg mg) (hb:QSs X M body m)
 (hs:∀ x,foldedSetIterable iter X.env x=pure x:=by intro _; rfl):QS X M (.For tg iter body [] pos) (mFor mi mg m):=by
 obtain ⟨ti,pi,si⟩:=hi; obtain ⟨tg',pg,sg⟩:=hg; obtain ⟨tb,pb,sb⟩:=hb
 refine ⟨_,oB hp hc pi pg pb hs,fun C G ρ σ H n D hm hn r h k=>si C G ρ σ H [] _ _ r h fun ds ρ0 G0 H0 J hq z0 kp r0 jo=>?_⟩
 obtain ⟨I,i0,turn,fin⟩:=hq
 refine ⟨fun i j σ' H'=>j=ds.length - i∧i≤ds.length∧∃ G' ρ',az G0 G'∧R C M.ow G' ρ' σ' H' []∧I i ρ',⟨_,rfl,Nat.zero_le _,G0,ρ0,az.refl _,r0,i0⟩,?_⟩
 rintro i j σ' H' ⟨rfl,hi,G',ρ',z,r',w⟩
 obtain ⟨st,go⟩:=jo C M.ow G' ρ' σ' H' [] i z r'
 by_cases hlt:i<ds.length
 ·obtain ⟨g1,g2⟩:=go ds[i] (List.getElem?_eq_getElem hlt)
  refine .inr ⟨g1,fun σ2 H2=>∃ G2 ρ2,az G0 G2∧R C M.ow G2 ρ2 σ2 H2 []∧I (i + 1) ρ2,fun σ2 H2 h=>⟨ds.length - (i + 1),by omega,rfl,hlt,h⟩,fun x H1 hy=>?_⟩
  obtain ⟨G1,z1,r1,p1⟩:=g2 x H1 hy
  refine sg C G1 ρ' σ' H1 [] ds[i] x _ _ hm r1 p1 (turn i ds[i] ρ' (List.getElem?_eq_getElem hlt) w) fun ρ2 σ2 h2 r2=>?_
  refine sb C G1 ρ2 σ2 H1 _ _ hm hn r2 h2 ⟨?_,?_,?_,?_⟩
  ·intro ρ3 σ3 G3 H3 h3 z3 r3; exact ⟨G3,ρ3,z.trans (z1.trans z3),r3,h3⟩
  ·intro ρ3 σ3 G3 H3 h3 z3 r3; exact k.nx ρ3 σ3 G3 H3 h3 (z0.trans (z.trans (z1.trans z3))) r3
  ·intro ρ3 σ3 G3 H3 h3 z3 r3; exact ⟨G3,ρ3,z.trans (z1.trans z3),r3,h3⟩
  ·intro d ρ3 σ3 v G3 H3 h3 z3 r3; exact k.rt d ρ3 σ3 v G3 H3 h3 (z0.trans (z.trans (z1.trans z3))) r3
 ·have e:i=ds.length:=by omega
  subst e
  exact .inl ⟨st (Nat.le_refl _),k.nx ρ' σ' G' H' (fin ρ' w) (z0.trans z) r'⟩
end
section
variable {X:Cx} {ow:List Bool} {a b c e tg:Expr} {ma mb mc:ME} {pos:Pos} {mr:MA} {es:List Expr}
theorem tL {K:PySem.W.Frag} {G:Hp} {p:Addr} {xs:List V} {ds:List D} (h1:G p=some (.lst xs)) (h2:Reps G ds xs):kX (Itl K p) G ds:=fun C ow G' ρ σ H pd i z r=>by
 have hp:=r.gh _ _ (z _ _ h1)
 refine ⟨fun hl=>⟨xs,SqL.of hp,by rw [h2.length]; exact hl⟩,fun d e=>?_⟩
 obtain ⟨v,e1,e2⟩:=dc h2 e
 refine ⟨⟨xs,v,SqL.of hp,e1⟩,fun x H' hy=>?_⟩
 obtain ⟨rfl,hy⟩:=hy
 have:=hy xs (SqL.of hp)
 rw [e1] at this; cases this
 exact ⟨G',az.refl _,r,Rep.mono z _ _ e2⟩
def miLst (m:ME):MA:=fun ρ q=>m ρ fun d ρ'=>match d with
 | .lst ds=>q ds ρ'
 | _=>False
theorem bS (h:QE X ow e ma):QI X ow tg e (miLst ma):=by
 obtain ⟨t,p,s⟩:=h
 refine ⟨_,l5 p,fun C G ρ σ H pd q Q r hm k=>s C G ρ σ H pd _ _ r hm fun d ρ' v G' H' hq z kp r' p=>?_⟩
 cases d with
 | lst ds=>obtain ⟨a,xs,rfl,h1,h2⟩:=bh p; exact ⟨a,rfl,⟨xs,SqL.of (r'.gh _ _ h1)⟩,k ds ρ' G' H' _ hq z kp r' (tL h1 h2)⟩
 | _=>exact hq.elim
def ko (lo:Int) (n:Nat):List D:=(List.range n).map fun (i:Nat)=>.int (lo + i)
theorem fK {lo:Int} {n i:Nat} {d:D} (h:(ko lo n)[i]? = some d):i<n∧d = .int (lo + i):=by
 unfold ko at h
 rw [List.getElem?_map] at h
 by_cases c:i<n
 ·rw [List.getElem?_range c] at h; exact ⟨c,(Option.some.inj h).symm⟩
 ·rw [List.getElem?_eq_none (by simp; omega)] at h; cases h
theorem eg (lo:Int) (n:Nat):(ko lo n).length=n:=by unfold ko; simp
theorem oC {G:Hp} {lo:Int} {n:Nat}:kX (Itr lo n) G (ko lo n):=fun C ow G' ρ σ H pd i z r=>by
 refine ⟨fun hl=>by rw [eg] at hl; exact hl,fun d e=>?_⟩
 obtain ⟨h1,rfl⟩:=fK e
 refine ⟨h1,fun x H' hy=>?_⟩
 obtain ⟨rfl,rfl⟩:=hy
 exact ⟨G',az.refl _,r,bi _⟩
def miR1 (m:MA):MA:=fun ρ q=>m ρ fun ds ρ'=>match ds with
 | [.int j]=>(-(2 ^ 62)≤j∧j<2 ^ 62)∧q (ko 0 j.toNat) ρ'
 | _=>False
def miR2 (m:MA):MA:=fun ρ q=>m ρ fun ds ρ'=>match ds with
 | [.int i,.int j]=>(-(2 ^ 62)≤i∧i<2 ^ 62∧-(2 ^ 62)≤j∧j<2 ^ 62)∧q (ko i (j - i).toNat) ρ'
 | _=>False
theorem gf {p:Pos} (hg:Gl X "range") (hm:X.mg "range" = none) (ha:QA X ow [a] mr) (hs:starEach [a] X.env=[(false,eval a X.env)]:=by rfl):QI X ow tg (.Call (.Name "range" p) [a] [] pos) (miR1 mr):=by
 obtain ⟨t,p,s⟩:=ha
 refine ⟨_,m7 hg hm p hs,fun C G ρ σ H pd q Q r hm k=>s C G ρ σ H pd _ _ r hm fun ds ρ' vs G' H' hq z kp r' p hn=>?_⟩
 split at hq
 ·obtain ⟨v,rfl,p1⟩:=bj p
  rw [aA p1]
  exact ⟨_,rfl,hq.1.1,hq.1.2,k _ ρ' G' H' _ hq.2 z kp r' oC⟩
 ·exact hq.elim
theorem i3 {p:Pos} (hg:Gl X "range") (hm:X.mg "range" = none) (ha:QA X ow [a,b] mr) (hs:starEach [a,b] X.env=[(false,eval a X.env),(false,eval b X.env)]:=by rfl) (hs2:starEach [b] X.env=[(false,eval b X.env)]:=by rfl):QI X ow tg (.Call (.Name "range" p) [a,b] [] pos) (miR2 mr):=by
 obtain ⟨t,p,s⟩:=ha
 refine ⟨_,mK hg hm p hs hs2,fun C G ρ σ H pd q Q r hm k=>s C G ρ σ H pd _ _ r hm fun ds ρ' vs G' H' hq z kp r' p hn=>?_⟩
 split at hq
 ·obtain ⟨v,u,rfl,p1,p2⟩:=dj p
  rw [aA p1,aA p2]
  exact ⟨_,_,rfl,hq.1,k _ ρ' G' H' _ hq.2 z kp r' oC⟩
 ·exact hq.elim
def mH (ds:List D):List D:=ds.mapIdx fun i d=>.tup [.int i,d]
theorem oT (ds:List D):(mH ds).length=ds.length:=by unfold mH; simp
theorem fP {ds:List D} {i:Nat} {d:D} (h:(mH ds)[i]? = some d):∃ d',ds[i]? = some d'∧d = .tup [.int i,d']:=by
 unfold mH at h
 rw [List.getElem?_mapIdx] at h
 cases e:ds[i]? with
 | none=>rw [e] at h; cases h
 | some d'=>rw [e] at h; exact ⟨d',rfl,(Option.some.inj h).symm⟩
theorem uv {G:Hp} {p:Addr} {xs:List V} {ds:List D} (h1:G p=some (.lst xs)) (h2:Reps G ds xs):kX (Ite p) G (mH ds):=fun C ow G' ρ σ H pd i z r=>by
 have hp:=r.gh _ _ (z _ _ h1)
 refine ⟨fun hl=>⟨xs,hp,by rw [h2.length]; rw [oT] at hl; exact hl⟩,fun d e=>?_⟩
 obtain ⟨d',e0,rfl⟩:=fP e
 obtain ⟨v,e1,e2⟩:=dc h2 e0
 refine ⟨⟨xs,v,hp,e1⟩,fun x H' hy=>?_⟩
 obtain ⟨a,x',ha,rfl,rfl,hy⟩:=hy
 have:=hy xs hp
 rw [e1] at this; cases this
 obtain ⟨O,r⟩:=r
 obtain ⟨r2,s2⟩:=r.new ha (.tup [.int i,v])
 exact ⟨_,s2,⟨O,r2⟩,ji ax (bn (bi _) (bn (Rep.mono (z.trans s2) _ _ e2) bK))⟩
def miEnu (m:MA):MA:=fun ρ q=>m ρ fun ds ρ'=>match ds with
 | [.lst ds]=>q (mH ds) ρ'
 | _=>False
theorem gX {k:Nat} {tpos p:Pos} (hg:Gl X "enumerate") (hm:X.mg "enumerate" = none) (ha:QA X ow [a] mr) (hs:starEach [a] X.env=[(false,eval a X.env)]:=by rfl):QI X ow (.Tuple es k tpos) (.Call (.Name "enumerate" p) [a] [] pos) (miEnu mr):=by
 obtain ⟨t,p,s⟩:=ha
 refine ⟨_,qr hg hm p hs,fun C G ρ σ H pd q Q r hm k=>s C G ρ σ H pd _ _ r hm fun ds ρ' vs G' H' hq z kp r' p hn=>?_⟩
 split at hq
 ·obtain ⟨v,rfl,p1⟩:=bj p
  obtain ⟨a,xs,rfl,h1,h2⟩:=bh p1
  exact ⟨a,rfl,⟨xs,r'.gh _ _ h1⟩,k _ ρ' G' H' _ hq z kp r' (uv h1 h2)⟩
 ·exact hq.elim
def rN (i:Nat):ME:=fun ρ q=>match ρ[i]? with
 | some (some d)=>q d (ρ.set i none)
 | _=>False
end
inductive AK where
 | s | m (i:Nat) | t
def AK.isM:AK→Bool
 | .s=>false
 | _=>true
def eT (G:Hp) (σ:St):List AK→List D→List V→List (D×V)→Prop
 | [],[],[],[]=>True
 | .s :: ks,d :: ds,v :: vs,T=>Rep G d v∧eT G σ ks ds vs T
 | .m i :: ks,_ :: ds,v :: vs,T=>σ[i]? = some (some v)∧eT G σ ks ds vs T
 | .t :: ks,d :: ds,v :: vs,x :: T=>x=(d,v)∧eT G σ ks ds vs T
 | _,_,_,_=>False
def SAk (ow:List Bool) (ks:List AK) (t:TA) (m:MA):Prop:=∀ (C:Ctx) (G:Hp) (ρ:DSt) (σ:St) (H:Hp) (pd:List (D×V)) (q:List D→DSt→Prop) (Q:List V→Hp→Prop),R C ow G ρ σ H pd→m ρ q →
 (∀ ds ρ' vs T G' H',q ds ρ'→az G G'→Kp ow ρ ρ'→R C ow G' ρ' σ H' (T.reverse++pd)→eT G' σ ks ds vs T→Q vs H')→t σ H Q
structure QAk (X:Cx) (ow:List Bool) (ks:List AK) (es:List Expr) (m:MA):Prop where
 ex:∃ t,PA X es t∧SAk ow ks t m
section
variable {X:Cx} {ow:List Bool} {a b c e tg:Expr} {ma mb mc:ME} {pos:Pos} {mr:MA} {es:List Expr} {ks:List AK}
theorem ao:QAk X ow [] [] lv:=⟨_,dS,fun C G ρ σ H pd q Q r h k=>k [] ρ [] [] G H h (az.refl _) Kp.refl r trivial⟩
theorem ap (ha:QE X ow e ma) (hr:QAk X ow ks es mr) (hs:starEach (e :: es) X.env=(false,eval e X.env) :: starEach es X.env:=by rfl):QAk X ow (.s :: ks) (e :: es) (eS ma mr):=by
 obtain ⟨t,p,s⟩:=ha; obtain ⟨t2,p2,s2⟩:=hr
 refine ⟨_,a7 p p2 hs,fun C G ρ σ H pd q Q r hm k=>s C G ρ σ H pd _ _ r hm fun d ρ' v G' H' hq z kp r' p=>?_⟩
 exact s2 C G' ρ' σ H' pd _ _ r' hq fun ds ρ2 vs T G2 H2 hq2 z2 kp2 r2 p2=>k (d :: ds) ρ2 (v :: vs) T G2 H2 hq2 (z.trans z2) (kp.trans kp2) r2 ⟨Rep.mono z2 _ _ p,p2⟩
theorem qk_t (ha:QF X ow e ma) (hr:QAk X ow ks es mr) (hs:starEach (e :: es) X.env=(false,eval e X.env) :: starEach es X.env:=by rfl):QAk X ow (.t :: ks) (e :: es) (eS ma mr):=by
 obtain ⟨t,p,s⟩:=ha; obtain ⟨t2,p2,s2⟩:=hr
 refine ⟨_,a7 p p2 hs,fun C G ρ σ H pd q Q r hm k=>s C G ρ σ H pd _ _ r hm fun d ρ' v G' H' hq z kp r'=>?_⟩
 exact s2 C G' ρ' σ H' _ _ _ r' hq fun ds ρ2 vs T G2 H2 hq2 z2 kp2 r2 p2=>k (d :: ds) ρ2 (v :: vs) ((d,v) :: T) G2 H2 hq2 (z.trans z2) (kp.trans kp2) (by simpa using r2) ⟨rfl,p2⟩
def pf (i:Nat) (r:MA):MA:=fun ρ q=>match ρ[i]? with
 | some (some _)=>r ρ fun ds ρ2=>q (.non :: ds) ρ2
 | _=>False
theorem dF (i:Nat) {x:Str} (hr:QAk X ow ks es mr) (hN:X.N[i]? = some x:=by rfl) (hv:Vis X.env.scope x:=by first | exact Or.inl rfl | exact Or.inr (Or.inl rfl) | exact Or.inr (Or.inr rfl)) (hd:(x == ("__debug__":Str))=false:=by decide)
 (hcd:(x == ("__classdict__":Str))=false:=by decide) (hs:starEach (.Name x pos :: es) X.env=(false,eval (.Name x pos) X.env) :: starEach es X.env:=by rfl):QAk X ow (.m i :: ks) (.Name x pos :: es) (pf i mr):=by
 obtain ⟨t2,p2,s2⟩:=hr
 refine ⟨_,a7 (bB hN hv hd hcd) p2 hs,fun C G ρ σ H pd q Q r hm k=>?_⟩
 unfold pf at hm
 split at hm
 ·rename_i d e
  obtain ⟨O,ro⟩:=r
  obtain ⟨v,h1,_⟩:=ro.sl i d e
  exact ⟨v,h1,s2 C G ρ σ H pd _ _ ⟨O,ro⟩ hm fun ds ρ2 vs T G2 H2 hq2 z2 kp2 r2 p2=>k (.non :: ds) ρ2 (v :: vs) T G2 H2 hq2 z2 kp2 r2 ⟨h1,p2⟩⟩
 ·exact hm.elim
def cj:List AK→List D→DSt→Option (List D)
 | [],[],_=>some []
 | .s :: ks,d :: ds,ρ=>(cj ks ds ρ).map (d :: ·)
 | .t :: ks,d :: ds,ρ=>(cj ks ds ρ).map (d :: ·)
 | .m i :: ks,_ :: ds,ρ=>match ρ[i]? with
  | some (some d)=>(cj ks ds ρ).map (d :: ·)
  | _=>none
 | _,_,_=>none
def lbs:List AK→Nat→List (Option Nat)
 | [],_=>[]
 | .s :: ks,r=>none :: lbs ks r
 | .m i :: ks,r=>some (2 * i) :: lbs ks r
 | .t :: ks,r=>some (2 * r + 1) :: lbs ks (r + 1)
def au:List AK→List Nat
 | []=>[]
 | .m i :: ks=>i :: au ks
 | _ :: ks=>au ks
def fnd (l:Nat):List (Option Nat)→Nat→Option Nat
 | [],_=>none
 | x :: xs,k=>if x=some l then some k else fnd l xs (k + 1)
theorem ll {l:Nat}:∀ {xs:List (Option Nat)} {k j:Nat},fnd l xs k=some j→∃ i,j=k + i∧xs[i]? = some (some l)
 | [],_,_,h=>by cases h
 | x :: xs,k,j,h=>by
  unfold fnd at h
  split at h
  ·rename_i c; cases h; exact ⟨0,rfl,by simp [c]⟩
  ·obtain ⟨i,rfl,e⟩:=ll h; exact ⟨i + 1,by omega,by simpa using e⟩
theorem iq {l:Nat}:∀ {xs:List (Option Nat)} {k:Nat},(∀ i:Nat,xs[i]?≠some (some l))→fnd l xs k=none
 | [],_,_=>rfl
 | x :: xs,k,h=>by
  unfold fnd
  rw [if_neg (fun c=>h 0 (by simp [c]))]
  exact iq fun i=>by simpa using h (i + 1)
theorem kG {l:Nat}:∀ {xs:List (Option Nat)} {k i:Nat},(∀ (i j:Nat) (l:Nat),xs[i]? = some (some l)→xs[j]? = some (some l)→i=j)→xs[i]? = some (some l)→fnd l xs k=some (k + i)
 | [],_,_,_,h=>by simp at h
 | x :: xs,k,i,u,h=>by
  unfold fnd
  by_cases c:x=some l
  ·rw [if_pos c]
   have:=u 0 i l (by simp [c]) h
   subst this; rfl
  ·rw [if_neg c]
   cases i with
   | zero=>simp at h; exact absurd h c
   | succ i =>
    have:=kG (k:=k + 1) (i:=i) (fun i j l a b=>by have:=u (i + 1) (j + 1) l (by simpa using a) (by simpa using b); omega) (by simpa using h)
    rw [this]; congr 1; omega
theorem bW:∀ {ks:List AK} {r:Nat} {i l:Nat},(lbs ks r)[i]? = some (some l)→(∃ j∈au ks,l=2 * j)∨∃ j,r≤j∧l=2 * j + 1
 | [],_,_,_,h=>by simp [lbs] at h
 | .s :: ks,r,0,l,h=>by simp [lbs] at h
 | .s :: ks,r,i + 1,l,h=>by simp only [lbs,List.getElem?_cons_succ] at h; have:=bW (ks:=ks) h; simpa [au] using this
 | .m j :: ks,r,0,l,h=>by simp [lbs] at h; exact .inl ⟨j,by simp [au],h.symm⟩
 | .m j :: ks,r,i + 1,l,h=>by
  simp only [lbs,List.getElem?_cons_succ] at h
  rcases bW h with ⟨z,h1,h2⟩ | h
  ·exact .inl ⟨z,by simp [au,h1],h2⟩
  ·exact .inr h
 | .t :: ks,r,0,l,h=>by simp [lbs] at h; exact .inr ⟨r,Nat.le_refl _,h.symm⟩
 | .t :: ks,r,i + 1,l,h=>by
  simp only [lbs,List.getElem?_cons_succ] at h
  rcases bW h with ⟨z,h1,h2⟩ | ⟨j,h1,h2⟩
  ·exact .inl ⟨z,by simpa [au] using h1,h2⟩
  ·exact .inr ⟨j,by omega,h2⟩
theorem d5:∀ {ks:List AK} {r:Nat},(au ks).Nodup→∀ (i j l:Nat),(lbs ks r)[i]? = some (some l)→(lbs ks r)[j]? = some (some l)→i=j
 | [],_,_,i,j,l,h,_=>by simp [lbs] at h
 | .s :: ks,r,nd,0,j,l,h,_=>by simp [lbs] at h
 | .s :: ks,r,nd,i + 1,0,l,_,h=>by simp [lbs] at h
 | .s :: ks,r,nd,i + 1,j + 1,l,h,h2=>by simp only [lbs,List.getElem?_cons_succ] at h h2; rw [d5 (ks:=ks) (by simpa [au] using nd) i j l h h2]
 | .m a :: ks,r,nd,0,0,l,_,_=>rfl
 | .m a :: ks,r,nd,0,j + 1,l,h,h2=>by
  simp only [lbs,List.getElem?_cons_succ] at h2; simp [lbs] at h
  simp only [au,List.nodup_cons] at nd
  rcases bW h2 with ⟨z,h3,h4⟩ | ⟨z,h3,h4⟩
  ·exact absurd h3 (by rw [show z=a by omega]; exact nd.1)
  ·omega
 | .m a :: ks,r,nd,i + 1,0,l,h2,h=>by
  simp only [lbs,List.getElem?_cons_succ] at h2; simp [lbs] at h
  simp only [au,List.nodup_cons] at nd
  rcases bW h2 with ⟨z,h3,h4⟩ | ⟨z,h3,h4⟩
  ·exact absurd h3 (by rw [show z=a by omega]; exact nd.1)
  ·omega
 | .m a :: ks,r,nd,i + 1,j + 1,l,h,h2=>by
  simp only [au,List.nodup_cons] at nd
  simp only [lbs,List.getElem?_cons_succ] at h h2; rw [d5 (ks:=ks) nd.2 i j l h h2]
 | .t :: ks,r,nd,0,0,l,_,_=>rfl
 | .t :: ks,r,nd,0,j + 1,l,h,h2=>by
  simp only [lbs,List.getElem?_cons_succ] at h2; simp [lbs] at h
  rcases bW h2 with ⟨z,h3,h4⟩ | ⟨z,h3,h4⟩ <;> omega
 | .t :: ks,r,nd,i + 1,0,l,h2,h=>by
  simp only [lbs,List.getElem?_cons_succ] at h2; simp [lbs] at h
  rcases bW h2 with ⟨z,h3,h4⟩ | ⟨z,h3,h4⟩ <;> omega
 | .t :: ks,r,nd,i + 1,j + 1,l,h,h2=>by simp only [lbs,List.getElem?_cons_succ] at h h2; rw [d5 (ks:=ks) (by simpa [au] using nd) i j l h h2]
end
theorem dl {G H:Hp} {O:Own}:∀ {T pd:List (D×V)},bg G H O (T++pd)→bg G H O pd
 | [],_,h=>h
 | _ :: T,_,h=>dl (T:=T) h.2
theorem gQ {G H:Hp} {O:Own}:∀ {T pd:List (D×V)} {j:Nat} {x:D×V},bg G H O (T.reverse++pd)→T[j]? = some x→Sep G H O (2 * (pd.length + j) + 1) x.1 [] x.2
 | [],_,_,_,_,e=>by simp at e
 | y :: T,pd,j,x,h,e=>by
  have h':bg G H O (T.reverse++(y :: pd)):=by simpa using h
  cases j with
  | zero=>simp at e; subst e; exact (dl h').1
  | succ j =>
   have:=gQ (j:=j) h' (by simpa using e)
   rw [show pd.length + (j + 1)=(y :: pd).length + j by simp; omega]
   exact this
theorem fV {G H:Hp} {O:Own} {σ:St} {ρ:DSt}:∀ {ks:List AK} {ds ds':List D} {vs:List V} {T:List (D×V)} {r:Nat},eT G σ ks ds vs T→cj ks ds ρ=some ds' →
 (∀ (j:Nat) x,T[j]? = some x→Sep G H O (2 * (r + j) + 1) x.1 [] x.2)→(∀ i∈au ks,∀ d,ρ[i]? = some (some d)→∃ v,σ[i]? = some (some v)∧Sep G H O (2 * i) d [] v) →
 ds'.length=vs.length∧vs.length=ks.length∧∀ (k:Nat) d,ds'[k]? = some d→∃ v,vs[k]? = some v∧((∃ l,(lbs ks r)[k]? = some (some l)∧(ks.map AK.isM)[k]? = some true∧Sep G H O l d [] v)∨((ks.map AK.isM)[k]? = some false∧Rep G d v))
 | [],[],ds',[],[],r,_,hf,_,_=>by simp [cj] at hf; subst hf; exact ⟨rfl,rfl,fun k d e=>by simp at e⟩
 | .s :: ks,d :: ds,ds',v :: vs,T,r,h,hf,hT,hS=>by
  rw [cj] at hf
  cases e:cj ks ds ρ with
  | none=>rw [e] at hf; cases hf
  | some es =>
   rw [e] at hf; cases hf
   obtain ⟨l1,l2,ih⟩:=fV (ks:=ks) h.2 e hT (fun i hi=>hS i (by simpa [au] using hi))
   refine ⟨by simp [l1],by simp [l2],fun k d' e'=>?_⟩
   cases k with
   | zero=>simp at e'; subst e'; exact ⟨v,rfl,.inr ⟨rfl,h.1⟩⟩
   | succ k=>obtain ⟨u,g1,g2⟩:=ih k d' (by simpa using e'); exact ⟨u,by simpa using g1,by simpa [lbs] using g2⟩
 | .m i :: ks,d :: ds,ds',v :: vs,T,r,h,hf,hT,hS=>by
  rw [cj] at hf
  cases e0 : ρ[i]? with
  | none=>rw [e0] at hf; cases hf
  | some o =>
   cases o with
   | none=>rw [e0] at hf; cases hf
   | some d0 =>
    rw [e0] at hf
    dsimp only at hf
    cases e:cj ks ds ρ with
    | none=>rw [e] at hf; cases hf
    | some es =>
     rw [e] at hf; cases hf
     obtain ⟨l1,l2,ih⟩:=fV (ks:=ks) h.2 e hT (fun i hi=>hS i (by simp [au,hi]))
     refine ⟨by simp [l1],by simp [l2],fun k d' e'=>?_⟩
     cases k with
     | zero =>
      simp at e'; subst e'
      obtain ⟨u,g1,g2⟩:=hS i (by simp [au]) d0 e0
      rw [h.1] at g1; cases g1
      exact ⟨v,rfl,.inl ⟨2 * i,by simp [lbs],rfl,g2⟩⟩
     | succ k=>obtain ⟨u,g1,g2⟩:=ih k d' (by simpa using e'); exact ⟨u,by simpa using g1,by simpa [lbs] using g2⟩
 | .t :: ks,d :: ds,ds',v :: vs,x :: T,r,h,hf,hT,hS=>by
  rw [cj] at hf
  cases e:cj ks ds ρ with
  | none=>rw [e] at hf; cases hf
  | some es =>
   rw [e] at hf; cases hf
   obtain ⟨l1,l2,ih⟩:=fV (ks:=ks) (r:=r + 1) h.2 e (fun j x e=>by rw [show r + 1 + j=r + (j + 1) by omega]; exact hT (j + 1) x (by simpa using e)) (fun i hi=>hS i (by simpa [au] using hi))
   refine ⟨by simp [l1],by simp [l2],fun k d' e'=>?_⟩
   cases k with
   | zero =>
    simp at e'; subst e'
    have:=hT 0 x rfl
    rw [h.1] at this
    exact ⟨v,rfl,.inl ⟨2 * r + 1,by simp [lbs],rfl,this⟩⟩
   | succ k=>obtain ⟨u,g1,g2⟩:=ih k d' (by simpa using e'); exact ⟨u,by simpa using g1,by simpa [lbs] using g2⟩
 | [],_ :: _,_,_,_,_,h,_,_,_=>h.elim
 | [],[],_,_ :: _,_,_,h,_,_,_=>h.elim
 | [],[],_,[],_ :: _,_,h,_,_,_=>h.elim
 | .s :: _,[],_,_,_,_,h,_,_,_=>h.elim
 | .s :: _,_ :: _,_,[],_,_,h,_,_,_=>h.elim
 | .m _ :: _,[],_,_,_,_,h,_,_,_=>h.elim
 | .m _ :: _,_ :: _,_,[],_,_,h,_,_,_=>h.elim
 | .t :: _,[],_,_,_,_,h,_,_,_=>h.elim
 | .t :: _,_ :: _,_,[],_,_,h,_,_,_=>h.elim
 | .t :: _,_ :: _,_,_ :: _,[],_,h,_,_,_=>h.elim
theorem df {G:Hp} {σ:St}:∀ {ks:List AK} {ds:List D} {vs:List V} {T:List (D×V)} {k i:Nat},eT G σ ks ds vs T→ks[k]? = some (.m i)→∃ v,vs[k]? = some v∧σ[i]? = some (some v)
 | [],_,_,_,k,i,_,e=>by simp at e
 | .s :: ks,d :: ds,v :: vs,T,0,i,h,e=>by simp at e
 | .s :: ks,d :: ds,v :: vs,T,k + 1,i,h,e=>by obtain ⟨u,g1,g2⟩:=df (k:=k) h.2 (by simpa using e); exact ⟨u,by simpa using g1,g2⟩
 | .m j :: ks,d :: ds,v :: vs,T,0,i,h,e=>by simp at e; subst e; exact ⟨v,rfl,h.1⟩
 | .m j :: ks,d :: ds,v :: vs,T,k + 1,i,h,e=>by obtain ⟨u,g1,g2⟩:=df (k:=k) h.2 (by simpa using e); exact ⟨u,by simpa using g1,g2⟩
 | .t :: ks,d :: ds,v :: vs,x :: T,0,i,h,e=>by simp at e
 | .t :: ks,d :: ds,v :: vs,x :: T,k + 1,i,h,e=>by obtain ⟨u,g1,g2⟩:=df (k:=k) h.2 (by simpa using e); exact ⟨u,by simpa using g1,g2⟩
 | .s :: _,[],_,_,_,_,h,_=>h.elim
 | .s :: _,_ :: _,[],_,_,_,h,_=>h.elim
 | .m _ :: _,[],_,_,_,_,h,_=>h.elim
 | .m _ :: _,_ :: _,[],_,_,_,h,_=>h.elim
 | .t :: _,[],_,_,_,_,h,_=>h.elim
 | .t :: _,_ :: _,[],_,_,_,h,_=>h.elim
 | .t :: _,_ :: _,_ :: _,[],_,_,h,_=>h.elim
def bI:List AK→DSt→DSt→DSt
 | .m i :: ks,x :: ρ2,ρ=>bI ks ρ2 (ρ.set i x)
 | _ :: ks,_ :: ρ2,ρ=>bI ks ρ2 ρ
 | _,_,ρ=>ρ
def ey:List AK→DSt→DSt→DSt
 | .s :: ks,os,ρ=>ey ks os ρ
 | .m i :: ks,o :: os,ρ=>ey ks os (ρ.set i o)
 | .t :: ks,_ :: os,ρ=>ey ks os ρ
 | _,_,ρ=>ρ
theorem fR:∀ {ks:List AK} {ρ2 ρ:DSt},ρ2.length=ks.length→ey ks (mus (ks.map AK.isM) ρ2) ρ=bI ks ρ2 ρ
 | [],[],ρ,_=>rfl
 | .s :: ks,x :: ρ2,ρ,h=>by simp only [List.map,AK.isM,mus,ey,bI]; exact fR (by simpa using h)
 | .m i :: ks,x :: ρ2,ρ,h=>by simp only [List.map,AK.isM,mus,ey,bI]; exact fR (by simpa using h)
 | .t :: ks,x :: ρ2,ρ,h=>by simp only [List.map,AK.isM,mus,ey,bI]; exact fR (by simpa using h)
theorem eE:∀ {ks:List AK} {ρ2 ρ:DSt},(bI ks ρ2 ρ).length=ρ.length
 | [],_,_=>by simp [bI]
 | .s :: ks,[],_=>by simp [bI]
 | .m i :: ks,[],_=>by simp [bI]
 | .t :: ks,[],_=>by simp [bI]
 | .s :: ks,x :: ρ2,ρ=>by simp only [bI]; exact eE
 | .m i :: ks,x :: ρ2,ρ=>by simp only [bI]; rw [eE]; simp
 | .t :: ks,x :: ρ2,ρ=>by simp only [bI]; exact eE
theorem ec:∀ {ks:List AK} {ρ2 ρ:DSt} {i:Nat},i ∉ au ks→(bI ks ρ2 ρ)[i]? = ρ[i]?
 | [],_,_,_,_=>by simp [bI]
 | .s :: ks,[],_,_,_=>by simp [bI]
 | .m i :: ks,[],_,_,_=>by simp [bI]
 | .t :: ks,[],_,_,_=>by simp [bI]
 | .s :: ks,x :: ρ2,ρ,i,h=>by simp only [bI]; exact ec (by simpa [au] using h)
 | .t :: ks,x :: ρ2,ρ,i,h=>by simp only [bI]; exact ec (by simpa [au] using h)
 | .m j :: ks,x :: ρ2,ρ,i,h=>by
  simp only [bI]
  simp only [au,List.mem_cons,not_or] at h
  rw [ec h.2,List.getElem?_set_ne (Ne.symm h.1)]
theorem dJ:∀ {ks:List AK} {ρ2 ρ:DSt} {i:Nat} {d:D},(bI ks ρ2 ρ)[i]? = some (some d)→ρ2.length=ks.length→(i ∉ au ks∧ρ[i]? = some (some d))∨∃ k:Nat,ks[k]? = some (.m i)∧ρ2[k]? = some (some d)
 | [],[],ρ,i,d,h,_=>.inl ⟨by simp [au],by simpa [bI] using h⟩
 | .s :: ks,x :: ρ2,ρ,i,d,h,hl=>by
  simp only [bI] at h
  rcases dJ h (by simpa using hl) with ⟨h1,h2⟩ | ⟨k,h1,h2⟩
  ·exact .inl ⟨by simpa [au] using h1,h2⟩
  ·exact .inr ⟨k + 1,by simpa using h1,by simpa using h2⟩
 | .t :: ks,x :: ρ2,ρ,i,d,h,hl=>by
  simp only [bI] at h
  rcases dJ h (by simpa using hl) with ⟨h1,h2⟩ | ⟨k,h1,h2⟩
  ·exact .inl ⟨by simpa [au] using h1,h2⟩
  ·exact .inr ⟨k + 1,by simpa using h1,by simpa using h2⟩
 | .m j :: ks,x :: ρ2,ρ,i,d,h,hl=>by
  simp only [bI] at h
  rcases dJ h (by simpa using hl) with ⟨h1,h2⟩ | ⟨k,h1,h2⟩
  ·rcases a_ h2 with ⟨rfl,rfl⟩ | ⟨h3,h4⟩
   ·exact .inr ⟨0,rfl,rfl⟩
   ·exact .inl ⟨by simp [au,h1,h3],h4⟩
  ·exact .inr ⟨k + 1,by simpa using h1,by simpa using h2⟩
theorem jT:∀ {ks:List AK} {r k i:Nat},ks[k]? = some (.m i)→(lbs ks r)[k]? = some (some (2 * i))
 | [],_,_,_,e=>by simp at e
 | .s :: ks,r,0,i,e=>by simp at e
 | .s :: ks,r,k + 1,i,e=>by simp only [lbs,List.getElem?_cons_succ]; exact jT (by simpa using e)
 | .m j :: ks,r,0,i,e=>by simp at e; subst e; simp [lbs]
 | .m j :: ks,r,k + 1,i,e=>by simp only [lbs,List.getElem?_cons_succ]; exact jT (by simpa using e)
 | .t :: ks,r,0,i,e=>by simp at e
 | .t :: ks,r,k + 1,i,e=>by simp only [lbs,List.getElem?_cons_succ]; exact jT (by simpa using e)
theorem du:∀ {ks:List AK} {r k l:Nat},(lbs ks r)[k]? = some (some l)→(ks.map AK.isM)[k]? = some true
 | [],_,_,_,e=>by simp [lbs] at e
 | .s :: ks,r,0,i,e=>by simp [lbs] at e
 | .s :: ks,r,k + 1,i,e=>by simp only [lbs,List.getElem?_cons_succ] at e; simp only [List.map,List.getElem?_cons_succ]; exact du e
 | .m j :: ks,r,0,i,e=>rfl
 | .m j :: ks,r,k + 1,i,e=>by simp only [lbs,List.getElem?_cons_succ] at e; simp only [List.map,List.getElem?_cons_succ]; exact du e
 | .t :: ks,r,0,i,e=>rfl
 | .t :: ks,r,k + 1,i,e=>by simp only [lbs,List.getElem?_cons_succ] at e; simp only [List.map,List.getElem?_cons_succ]; exact du e
theorem lH {ks:List AK} {k i:Nat} (h:ks[k]? = some (.m i)):i∈au ks:=by
 induction ks generalizing k with
 | nil=>simp at h
 | cons x ks ih =>
  cases k with
  | zero=>simp at h; subst h; simp [au]
  | succ k=>have:=ih (by simpa using h); cases x <;> simp [au,this]
theorem fE {C:Ctx} {ow:List Bool} {G:Hp} {ρ:DSt} {σ:St} {H:Hp} {pd T:List (D×V)} {ks:List AK} {ds ds':List D} {vs:List V} {fr:Bool} {sd:SpD} {q:D→DSt→Prop} {Q:VK} {E:XK}
 (hn:C.np≤pd.length) (r:R C ow G ρ σ H (T.reverse++pd)) (ha:eT G σ ks ds vs T) (hf:cj ks ds ρ=some ds') (nd:(au ks).Nodup) (hw:∀ i∈au ks,ow[i]? = some true)
 (h:sd ds' fun d os=>q d (ey ks os ρ))
 (k:∀ d ρ' v G' H',q d ρ'→az G G'→Kp ow ρ ρ'→(if fr=true then R C ow G' ρ' σ H' ((d,v) :: pd) else R C ow G' ρ' σ H' pd∧Rep G' d v)→Q v H'):aQ (ks.map AK.isM) fr sd vs H Q E:=by
 obtain ⟨O,ro⟩:=r
 have pn:=ro.pn
 obtain ⟨l1,l2,hat⟩:=fV (O:=O) (H:=H) (r:=pd.length) ha hf (fun j x e=>gQ pn e) (fun i hi d e=>by
  obtain ⟨v,h1,h2⟩:=ro.sl i d e; rw [if_pos (hw i hi)] at h2; exact ⟨v,h1,h2⟩)
 let lb:=lbs ks pd.length
 let fin:Nat→Option Nat:=fun l=>(fnd l lb 0).map (2 * ·)
 let fbk:Nat→Option Nat:=fun l=>if l=1 then some (2 * pd.length + 1) else if l % 2=0 then (match lb[l / 2]? with | some o=>o | none=>none) else none
 have uq:=d5 (ks:=ks) (r:=pd.length) nd
 have fin_at:∀ (i l:Nat),lb[i]? = some (some l)→fin l=some (2 * i):=fun i l e=>by
  show (fnd l lb 0).map _=_
  rw [kG uq e]; simp
 have fin_of:∀ l l',fin l=some l'→∃ i,l'=2 * i∧lb[i]? = some (some l):=fun l l' e=>by
  change (fnd l lb 0).map _=_ at e
  cases z:fnd l lb 0 with
  | none=>rw [z] at e; cases e
  | some j=>rw [z] at e; cases e; obtain ⟨i,rfl,e2⟩:=ll z; exact ⟨i,by show 2 * (0 + i)=2 * i; omega,e2⟩
 have fin_none:∀ l,(∀ i:Nat,lb[i]?≠some (some l))→fin l=none:=fun l e=>by
  show (fnd l lb 0).map _=_
  rw [iq e]; rfl
 have ri:=ro.into (mu:=ks.map AK.isM) (fin:=fin) (ds:=ds') (vs:=vs) l1 (fun j d e=>by
  obtain ⟨v,h1,h2⟩:=hat j d e
  refine ⟨v,h1,?_⟩
  rcases h2 with ⟨l,h2,h3,h4⟩ | ⟨h2,h3⟩
  ·rw [if_pos h3]; exact ⟨l,h4,fin_at j l h2⟩
  ·rw [if_neg (by rw [h2]; decide)]; exact h3) (fun l l' e=>by
  obtain ⟨i,rfl,e2⟩:=fin_of l l' e
  exact ⟨i,rfl,du e2,by have:=(List.getElem?_eq_some_iff.mp (du e2)).1; rw [List.length_map] at this; omega⟩)
 refine ⟨_,G,ds',fun d os=>q d (ey ks os ρ),rfl,rfl,⟨_,ri⟩,h,by rw [List.length_map,l1,l2],?_⟩
 intro d ρ2 σ2 v G2 H2 hq z hl hr
 rw [List.length_map] at hl
 rw [fR hl] at hq
 have out:∀ (pd2 pd3:List (D×V)) (O2:Own),RO ⟨G,H,bY fin O,msV (ks.map AK.isM) vs,0⟩ (ks.map AK.isM) G2 ρ2 σ2 H2 pd2 O2→C.np≤pd3.length →
  (∀ (O3:Own),(∀ a l π,O a=some (l,π)→fin l=none→O3 a=some (l,π)∧H2 a=H a)→(∀ a l l' π,O2 a=some (l',π)→fbk l'=some l→O3 a=some (l,π))→bF G G2→bg G2 H2 O3 pd3) →
  RO C ow G2 (bI ks ρ2 ρ) σ H2 pd3 (lf fin fbk O O2):=fun pd2 pd3 O2 r2 hn3 hP=>by
  refine ro.out (vs:=vs) r2 ?_ (by rw [eE]; exact ro.len) hn3 ?_ ?_ hP
  ·intro l0 l' l e1 e2
   obtain ⟨i,rfl,e3⟩:=fin_of l0 l' e1
   change (if 2 * i=1 then _ else if 2 * i % 2=0 then _ else _)=_ at e2
   rw [if_neg (by omega),if_pos (by omega),show 2 * i / 2=i by omega,e3] at e2
   exact (Option.some.inj e2).symm
  ·intro i d c e
   rcases dJ e hl with ⟨_,h2⟩ | ⟨k,h1,_⟩
   ·exact h2
   ·exact absurd (hw i (lH h1)) c
  ·intro i d c e
   rcases dJ e hl with ⟨h1,h2⟩ | ⟨j,h1,h2⟩
   ·refine .inl ⟨fin_none _ fun j e=>?_,h2⟩
    rcases bW e with ⟨z,h3,h4⟩ | ⟨z,h3,h4⟩
    ·exact h1 (by rw [show i=z by omega]; exact h3)
    ·omega
   ·obtain ⟨u,g1,g2⟩:=df ha h1
    have im:(ks.map AK.isM)[j]? = some true:=by rw [List.getElem?_map,h1]; rfl
    refine .inr ⟨j,u,?_,im,h2,g2,r2.mp j u (fe im g1)⟩
    show (if 2 * j=1 then _ else if 2 * j % 2=0 then _ else _)=_
    rw [if_neg (by omega),if_pos (by omega),show 2 * j / 2=j by omega,jT h1]
 have pdk:∀ (O3:Own),(∀ a l π,O a=some (l,π)→fin l=none→O3 a=some (l,π)∧H2 a=H a)→bF G G2→bg G2 H2 O3 pd:=fun O3 h1 ts =>
  bg.keep ts (fun a j π hj e=>h1 a _ _ e (fin_none _ fun i e=>by
   rcases bW e with ⟨z,h3,h4⟩ | ⟨z,h3,h4⟩ <;> omega)) (dl (T:=T.reverse) pn)
 have kp:Kp ow ρ (bI ks ρ2 ρ):=fun j hj=>ec fun hs=>hj (hw j hs)
 refine k d (bI ks ρ2 ρ) v G2 H2 hq z kp ?_
 unfold Ret at hr
 split at hr
 ·rename_i c
  rw [if_pos c]
  obtain ⟨O2,r2⟩:=hr
  refine ⟨_,out _ ((d,v) :: pd) O2 r2 (Nat.le_succ_of_le hn) fun O3 h1 h2 ts=>⟨?_,pdk O3 h1 ts⟩⟩
  exact r2.pn.1.keep (fun _ _ z=>z) fun a τ e=>⟨h2 a _ _ _ e (by show (if 2 * 0 + 1=1 then _ else _)=_; rw [if_pos rfl]),rfl⟩
 ·rename_i c
  rw [if_neg c]
  obtain ⟨⟨O2,r2⟩,p⟩:=hr
  exact ⟨⟨_,out _ pd O2 r2 hn fun O3 h1 h2 ts=>pdk O3 h1 ts⟩,p⟩
section
variable {X:Cx} {ow:List Bool} {a b c e tg:Expr} {ma mb mc:ME} {pos p':Pos} {mr:MA} {es:List Expr} {ks:List AK} {x:Str}
def iV (ks:List AK) (sd:SpD) (m:MA):ME:=fun ρ q=>m ρ fun ds ρ1=>match cj ks ds ρ1 with
 | some ds'=>sd ds' fun d os=>q d (ey ks os ρ1)
 | none=>False
theorem qY {k:Nat} {f:Addr} {fd:FuncData} {ps:List Str} {mu:List Bool} {sd:SpD} (F:FnOk X.prog X.w X.K X.mg X.base CX0 k f fd ps (aQ mu false sd)) (hr:Room k X.A) (hg:Gl X x) (hm:X.mg x=some (.ref f)) (hk:PySem.W.keepIn X.K (.ref f)=true) (hb:cU X.K fd ps [])
 (ha:QAk X ow ks (e :: es) mr) (hmu:mu=ks.map AK.isM:=by rfl) (nd:(au ks).Nodup:=by decide) (hw:∀ i∈au ks,ow[i]? = some true:=by decide) (hdb:(x == ("__debug__":Str))=false:=by decide)
 (he:starEach (e :: es) X.env=(false,eval e X.env) :: starEach es X.env:=by rfl) (hpl:(backTo pos (starEach es X.env)).any (·.1)=false:=by rfl):QE X ow (.Call (.Name x p') (e :: es) [] pos) (iV ks sd mr):=by
 obtain ⟨t,p,s⟩:=ha
 subst hmu
 refine ⟨_,g6 F hr hg hm hk hb .nil ic p hdb he hpl,fun C G ρ σ H pd q Q r hm k=>s C G ρ σ H pd _ _ r hm fun ds ρ' vs T G' H' hq z kp r' p=>?_⟩
 rw [List.append_nil]
 split at hq
 ·rename_i ds' ef
  exact fE (fr:=false) r.np r' p ef nd hw hq fun d ρ2 v G2 H2 hq2 z2 kp2 h2=>by
   rw [if_neg (by decide)] at h2
   exact k d ρ2 v G2 H2 hq2 (z.trans z2) (kp.trans kp2) h2.1 h2.2
 ·exact hq.elim
theorem qq {k:Nat} {f:Addr} {fd:FuncData} {ps:List Str} {mu:List Bool} {sd:SpD} (F:FnOk X.prog X.w X.K X.mg X.base CX0 k f fd ps (aQ mu true sd)) (hr:Room k X.A) (hg:Gl X x) (hm:X.mg x=some (.ref f)) (hk:PySem.W.keepIn X.K (.ref f)=true) (hb:cU X.K fd ps [])
 (ha:QAk X ow ks (e :: es) mr) (hmu:mu=ks.map AK.isM:=by rfl) (nd:(au ks).Nodup:=by decide) (hw:∀ i∈au ks,ow[i]? = some true:=by decide) (hdb:(x == ("__debug__":Str))=false:=by decide)
 (he:starEach (e :: es) X.env=(false,eval e X.env) :: starEach es X.env:=by rfl) (hpl:(backTo pos (starEach es X.env)).any (·.1)=false:=by rfl):QF X ow (.Call (.Name x p') (e :: es) [] pos) (iV ks sd mr):=by
 obtain ⟨t,p,s⟩:=ha
 subst hmu
 refine ⟨_,g6 F hr hg hm hk hb .nil ic p hdb he hpl,fun C G ρ σ H pd q Q r hm k=>s C G ρ σ H pd _ _ r hm fun ds ρ' vs T G' H' hq z kp r' p=>?_⟩
 rw [List.append_nil]
 split at hq
 ·rename_i ds' ef
  exact fE (fr:=true) r.np r' p ef nd hw hq fun d ρ2 v G2 H2 hq2 z2 kp2 h2=>by
   rw [if_pos rfl] at h2
   exact k d ρ2 v G2 H2 hq2 (z.trans z2) (kp.trans kp2) h2
 ·exact hq.elim
end
theorem RO.grow {C:Ctx} {mu ow:List Bool} {G:Hp} {ds:List D} {vs:List V} {H:Hp} {O:Own} (n:Nat) (h:RO C mu G (ds.map some) (vs.map some) H [] O) (ho:∀ i:Nat,i<ds.length→ow[i]? = mu[i]?) :
 RO C ow G (ds.map some++List.replicate n none) (vs.map some++List.replicate n none) H [] O:=by
 have hl:ds.length=vs.length:=by simpa using h.len
 have up:∀ {α:Type} {l:List α} {i:Nat} {d : α},(l.map some++List.replicate n none)[i]? = some (some d)→i<l.length∧(l.map some)[i]? = some (some d):=fun {α l i d} e=>by
  by_cases c:i<l.length
  ·rw [List.getElem?_append_left (by simpa using c)] at e; exact ⟨c,e⟩
  ·rw [List.getElem?_append_right (by simpa using c)] at e
   rw [List.getElem?_replicate] at e
   split at e <;> cases e
 refine ⟨by simp [hl],h.gh,h.g0,h.gn,h.og,h.cok,h.fr,h.ft,h.al,?_,?_,h.pn,h.np⟩
 ·intro i v e
  have:=h.mp i v e
  rw [List.getElem?_append_left (cD this)]; exact this
 ·intro i d e
  obtain ⟨c,e1⟩:=up e
  obtain ⟨v,h1,h2⟩:=h.sl i d e1
  exact ⟨v,by rw [List.getElem?_append_left (cD h1)]; exact h1,by rw [ho i c]; exact h2⟩
theorem RO.trim {C:Ctx} {mu ow:List Bool} {G:Hp} {ρ:DSt} {σ:St} {H:Hp} {pd:List (D×V)} {O:Own} (h:RO C ow G ρ σ H pd O) (hm:hZ C mu) (ho:∀ i:Nat,i<mu.length→ow[i]? = mu[i]?) :
 RO C mu G (cr mu.length ρ) (cr mu.length σ) H pd O:=by
 refine ⟨by rw [dt,dt],h.gh,h.g0,h.gn,h.og,h.cok,h.fr,h.ft,h.al,?_,?_,h.pn,h.np⟩
 ·intro i v e
  exact jy (lt_of_slot' (hm i v e)) (h.mp i v e)
 ·intro i d e
  obtain ⟨c,e1⟩:=jq e
  obtain ⟨v,h1,h2⟩:=h.sl i d e1
  exact ⟨v,jy c h1,by rw [← ho i c]; exact h2⟩
where
 lt_of_slot' {l:List Bool} {i:Nat} {x:Bool} (h:l[i]? = some x):i<l.length:=(List.getElem?_eq_some_iff.mp h).1
def nS (mu:List Bool) (q:D→DSt→Prop):EndsD:=⟨fun ρ=>q .non (mus mu ρ),fun d ρ=>q d (mus mu ρ),fun _=>False,fun _=>False⟩
theorem fnD {P:Program} {w:World} {K:PySem.W.Frag} {mg:Str→Option Value} {base:Heap} {x qual:Str} {st:Stmt} {f:Addr} {fd:FuncData} {N ps:List Str} {k:Nat} (F:Fun K x qual st f fd) (S:FnScope N ps (ah st)) (M:Md) (sd:SpD)
 (hl:∀ ds q,sd ds q→ds.length=ps.length) (ho:M.ow.take ps.length=M.mu) (hml:M.mu.length=ps.length)
 (hbody:∀ (cdv:Value) (A:Around) (outer:List Env) (s:Shared) (H:Hp) (E:XK),Room k (A.deeper (envOfC qual (ah st) s.heap.objs.size f cdv)) →
  ∃ m,QSs (kO CX0 P w K mg base N qual (ah st) f cdv A outer s H E).nox M (bL st) m∧∀ ds q,sd ds q→m (nS M.mu q) (ds.map some++List.replicate (N.length - ps.length) none)) :
 FnOk P w K mg base CX0 (k + 1) f fd ps (aQ M.mu M.fr sd):=by
 have hov:∀ i:Nat,i<M.mu.length→M.ow[i]? = M.mu[i]?:=fun i hi=>by rw [← ho,List.getElem?_take_of_lt (by omega)]
 have hlen:∀ vs H Q E,aQ M.mu M.fr sd vs H Q E→vs.length=ps.length:=fun vs H Q E ⟨C,G,ds,q,_,_,⟨O,ro⟩,h1,_,_⟩=>by
  have:=ro.len; simp at this; rw [← this]; exact hl ds q h1
 refine F.ok S hlen fun cdv A outer s H vs Q E hr hsp=>?_
 obtain ⟨m,⟨t,p,ss⟩,hm⟩:=hbody cdv A outer s H E hr
 have hvl:=hlen vs H Q E hsp
 obtain ⟨C,G,ds,q,hnp,hmu,⟨O,ro⟩,hsd,hml2,kk⟩:=hsp
 refine ⟨t,p,?_⟩
 have hmo:hZ C M.mu:=fun i v e=>by rw [hmu] at e; exact (jc e).1
 have r0:R C M.ow G (ds.map some++List.replicate (N.length - ps.length) none) (start N vs) H []:=by
  unfold start; rw [hvl]
  exact ⟨O,ro.grow _ fun i hi=>hov i (by omega)⟩
 refine ss C G _ _ H (nS M.mu q) _ hmo hnp r0 (hm ds q hsd) ⟨?_,fun _ _ _ _ h=>h.elim,fun _ _ _ _ h=>h.elim,?_⟩
 ·intro ρ σ G' H' h z ⟨O',r'⟩
  refine kk .non (cr M.mu.length ρ) (cr M.mu.length σ) .non G' H' (by rw [dh]; exact h) z (dt _ _) (R.non ⟨O',r'.trim hmo hov⟩)
 ·intro d ρ σ v G' H' h z hr'
  refine kk d (cr M.mu.length ρ) (cr M.mu.length σ) v G' H' (by rw [dh]; exact h) z (dt _ _) ?_
  unfold Ret at hr' ⊢
  split at hr'
  ·rename_i c; rw [if_pos c]; obtain ⟨O',r'⟩:=hr'; exact ⟨O',r'.trim hmo hov⟩
  ·rename_i c; rw [if_neg c]; obtain ⟨⟨O',r'⟩,p⟩:=hr'; exact ⟨⟨O',r'.trim hmo hov⟩,p⟩
theorem Seps.mk {G H:Hp} {O:Own} {i:Nat}:∀ {T:List (D×V)} {k:Nat} {π:List Nat},(∀ (j:Nat) x,T[j]? = some x→Sep G H O i x.1 ((k + j) :: π) x.2)→Seps G H O i (T.map (·.1)) k π (T.map (·.2))
 | [],_,_,_=>by simp; rw [Seps]
 | x :: T,k,π,h=>by
  simp only [List.map]; rw [Seps]
  exact ⟨x.2,_,rfl,by simpa using h 0 x rfl,Seps.mk fun j y e=>by rw [show k + 1 + j=k + (j + 1) by omega]; exact h (j + 1) y (by simpa using e)⟩
section
variable {C:Ctx} {ow:List Bool} {G:Hp} {ρ:DSt} {σ:St} {H:Hp} {pd T:List (D×V)} {O:Own}
theorem RO.gather (h:RO C ow G ρ σ H (T.reverse++pd) O) (hn:C.np≤pd.length):∃ O',RO C ow G ρ σ H pd O'∧Seps G H O' (2 * pd.length + 1) (T.map (·.1)) 0 [] (T.map (·.2)):=by
 refine ⟨lab (fun l π=>if l % 2=1∧pd.length≤l / 2 then (2 * pd.length + 1,π++[l / 2 - pd.length]) else (l,π)) O,⟨h.len,h.gh,h.g0,h.gn,?_,h.cok,h.fr,h.ft,h.al,h.mp,?_,?_,hn⟩,?_⟩
 ·intro a m e
  obtain ⟨l,π,e1,rfl⟩:=hV e
  obtain ⟨q1,q2,q3⟩:=h.og a _ e1
  refine ⟨q1,q2,?_⟩
  split
  ·rename_i z
   rcases q3 with q3 | ⟨_,q3⟩
   ·exact .inl q3
   ·rcases h.cok _ _ _ q3 with ⟨k,_,q4,_⟩ | ⟨k,q4,q5⟩
    ·omega
    ·omega
  ·exact q3
 ·intro j e q
  obtain ⟨u,h1,h2⟩:=h.sl j e q
  refine ⟨u,h1,?_⟩
  split at h2
  ·rename_i c; rw [if_pos c]; exact h2.keep (fun _ _ z=>z) fun a τ q=>⟨by rw [bJ q,if_neg (by omega)],rfl⟩
  ·rename_i c; rw [if_neg c]; exact h2
 ·exact bg.keep (fun _ _ z=>z) (fun a j π hj q=>⟨by rw [bJ q,if_neg (by omega)],rfl⟩) (dl (T:=T.reverse) h.pn)
 ·refine Seps.mk fun j x e=>?_
  have:=gQ h.pn e
  refine Sep.map (f:=fun π=>π++[0 + j]) (fun _ _ z=>z) (fun _ _=>rfl) x.1 [] x.2 (fun a τ q=>⟨?_,rfl⟩) this
  rw [bJ q,if_pos (by omega)]
  rw [show (2 * (pd.length + j) + 1) / 2 - pd.length=0 + j by omega]
theorem RO.newT (h:RO C ow G ρ σ H pd O) {p:Addr} (hp:H p=none) {ds:List D} {vs:List V} (hs:Seps G H O (2 * pd.length + 1) ds 0 [] vs):R C ow (upd G p (.tup vs)) ρ σ (upd H p (.tup vs)) ((.tup ds,.ref p) :: pd)∧az G (upd G p (.tup vs)):=by
 obtain ⟨r,z⟩:=h.new hp (.tup vs)
 refine ⟨⟨O,r.len,r.gh,r.g0,r.gn,r.og,r.cok,r.fr,r.ft,r.al,r.mp,r.sl,⟨?_,r.pn⟩,Nat.le_succ_of_le r.np⟩,z⟩
 rw [Sep]
 exact ⟨p,vs,rfl,ax,hs.keep z.ts fun a τ _ q=>⟨q,ag (fun e=>by obtain ⟨_,⟨xs,w⟩,_⟩:=h.og a _ q; rw [e,hp] at w; cases w)⟩⟩
theorem RO.newS (h:RO C ow G ρ σ H pd O) {p:Addr} (hp:H p=none) {ds:List D} {vs:List V} (hs:Seps G H O (2 * pd.length + 1) ds 0 [] vs):R C ow G ρ σ (upd H p (.lst vs)) ((.lst ds,.ref p) :: pd):=by
 have gp:G p=none:=by
  cases e:G p with
  | none=>rfl
  | some z=>rw [h.gh _ _ e] at hp; cases hp
 have ne:∀ a l,O a=some l→a≠p:=fun a l e z=>by
  obtain ⟨_,⟨xs,q⟩,_⟩:=h.og a l e
  rw [z,hp] at q; cases q
 let O':Own:=fun a=>if a=p then some (2 * pd.length + 1,[]) else O a
 have old:∀ a l,O a=some l→O' a=some l:=fun a l e=>by
  show (if a=p then _ else _)=_
  rw [if_neg (ne a _ e),e]
 refine ⟨O',h.len,?_,h.g0,h.gn,?_,h.cok,?_,?_,?_,h.mp,?_,⟨?_,?_⟩,Nat.le_succ_of_le h.np⟩
 ·intro a u e
  rw [ag (fun z=>by rw [z,gp] at e; cases e)]
  exact h.gh _ _ e
 ·intro a l e
  by_cases z:a=p
  ·subst z; exact ⟨gp,⟨.inl vs,ax⟩,.inl (h.al _ hp)⟩
  ·rw [ag z]
   change (if a=p then _ else _)=_ at e
   rw [if_neg z] at e
   exact h.og a _ e
 ·intro a u e n t
  rw [ag (am (h.fr a u e n t) hp)]
  exact h.fr a u e n t
 ·intro a ps q e
  by_cases z:a=p
  ·subst z; rw [ax] at e; cases e
  ·rw [ag z] at e; exact h.ft a ps q e
 ·intro a e
  by_cases z:a=p
  ·subst z; rw [ax] at e; cases e
  ·rw [ag z] at e; exact h.al a e
 ·intro i d e
  obtain ⟨v,h1,h2⟩:=h.sl i d e
  refine ⟨v,h1,?_⟩
  split at h2
  ·rename_i c; rw [if_pos c]; exact h2.keep (fun _ _ z=>z) fun a τ q=>⟨old a _ q,ag (ne a _ q)⟩
  ·rename_i c; rw [if_neg c]; exact h2
 ·rw [Sep]
  exact ⟨p,vs,rfl,by show (if p=p then _ else _)=_; rw [if_pos rfl],ax,hs.keep (fun _ _ z=>z) fun a τ _ q=>⟨old a _ q,ag (ne a _ q)⟩⟩
 ·exact bg.keep (fun _ _ z=>z) (fun a j π hj q=>⟨old a _ q,ag (ne a _ q)⟩) h.pn
end
def SFm (M:Md) (t:TE) (m:ME):Prop:=∀ (C:Ctx) (G:Hp) (ρ:DSt) (σ:St) (H:Hp) (pd:List (D×V)) (q:D→DSt→Prop) (Q:VK),hZ C M.mu→R C M.ow G ρ σ H pd→m ρ q →
 (∀ d ρ' v G' H',q d ρ'→az G G'→R C M.ow G' ρ' σ H' ((d,v) :: pd)→Q v H')→t σ H Q
structure QM (X:Cx) (M:Md) (e:Expr) (m:ME):Prop where
 ex:∃ t,PE X e t∧SFm M t m
def SAm (M:Md) (n:Nat) (t:TA) (m:MA):Prop:=∀ (C:Ctx) (G:Hp) (ρ:DSt) (σ:St) (H:Hp) (pd:List (D×V)) (q:List D→DSt→Prop) (Q:List V→Hp→Prop),hZ C M.mu→R C M.ow G ρ σ H pd→m ρ q →
 (∀ (T:List (D×V)) ρ' G' H',q (T.map (·.1)) ρ'→az G G'→R C M.ow G' ρ' σ H' (T.reverse++pd)→T.length=n→Q (T.map (·.2)) H')→t σ H Q
structure QMs (X:Cx) (M:Md) (es:List Expr) (m:MA):Prop where
 ex:∃ t,PA X es t∧SAm M es.length t m
section
variable {X:Cx} {M:Md} {a b c e:Expr} {ma mb mc:ME} {pos pos':Pos} {mr:MA} {es:List Expr}
theorem QF.qm (h:QF X M.ow e ma):QM X M e ma:=by
 obtain ⟨t,p,s⟩:=h
 exact ⟨_,p,fun C G ρ σ H pd q Q hm r h k=>s C G ρ σ H pd q Q r h fun d ρ' v G' H' hq z kp r'=>k d ρ' v G' H' hq z r'⟩
theorem eL (i:Nat) {x:Str} (ho:M.ow[i]? = some true:=by decide) (hu:M.mu[i]?≠some true:=by decide) (hN:X.N[i]? = some x:=by rfl) (hv:Vis X.env.scope x:=by first | exact Or.inl rfl | exact Or.inr (Or.inl rfl) | exact Or.inr (Or.inr rfl)) (hd:(x == ("__debug__":Str))=false:=by decide)
 (hcd:(x == ("__classdict__":Str))=false:=by decide):QM X M (.Name x pos) (rN i):=⟨_,bB hN hv hd hcd,fun C G ρ σ H pd q Q hm r h k=>by
 unfold rN at h
 split at h
 ·rename_i d e
  obtain ⟨O,ro⟩:=r
  obtain ⟨v,h1,h2⟩:=ro.move e ho (hm.no hu)
  exact ⟨v,h1,k d _ v G H h (az.refl _) h2⟩
 ·exact h.elim⟩
theorem cQ:QMs X M [] lv:=⟨_,dS,fun C G ρ σ H pd q Q hm r h k=>k [] ρ G H h (az.refl _) r rfl⟩
theorem aS (ha:QM X M e ma) (hr:QMs X M es mr) (hs:starEach (e :: es) X.env=(false,eval e X.env) :: starEach es X.env:=by rfl):QMs X M (e :: es) (eS ma mr):=by
 obtain ⟨t,p,s⟩:=ha; obtain ⟨t2,p2,s2⟩:=hr
 refine ⟨_,a7 p p2 hs,fun C G ρ σ H pd q Q hm r h k=>s C G ρ σ H pd _ _ hm r h fun d ρ' v G' H' hq z r'=>?_⟩
 exact s2 C G' ρ' σ H' _ _ _ hm r' hq fun T ρ2 G2 H2 hq2 z2 r2 hn=>k ((d,v) :: T) ρ2 G2 H2 hq2 (z.trans z2) (by simpa using r2) (by simp [hn])
theorem ix {x1} (h:QMs X M es mr) (hl:es.length≤1000:=by decide):QM X M (.Tuple es x1 pos) (mTup mr):=by
 obtain ⟨t,p,s⟩:=h
 refine ⟨_,pX p,fun C G ρ σ H pd q Q hm r h k=>s C G ρ σ H pd _ _ hm r h fun T ρ' G' H' hq z r' hn=>⟨cx (by simp; omega),fun a ha=>?_⟩⟩
 obtain ⟨O,r'⟩:=r'
 obtain ⟨O2,r2,s2⟩:=r'.gather r.np
 obtain ⟨r3,z3⟩:=r2.newT ha s2
 exact k _ ρ' _ _ _ hq (z.trans z3) r3
theorem k8 (h:QMs X M es mr) (hl:es.length≤1000:=by decide):QM X M (.List es pos) (mLst mr):=by
 obtain ⟨t,p,s⟩:=h
 refine ⟨_,ld p,fun C G ρ σ H pd q Q hm r h k=>s C G ρ σ H pd _ _ hm r h fun T ρ' G' H' hq z r' hn=>⟨cx (by simp; omega),fun a ha=>?_⟩⟩
 obtain ⟨O,r'⟩:=r'
 obtain ⟨O2,r2,s2⟩:=r'.gather r.np
 exact k _ ρ' _ _ _ hq z (r2.newS ha s2)
theorem bd (h:QM X M e ma) (hf:M.fr=true:=by rfl):QS X M (.Return (some e) pos) (mRet ma):=by
 obtain ⟨t,p,s⟩:=h
 refine ⟨_,nH p,fun C G ρ σ H n D hm hn r h k=>s C G ρ σ H [] _ _ hm r h fun d ρ' v G' H' hq z r'=>k.rt d ρ' σ v G' H' hq z (by unfold Ret; rw [if_pos hf]; exact r')⟩
theorem jd {i:Nat} {x:Str} (hN:X.N.Nodup) (hi:X.N[i]? = some x) (hx:Loc X.env.scope x) (he:QM X M e ma) (ho:M.ow[i]? = some true:=by decide) (hu:M.mu[i]?≠some true:=by decide) (hs:swapsWith e (some (.Name x pos')) pos.line X.env=pure false:=by rfl) (hf:X.fn x=true∨X.env.scope.names.lookup x=some .local:=by first | exact .inl rfl | exact .inr rfl | assumption) :
 QS X M (.Assign [.Name x pos'] e pos) (mT i ma):=by
 obtain ⟨t,p,s⟩:=he
 refine ⟨_,kP hN hi hx p hs hf,fun C G ρ σ H n D hm hn r h k=>s C G ρ σ H [] _ _ hm r h fun d ρ' v G' H' hq z r'=>?_⟩
 obtain ⟨O,r'⟩:=r'
 exact k.nx _ _ G' H' hq z (r'.setO ho (hm.no hu) (by rw [hn]; exact Nat.zero_le _))
end
def iM (g:MG) (mt:MT) (me:ME) (ρ0:DSt) (ds:List D) (K:List D→Prop):Prop:=∃ I:Nat→List D→Prop,I 0 [] ∧
 (∀ i d es,ds[i]? = some d→I i es→g d ρ0 fun ρ2=>mt ρ2 fun b ρ3=>if b=true then me ρ3 fun x _=>I (i + 1) (es++[x]) else I (i + 1) es)∧∀ es,I ds.length es→K es
def dY (k:Nat) (js:List Nat) (ρ:DSt):DSt:=List.replicate k none++js.map fun j=>(ρ[j]?).getD none
def rH (mi:MA) (g:MG) (mt:MT) (me:ME) (k:Nat) (js:List Nat):ME:=fun ρ q=>mi ρ fun ds ρ1=>ds.length≤1000∧iM g mt me (dY k js ρ1) ds fun es=>imms es=true∧q (.lst es) ρ1
def kU (mi:MA) (g:MG) (mt:MT) (me:ME) (k:Nat) (js:List Nat):ME:=fun ρ q=>mi ρ fun ds ρ1=>ds.length≤1000∧iM g mt me (dY k js ρ1) ds fun es=>q (.lst es) ρ1
structure QIf (X:Cx) (ow:List Bool) (ifs:List Expr) (m:MT):Prop where
 ex:∃ t,PIf X ifs t∧STe ow t m
theorem fG {X:Cx} {ow:List Bool}:QIf X ow [] (mo true):=⟨_,qL,kC true⟩
theorem fU {X:Cx} {ow:List Bool} {c:Expr} {mt:MT} (h:QT X ow c mt):QIf X ow [c] mt:=by obtain ⟨t,p,s⟩:=h; exact ⟨_,qd p,s⟩
section
variable {C:Ctx} {ow:List Bool} {G:Hp} {ρ:DSt} {σ:St} {H:Hp} {pd:List (D×V)} {O:Own}
theorem RO.inner (h:RO C ow G ρ σ H pd O) (own:List Str) (js:List Nat) (hj:∀ j∈js,ow[j]?≠some true) :
 RO ⟨G,H,bY (fun _=>none) O,[],0⟩ [] G (dY own.length js ρ) (bG own js σ) H [] (bY (fun _=>none) O):=by
 have no:∀ a,bY (fun _=>none) O a=none:=fun a=>by unfold bY; cases O a <;> rfl
 refine ⟨by simp [dY,bG],h.gh,fun _ _ e=>e,fun _ _ e=>.inl e,fun a l e=>?_,fun a l π e=>?_,fun _ _ e _ _=>e,h.ft,fun _ e=>e,fun i v e=>by simp at e,?_,trivial,Nat.le_refl _⟩
 ·rw [no] at e; cases e
 ·exact absurd (e.symm.trans (no a)) (by simp)
 ·intro i d e
  unfold dY at e
  by_cases c:i<own.length
  ·rw [List.getElem?_append_left (by simpa using c),List.getElem?_replicate] at e
   split at e <;> cases e
  ·rw [List.getElem?_append_right (by simpa using c),List.getElem?_map] at e
   simp only [List.length_replicate] at e
   cases z:js[i - own.length]? with
   | none=>rw [z] at e; cases e
   | some j =>
    rw [z] at e
    have e':(ρ[j]?).getD none=some d:=Option.some.inj e
    have e2 : ρ[j]? = some (some d):=by
     cases w : ρ[j]? with
     | none=>rw [w] at e'; cases e'
     | some o=>rw [w] at e'; exact congrArg some e'
    obtain ⟨v,h1,h2⟩:=h.sl j d e2
    rw [if_neg (hj j (List.mem_of_getElem? z))] at h2
    refine ⟨v,?_,by simpa using h2⟩
    unfold bG
    rw [List.getElem?_append_right (by simpa using c),List.getElem?_map]
    simp only [List.length_map]
    rw [z,show (some j).map _=some ((σ[j]?).getD none) from rfl,h1]; rfl
end
theorem RO.back {C:Ctx} {ow:List Bool} {G G':Hp} {ρ0 ρ2:DSt} {σ0 σ2:St} {H H':Hp} {pd:List (D×V)} {O O':Own} (h0:RO C ow G ρ0 σ0 H pd O) (hn:∀ i:Nat,ow[i]?≠some true) (h:RO C ow G' ρ2 σ2 H' pd O') (z:az G G'):RO C ow G' ρ0 σ0 H' pd O' :=
 ⟨h0.len,h.gh,h.g0,h.gn,h.og,h.cok,h.fr,h.ft,h.al,h0.mp,fun i d e=>by
  obtain ⟨v,h1,h2⟩:=h0.sl i d e
  rw [if_neg (hn i)] at h2
  exact ⟨v,h1,by rw [if_neg (hn i)]; exact h2.mono z⟩,h.pn,h.np⟩
theorem iw {ow:List Bool} {J:It} {g:TG} {mg:MG} {tt:TT} {mt:MT} {te:TE} {me:ME} {C:Ctx} {G:Hp} {ρ:DSt} {σ:St} {H:Hp} {pd:List (D×V)} {ds:List D} {own:List Str} {js:List Nat} {K:List D→Prop} {Z:List V→Hp→Prop}
 (r:R C ow G ρ σ H pd) (hj:∀ j∈js,ow[j]?≠some true) (jo:kX J G ds) (sg:SG ⟨[],[],false⟩ g mg) (st:STe [] tt mt) (se:SE [] te me) (hk:∀ x H k,g x (bG own js σ) H k→g x (bG own js σ) H fun σ2 H2=>kept (bG own js σ) σ2∧k σ2 H2)
 (hl:ds.length≤1000) (h:iM mg mt me (dY own.length js ρ) ds K)
 (k:∀ es vs G' H',K es→az G G'→R C ow G' ρ σ H' pd→Reps G' es vs→vs.length≤1000→Z vs H'):lZ J g tt te (bG own js σ) H Z:=by
 obtain ⟨O,ro⟩:=r
 have ri:=ro.inner own js hj
 obtain ⟨I,i0,turn,fin⟩:=h
 have nt:∀ i:Nat,([]:List Bool)[i]?≠some true:=fun i=>by simp
 let C1:Ctx:=⟨G,H,bY (fun _=>none) O,[],0⟩
 have fnone:bY (fun _=>none) O=fun _=>none:=by funext a; unfold bY; cases O a <;> rfl
 refine ⟨fun i m acc H'=>m=ds.length - i∧i≤ds.length∧acc.length≤i∧∃ G' es,az G G'∧R C1 [] G' (dY own.length js ρ) (bG own js σ) H' []∧Reps G' es acc∧I i es,⟨_,rfl,Nat.zero_le _,Nat.le_refl _,G,[],az.refl _,⟨_,ri⟩,bK,i0⟩,?_⟩
 rintro i m acc H' ⟨rfl,hi,ha,G',es,z,r',pa,w⟩
 obtain ⟨sp,go⟩:=jo C1 [] G' _ _ H' [] i z r'
 by_cases hlt:i<ds.length
 ·obtain ⟨g1,g2⟩:=go ds[i] (List.getElem?_eq_getElem hlt)
  refine .inr ⟨g1,cB (by omega),fun acc' H2=>acc'.length≤i + 1∧∃ G2 es2,az G G2∧R C1 [] G2 (dY own.length js ρ) (bG own js σ) H2 []∧Reps G2 es2 acc'∧I (i + 1) es2,fun acc' H2 h=>⟨ds.length - (i + 1),by omega,rfl,hlt,h.1,h.2⟩,fun x H1 hy=>hk _ _ _ ?_⟩
  obtain ⟨G1,z1,r1,p1⟩:=g2 x H1 hy
  refine sg C1 G1 _ _ H1 [] ds[i] x _ _ (fun i v e=>by simp [C1] at e) r1 p1 (turn i ds[i] es (List.getElem?_eq_getElem hlt) w) fun ρ2 σ2 h2 r2=>?_
  refine st C1 G1 ρ2 σ2 H1 [] _ _ r2 h2 fun b ρ3 G3 H3 h3 z3 kp3 r3=>?_
  have bk:∀ {G4:Hp} {ρ4:DSt} {H4:Hp},az G3 G4→R C1 [] G4 ρ4 σ2 H4 []→R C1 [] G4 (dY own.length js ρ) (bG own js σ) H4 []:=fun z4 ⟨O4,r4⟩=>by
   obtain ⟨O1,r1'⟩:=r1
   exact ⟨_,r1'.back nt r4 (z3.trans z4)⟩
  cases b with
  | true =>
   rw [if_pos rfl] at h3 ⊢
   refine se C1 G3 ρ3 σ2 H3 [] _ _ r3 h3 fun d ρ4 v G4 H4 h4 z4 kp4 r4 p4=>?_
   exact ⟨by simp; omega,G4,es++[d],z.trans (z1.trans (z3.trans z4)),bk z4 r4,d_ (Reps.mono (z1.trans (z3.trans z4)) _ _ pa) (bn p4 bK),h4⟩
  | false =>
   rw [if_neg (by decide)] at h3 ⊢
   exact ⟨by omega,G3,es,z.trans (z1.trans z3),bk (az.refl _) r3,Reps.mono (z1.trans z3) _ _ pa,h3⟩
 ·have e:i=ds.length:=by omega
  subst e
  refine .inl ⟨sp (Nat.le_refl _),cx (by omega),?_⟩
  obtain ⟨O2,r2⟩:=r'
  refine k es acc G' H' (fin es w) z ⟨lf (fun _=>none) (fun _=>none) O O2,?_⟩ pa (by omega)
  refine ro.out (vs:=[]) r2 (fun _ _ _ e=>by cases e) ro.len ro.np (fun i d _ e=>e) (fun i d _ e=>.inl ⟨rfl,e⟩) fun O3 h1 h2 ts=>?_
  exact bg.keep ts (fun a j π hj e=>h1 a _ _ e rfl) ro.pn
section
variable {X:Cx} {ow:List Bool} {elt tg iter:Expr} {ifs:List Expr} {pos:Pos} {mi:MA} {mg:MG} {mt:MT} {me:ME} {scope:Scope} {cl:List (Str×Addr)}
def rY (n:Nat) (g:TG):Prop:=∀ (σ0:St),(∀ i,i<n→σ0[i]? = some none)→∀ σ x H k,kept σ0 σ→g x σ H k→g x σ H fun σ2 H2=>kept σ0 σ2∧k σ2 H2
def uu (n:Nat) (g:TGs):Prop:=∀ (σ0:St),(∀ i,i<n→σ0[i]? = some none)→∀ σ x H k,kept σ0 σ→g x σ H k→g x σ H fun σ2 H2=>kept σ0 σ2∧k σ2 H2
theorem fT:∀ {a b:St} {i:Nat} {v:V},kept a b→a[i]? = some none→kept a (b.set i (some v))
 | [],[],i,v,h,e=>by simp at e
 | none :: r,y :: r',0,v,h,e=>h
 | none :: r,y :: r',i + 1,v,h,e=>by simp only [List.set_cons_succ]; exact fT (a:=r) (b:=r') h (by simpa using e)
 | some w :: r,y :: r',0,v,h,e=>by simp at e
 | some w :: r,y :: r',i + 1,v,h,e=>by simp only [List.set_cons_succ]; exact ⟨h.1,fT (a:=r) (b:=r') h.2 (by simpa using e)⟩
 | [],_ :: _,_,_,h,_=>h.elim
 | none :: _,[],_,_,h,_=>h.elim
 | some _ :: _,[],_,_,h,_=>h.elim
theorem dq:∀ (a:St),kept a a
 | []=>trivial
 | none :: r=>dq r
 | some v :: r=>⟨rfl,dq r⟩
def MonG (g:TG):Prop:=∀ x σ H (k k':St→Hp→Prop),(∀ σ2 H2,k σ2 H2→k' σ2 H2)→g x σ H k→g x σ H k'
def MonGs (g:TGs):Prop:=∀ x σ H (k k':St→Hp→Prop),(∀ σ2 H2,k σ2 H2→k' σ2 H2)→g x σ H k→g x σ H k'
structure CG (n:Nat) (g:TG) (m:MG):Prop where
 sg:SG ⟨[],[],false⟩ g m
 kp:rY n g
 mn:MonG g
structure CGs (n:Nat) (g:TGs) (m:MGs):Prop where
 sg:SGs ⟨[],[],false⟩ g m
 kp:uu n g
 mn:MonGs g
theorem ce {n:Nat} (i:Nat) (h:i<n:=by decide):CG n (ip i) (ga i) :=
 ⟨fun C G ρ σ H pd d v k K hm r p h kk=>by obtain ⟨O,r⟩:=r; exact kk _ _ h ⟨O,r.setS (by simp) (fun v e=>by have:=hm i v e; simp at this) p⟩,
  fun σ0 h0 σ x H k hk hg=>⟨fT hk (h0 i h),hg⟩,fun x σ H k k' hk h=>hk _ _ h⟩
theorem rn {n:Nat}:CGs n gNil lI :=
 ⟨fun C G ρ σ H pd d v k K hm r p h kk=>by
  cases d with
  | nil=>rw [Reps] at p; exact ⟨p,kk _ _ h r⟩
  | cons _ _=>exact h.elim,fun σ0 h0 σ x H k hk hg=>⟨hg.1,hk,hg.2⟩,fun x σ H k k' hk h=>⟨h.1,hk _ _ h.2⟩⟩
theorem jI {n:Nat} {g:TG} {gs:TGs} {mg:MG} {mgs:MGs} (h1:CG n g mg) (h2:CGs n gs mgs):CGs n (rL g gs) (h_ mg mgs) :=
 ⟨fun C G ρ σ H pd d v k K hm r p h kk=>by
  cases d with
  | nil=>exact h.elim
  | cons d ds =>
   rw [Reps] at p
   obtain ⟨v,vs,rfl,p1,p3⟩:=p
   exact ⟨v,vs,rfl,h1.sg C G ρ σ H pd d v _ _ hm r p1 h fun ρ' σ' h' r'=>h2.sg C G ρ' σ' H pd ds vs k K hm r' p3 h' kk⟩,
  fun σ0 h0 σ x H k hk hg=>by
   obtain ⟨v,r,e,q⟩:=hg
   exact ⟨v,r,e,h1.mn _ _ _ _ _ (fun σ2 H2 z=>h2.kp σ0 h0 σ2 r H2 k z.1 z.2) (h1.kp σ0 h0 σ v H _ hk q)⟩,
  fun x σ H k k' hk h=>by
   obtain ⟨v,r,e,q⟩:=h
   exact ⟨v,r,e,h1.mn _ _ _ _ _ (fun σ2 H2 z=>h2.mn _ _ _ _ _ hk z) q⟩⟩
theorem sR {n j:Nat} {K:PySem.W.Frag} {gs:TGs} {mgs:MGs} (h:CGs n gs mgs) (ht:iG j mgs):CG n (gTup K j gs) (oH mgs) :=
 ⟨fun C G ρ σ H pd d v k K hm r p h' kk=>by
  cases d with
  | tup ds =>
   obtain ⟨a,xs,rfl,h1,h2⟩:=dD p
   exact ⟨a,xs,rfl,SqT.of (r.gh _ _ h1),by rw [h2.length]; exact ht _ _ _ h',h.sg C G ρ σ H pd ds xs k K hm r h2 h' kk⟩
  | _=>exact h'.elim,
  fun σ0 h0 σ x H k hk hg=>by obtain ⟨a,xs,e,e1,e2,q⟩:=hg; exact ⟨a,xs,e,e1,e2,h.kp σ0 h0 σ xs H k hk q⟩,
  fun x σ H k k' hk hg=>by obtain ⟨a,xs,e,e1,e2,q⟩:=hg; exact ⟨a,xs,e,e1,e2,h.mn _ _ _ _ _ hk q⟩⟩
def pZ (ow:List Bool) (m:ME):TE:=fun σ H Q=>∃ (C:Ctx) (G:Hp) (ρ:DSt) (pd:List (D×V)) (q:D→DSt→Prop),R C ow G ρ σ H pd∧m ρ q∧∀ d ρ' v G' H',q d ρ'→az G G'→Kp ow ρ ρ'→R C ow G' ρ' σ H' pd→Rep G' d v→Q v H'
def oQ (ow:List Bool) (m:MT):TT:=fun σ H Q=>∃ (C:Ctx) (G:Hp) (ρ:DSt) (pd:List (D×V)) (q:Bool→DSt→Prop),R C ow G ρ σ H pd∧m ρ q∧∀ d ρ' G' H',q d ρ'→az G G'→Kp ow ρ ρ'→R C ow G' ρ' σ H' pd→Q d H'
theorem kY {ow:List Bool} {m:ME}:SE ow (pZ ow m) m:=fun C G ρ σ H pd q Q r h k=>⟨C,G,ρ,pd,q,r,h,k⟩
theorem kK {ow:List Bool} {m:MT}:STe ow (oQ ow m) m:=fun C G ρ σ H pd q Q r h k=>⟨C,G,ρ,pd,q,r,h,k⟩
theorem QE.can {X:Cx} {ow:List Bool} {e:Expr} {m:ME} (h:QE X ow e m):PE X e (pZ ow m):=by
 obtain ⟨t,p,s⟩:=h
 exact ⟨fun pins s' σ H Q I ⟨C,G,ρ,pd,q,r,h,k⟩=>p.go pins s' σ H Q I (s C G ρ σ H pd q Q r h k)⟩
theorem QIf.can {X:Cx} {ow:List Bool} {e:List Expr} {m:MT} (h:QIf X ow e m):PIf X e (oQ ow m):=by
 obtain ⟨t,p,s⟩:=h
 exact ⟨fun pins s' σ H Q I ⟨C,G,ρ,pd,q,r,h,k⟩=>p.go pins s' σ H Q I (s C G ρ σ H pd q Q r h k)⟩
theorem gA {own:List Str} {js:List Nat} {σ:St}:∀ i,i<own.length→(bG own js σ)[i]? = some none:=fun i h=>by
 unfold bG
 rw [List.getElem?_append_left (by simpa using h),List.getElem?_map,List.getElem?_eq_getElem h]; rfl
theorem q_ {ow:List Bool} {wi:TI} {g:TG} {own:List Str} {js:List Nat} (si:SI ow wi mi) (cg:CG own.length g mg) (hj:∀ j∈js,ow[j]?≠some true):SF ow (kz wi g (oQ [] mt) (pZ [] me) own js) (rH mi mg mt me own.length js):=fun C G ρ σ H pd q Q r h k =>
 si C G ρ σ H pd _ _ r h fun ds ρ' G' H' J hq z kp r' jo=>by
  refine iw r' hj jo cg.sg kK kY (fun x H k hg=>cg.kp _ gA _ x H k (dq _) hg) hq.1 hq.2 fun es vs G2 H2 hK z2 r2 p2 hl p hp=>?_
  obtain ⟨O2,r2⟩:=r2
  exact k _ ρ' _ _ _ hK.2 (z.trans z2) kp (r2.newL hp hK.1 p2)
theorem l8 {ow:List Bool} {wi:TI} {g:TG} {own:List Str} {js:List Nat} (si:SI ow wi mi) (cg:CG own.length g mg) (hj:∀ j∈js,ow[j]?≠some true):SE ow (kz wi g (oQ [] mt) (pZ [] me) own js) (kU mi mg mt me own.length js):=fun C G ρ σ H pd q Q r h k =>
 si C G ρ σ H pd _ _ r h fun ds ρ' G' H' J hq z kp r' jo=>by
  refine iw r' hj jo cg.sg kK kY (fun x H k hg=>cg.kp _ gA _ x H k (dq _) hg) hq.1 hq.2 fun es vs G2 H2 hK z2 r2 p2 hl p hp=>?_
  obtain ⟨O2,r2⟩:=r2
  obtain ⟨r3,z3⟩:=r2.new hp (.lst vs)
  exact k _ ρ' _ _ _ hK (z.trans (z2.trans z3)) kp ⟨O2,r3⟩ (ja ax (Reps.mono z3 _ _ p2))
structure CInn (X:Cx) (tg:Expr) (ifs:List Expr) (elt:Expr) (g:TG) (mt:MT) (me:ME):Prop where
 pg:PG X tg g
 qi:QIf X [] ifs mt
 qe:QE X [] elt me
theorem lY {g:TG} (own:List Str) (js:List Nat) (c:CompOk X scope cl own js) (hc:X.calm=true) (hi:QI X ow tg iter mi) (cg:CG own.length g mg)
 (inner:∀ (C:Addr) (s₀:Shared) (H₀:Hp) (ex:List Addr),CInn (bp X scope cl (cJ X own js) C s₀ H₀ ex) tg ifs elt g mt me) (hj:∀ j∈js,ow[j]?≠some true:=by decide)
 (hs:∀ x,foldedSetIterable iter X.env x=pure x:=by intro _; rfl):QF X ow (.ListComp elt [⟨tg,iter,ifs,0⟩] scope pos) (rH mi mg mt me own.length js):=by
 obtain ⟨wi,pi,si⟩:=hi
 exact ⟨_,jm own js c hc pi (fun C s₀ H₀ ex=>⟨(inner C s₀ H₀ ex).pg,(inner C s₀ H₀ ex).qi.can,(inner C s₀ H₀ ex).qe.can⟩) hs,q_ si cg hj⟩
theorem eK {g:TG} (own:List Str) (js:List Nat) (c:CompOk X scope cl own js) (hc:X.calm=true) (hi:QI X ow tg iter mi) (cg:CG own.length g mg)
 (inner:∀ (C:Addr) (s₀:Shared) (H₀:Hp) (ex:List Addr),CInn (bp X scope cl (cJ X own js) C s₀ H₀ ex) tg ifs elt g mt me) (hj:∀ j∈js,ow[j]?≠some true:=by decide)
 (hs:∀ x,foldedSetIterable iter X.env x=pure x:=by intro _; rfl):QE X ow (.ListComp elt [⟨tg,iter,ifs,0⟩] scope pos) (kU mi mg mt me own.length js):=by
 obtain ⟨wi,pi,si⟩:=hi
 exact ⟨_,jm own js c hc pi (fun C s₀ H₀ ex=>⟨(inner C s₀ H₀ ex).pg,(inner C s₀ H₀ ex).qi.can,(inner C s₀ H₀ ex).qe.can⟩) hs,l8 si cg hj⟩
theorem kE {M:Md} {g:TG} {i:Nat} {y:Str} {spos py:Pos} (own:List Str) (js:List Nat) (c:CompOk X scope cl own js) (hc:X.calm=true) (hN:X.N.Nodup) (hy:X.N[i]? = some y) (hx:Loc X.env.scope y) (hi:QI X M.ow tg iter mi) (cg:CG own.length g mg)
 (inner:∀ (C:Addr) (s₀:Shared) (H₀:Hp) (ex:List Addr),CInn (bp X scope cl (cJ X own js) C s₀ H₀ ex) tg ifs elt g mt me) (hj:∀ j∈js,M.ow[j]?≠some true:=by decide) (ho:M.ow[i]?≠some true:=by decide) (hu:M.mu[i]?≠some true:=by decide)
 (hsw:swapsWith (.ListComp elt [⟨tg,iter,ifs,0⟩] scope pos) (some (.Name y py)) spos.line X.env=pure true:=by rfl)
 (hs:∀ x,foldedSetIterable iter X.env x=pure x:=by intro _; rfl) (hf:X.fn y=true∨X.env.scope.names.lookup y=some .local:=by first | exact .inl rfl | exact .inr rfl | assumption) :
 QS X M (.Assign [.Name y py] (.ListComp elt [⟨tg,iter,ifs,0⟩] scope pos) spos) (mT i (kU mi mg mt me own.length js)):=by
 obtain ⟨wi,pi,si⟩:=hi
 exact ⟨_,kL own js c hc hN hy hx pi (fun C s₀ H₀ ex=>⟨(inner C s₀ H₀ ex).pg,(inner C s₀ H₀ ex).qi.can,(inner C s₀ H₀ ex).qe.can⟩) hsw hs hf,nU (l8 si cg hj) ho hu⟩
end
theorem d6 {g:MG} {mt:MT} {me:ME} {ρ0:DSt} {ds:List D} {K:List D→Prop} (f:D→Option D)
 (step:∀ (d:D),d∈ds→∀ k:Option D→Prop,k (f d)→g d ρ0 fun ρ2=>mt ρ2 fun b ρ3=>if b=true then me ρ3 fun x _=>k (some x) else k none) (h:K (ds.filterMap f)):iM g mt me ρ0 ds K:=by
 refine ⟨fun i es=>es=(ds.take i).filterMap f,rfl,?_,fun es e=>by rw [e,List.take_length]; exact h⟩
 rintro i d es hd rfl
 have:=step d (List.mem_of_getElem? hd) (fun o=>match o with | some x=>(ds.take i).filterMap f++[x]=(ds.take (i + 1)).filterMap f | none=>(ds.take i).filterMap f=(ds.take (i + 1)).filterMap f) (by
  rw [List.take_add_one,hd]
  simp only [Option.toList,List.filterMap_append]
  cases e:f d with
  | none=>simp [e]
  | some x=>simp [e])
 exact this
theorem gg {g:MG} {me:ME} {ρ0:DSt} {ds:List D} {K:List D→Prop} (f:D→D)
 (step:∀ (d:D),d∈ds→∀ k:D→Prop,k (f d)→g d ρ0 fun ρ2=>me ρ2 fun x _=>k x) (h:K (ds.map f)):iM g (mo true) me ρ0 ds K:=by
 refine ⟨fun i es=>es=(ds.take i).map f,rfl,?_,fun es e=>by rw [e,List.take_length]; exact h⟩
 rintro i d es hd rfl
 have:=step d (List.mem_of_getElem? hd) (fun x=>(ds.take i).map f++[x]=(ds.take (i + 1)).map f) (by
  rw [List.take_add_one,hd]; simp)
 exact this
def lu (x:Int):List Int→List Int
 | []=>[x]
 | y :: r=>if x≤y then x :: y :: r else y :: lu x r
def cu:List Int→List Int
 | []=>[]
 | x :: r=>lu x (cu r)
theorem fZ (x:Int):∀ l:List Int,(lu x l).Perm (x :: l)
 | []=>List.Perm.refl _
 | y :: r=>by
  unfold lu
  split
  ·exact List.Perm.refl _
  ·exact ((fZ x r).cons y).trans (List.Perm.swap x y r)
theorem bC:∀ l:List Int,(cu l).Perm l
 | []=>List.Perm.refl _
 | x :: r=>(fZ x (cu r)).trans ((bC r).cons x)
theorem gD (x:Int):∀ {l:List Int},l.Pairwise (·≤·)→(lu x l).Pairwise (·≤·)
 | [],_=>by simp [lu]
 | y :: r,h=>by
  unfold lu
  rw [List.pairwise_cons] at h
  split
  ·rename_i c
   refine List.pairwise_cons.mpr ⟨fun z hz=>?_,List.pairwise_cons.mpr h⟩
   rcases List.mem_cons.mp hz with rfl | hz
   ·exact c
   ·exact Int.le_trans c (h.1 z hz)
  ·rename_i c
   refine List.pairwise_cons.mpr ⟨fun z hz=>?_,gD x h.2⟩
   rcases List.mem_cons.mp ((fZ x r).mem_iff.mp hz) with rfl | hz
   ·omega
   ·exact h.1 z hz
theorem dE:∀ l:List Int,(cu l).Pairwise (·≤·)
 | []=>List.Pairwise.nil
 | x :: r=>gD x (dE r)
theorem hU:∀ {a b:List Int},a.Perm b→a.Pairwise (·≤·)→b.Pairwise (·≤·)→a=b
 | [],b,p,_,_=>(List.Perm.nil_eq p)
 | x :: a,[],p,_,_=>by have:=p.length_eq; simp at this
 | x :: a,y :: b,p,ha,hb=>by
  have hx:x=y:=by
   rw [List.pairwise_cons] at ha hb
   have h1:x∈y :: b:=p.mem_iff.mp (.head _)
   have h2:y∈x :: a:=p.mem_iff.mpr (.head _)
   rcases List.mem_cons.mp h1 with rfl | h1
   ·rfl
   rcases List.mem_cons.mp h2 with h2 | h2
   ·exact h2.symm
   have:=ha.1 y h2
   have:=hb.1 x h1
   omega
  subst hx
  rw [hU ((List.perm_cons x).mp p) (List.pairwise_cons.mp ha).2 (List.pairwise_cons.mp hb).2]
theorem kl {a b:List Int} (p:a.Perm b) (h:a.Pairwise (·≤·)):a=cu b:=hU (p.trans (bC b).symm) h (dE b)
theorem mD (l:List Int):(cu l).length=l.length:=(bC l).length_eq
section
variable {X:Cx}
def om (K:PySem.W.Frag):List V→Hp→VK→Prop:=fun xs H Q=>∃ (p:Addr) (ns:List Int),xs=[.ref p]∧SqL K H p (ns.map V.int)∧ns.length<64∧∀ l,H l=none→Q (.ref l) (upd H l (.lst ((cu ns).map V.int)))
theorem fq:cM X (.builtin "sorted") (om X.K):=by
 intro pins s σ H xs us Q I r h
 obtain ⟨p,ns,rfl,hS,h64,q⟩:=h
 obtain ⟨u,rfl,ru⟩:=gH r
 cases ru
 obtain ⟨its,rv,pl,_⟩:=I.list hS
 have hI:IntsAre its ns:=ib rv
 have hlen:its.length=ns.length:=by have:=rv.length; simp at this; exact this.symm
 refine sorted_ints (l:=p) (vs:=its) (ns:=ns) (isList_of pl) hI (by omega) fun out ns' a1 a2 a3=>?_
 obtain ⟨e,he⟩:=sortedAll_at s.heap its out
 have hl:ns'=cu ns:=kl a2 a3
 subst hl
 refine ⟨.ref (s.heap.objs.size + 1),_,I.laid (a:=s.heap.objs.size + 1) (o:=.lst ((cu ns).map V.int)) (t':=s.toks) (fun _ _ q=>sortedAll_old q) (Nat.le_succ _) ?_,rfl,q _ (I.hok.fresh (Nat.le_succ _))⟩
 refine ⟨Nat.le_of_lt (cB (by rw [List.length_map,mD]; omega)),out.toList,e,gz a1,?_⟩
 simpa [seqObj] using he
where
 isList_of {h:Heap} {a:Addr} {its:List Value} (pl:PlainL h a its.toArray):h.IsList a its.toArray:=by
  first | exact pl.isList | exact pl.1 | exact pl
theorem il {pins:List (Addr×Obj)} {σ:St} {H:Hp} {s:Shared} {p:Addr} {xs:List V} (I:Inv X pins σ H s) (h:SqL X.K H p xs):∃ its:List Value,aI xs its∧s.heap.IsList p its.toArray:=by
 obtain ⟨its,rv,⟨o,n,h1,h2,h3,h4⟩,_⟩:=I.list h
 exact ⟨its,rv,o,h1,h2,n,h4⟩
theorem jR:∀ {bs:List Bool} {us:List Value},aI (bs.map V.bl) us→LSm.BoolsAre us bs
 | [],us,h=>by cases h; exact .nil
 | b :: bs,us,h=>by
  cases h with
  | cons r1 r2=>cases (show _=Value.bool b from r1); exact .cons b (jR r2)
theorem ni (hc:X.calm=true):cM X (.builtin "any") (fun xs H Q=>∃ (p:Addr) (bs:List Bool),xs=[.ref p]∧SqL X.K H p (bs.map V.bl)∧Q (.bl (bs.any id)) H):=by
 intro pins s σ H xs us Q I r h
 obtain ⟨p,bs,rfl,hS,q⟩:=h
 obtain ⟨u,rfl,ru⟩:=gH r
 cases ru
 obtain ⟨its,rv,hl⟩:=il I hS
 have truths:=jR rv
 have below:p<s.heap.objs.size:=by obtain ⟨_,at_p,_⟩:=hl; exact Heap.lt_size at_p
 refine call_any_walk (wpAny_pyIter_list hl ⟨s.heap.objs.size,[s.heap.objs.size,p],[s.heap.objs.size],its.toArray.size,_,_,fun j=>(bs[j]?).getD false,rfl,Walks.list (A:=X.A.in1) (I.ok.hd hc) _ p (Nat.ne_of_lt below) its.toArray,
  ⟨⟨_,Heap.get?_push_size _ rfl,rfl,rfl⟩,hl.push _⟩,fun j u s₁ Q₁ E₁ at_j want=>?_,fun hp tk₁ kept=>?_⟩)
 ·obtain ⟨b,is_b,rfl⟩:=truths.get j u (by simpa using at_j)
  simp only [is_b,Option.getD_some] at want
  exact wpAny_truthy_bool want
 ·have same:((List.range its.toArray.size).any fun j=>(bs[j]?).getD false)=bs.any id:=by rw [List.size_toArray,truths.length]; exact LSm.range_any bs
  rw [same]
  exact ⟨.bl (bs.any id),H,I.kept (LSm.kept_iter kept),rfl,q⟩
end
theorem dP {G:Hp}:∀ {ns:List Int} {xs:List V},Reps G (ns.map D.int) xs→xs=ns.map V.int
 | [],xs,h=>by rw [List.map_nil,Reps] at h; subst h; rfl
 | n :: r,xs,h=>by rw [List.map_cons,Reps] at h; obtain ⟨v,vs,rfl,h1,h2⟩:=h; rw [aA h1,dP h2]; rfl
theorem gG {G:Hp}:∀ {ns:List Bool} {xs:List V},Reps G (ns.map D.bl) xs→xs=ns.map V.bl
 | [],xs,h=>by rw [List.map_nil,Reps] at h; subst h; rfl
 | n :: r,xs,h=>by rw [List.map_cons,Reps] at h; obtain ⟨v,vs,rfl,h1,h2⟩:=h; rw [b7 h1,gG h2]; rfl
def nW:List D→(List D→Prop)→Prop:=fun ds q=>match ds with
 | [.lst xs]=>∃ ns:List Int,xs=ns.map D.int∧ns.length<64∧q ((cu ns).map D.int)
 | _=>False
theorem pK {K:PySem.W.Frag}:gw (om K) nW:=fun G H xs ds q Q s p hf k=>by
 unfold nW at hf
 split at hf
 ·obtain ⟨v,rfl,p1⟩:=bj p
  obtain ⟨a,xs,rfl,h1,h2⟩:=bh p1
  obtain ⟨ns,rfl,hl,hq⟩:=hf
  rw [dP h2] at h1
  exact ⟨a,ns,rfl,SqL.of (s _ _ h1),hl,fun l hl=>k _ _ l hq (iZ _) hl⟩
 ·exact hf.elim
def fAny:List D→(D→Prop)→Prop:=fun ds q=>match ds with
 | [.lst xs]=>∃ bs:List Bool,xs=bs.map D.bl∧q (.bl (bs.any id))
 | _=>False
theorem dAny {K:PySem.W.Frag}:fS (fun xs H Q=>∃ (p:Addr) (bs:List Bool),xs=[.ref p]∧SqL K H p (bs.map V.bl)∧Q (.bl (bs.any id)) H) fAny:=fun G H xs ds q Q s p hf k=>by
 unfold fAny at hf
 split at hf
 ·obtain ⟨v,rfl,p1⟩:=bj p
  obtain ⟨a,xs,rfl,h1,h2⟩:=bh p1
  obtain ⟨bs,rfl,hq⟩:=hf
  rw [gG h2] at h1
  exact ⟨a,bs,rfl,SqL.of (s _ _ h1),k _ _ hq (b6 _)⟩
 ·exact hf.elim
section
variable {C:Ctx} {ow:List Bool} {G:Hp} {ρ:DSt} {σ:St} {H:Hp} {pd:List (D×V)} {O:Own}
end
section
variable {ow:List Bool} {t:TE} {m:ME}
end
section
variable {X:Cx} {M:Md} {a b c e:Expr} {ma mb mc:ME} {pos pos':Pos} {mr:MA} {es:List Expr}
theorem aZ (ns:List Int):imms (ns.map D.int)=true:=by
 induction ns with
 | nil=>rfl
 | cons n r ih=>simp only [List.map,imms,imm,ih]; rfl
end
def mCut (m:MS):MS:=fun n ρ=>∃ I:DSt→Prop,m { n with nx:=I } ρ∧∀ ρ',I ρ'→n.nx ρ'
theorem ik {X:Cx} {M:Md} {st:Stmt} {m:MS} (h:QS X M st m):QS X M st (mCut m):=by
 obtain ⟨t,p,s⟩:=h
 refine ⟨_,p,fun C G ρ σ H n D hm hn r h k=>?_⟩
 obtain ⟨I,h1,h2⟩:=h
 exact s C G ρ σ H _ D hm hn r h1 ⟨fun ρ' σ' G' H' hi=>k.nx ρ' σ' G' H' (h2 ρ' hi),k.bk,k.ct,k.rt⟩
mutual
theorem Sep.strip {G H:Hp} {O O':Own} {i i':Nat} {sfx:List Nat} :
 ∀ (d:D) (π:List Nat) (v:V),(∀ a τ,O a=some (i,(τ++π)++sfx)→O' a=some (i',τ++π))→Sep G H O i d (π++sfx) v→Sep G H O' i' d π v
 | .non,_,_,_,h=>by rw [Sep] at *; exact h
 | .bl b,_,_,_,h=>by rw [Sep] at *; exact h
 | .int n,_,_,_,h=>by rw [Sep] at *; exact h
 | .str x,_,_,_,h=>by rw [Sep] at *; exact h
 | .tup ds,π,v,hO,h=>by
  rw [Sep] at *
  obtain ⟨a,xs,h1,h2,h3⟩:=h
  exact ⟨a,xs,h1,h2,Seps.strip ds 0 π xs (fun a τ=>hO a τ) h3⟩
 | .lst ds,π,v,hO,h=>by
  rw [Sep] at *
  obtain ⟨a,xs,h1,h2,h3,h4⟩:=h
  exact ⟨a,xs,h1,hO a [] h2,h3,Seps.strip ds 0 π xs (fun a τ=>hO a τ) h4⟩
 | .dic ks ds,π,v,hO,h=>by
  rw [Sep] at *
  obtain ⟨a,xs,h1,h2,h3,h5,h4⟩:=h
  exact ⟨a,xs,h1,hO a [] h2,h3,h5,Seps.strip ds 0 π xs (fun a τ=>hO a τ) h4⟩
 | .obj C ks ds,π,v,hO,h=>by
  rw [Sep] at *
  obtain ⟨a,dx,xs,h1,h2,h3,h5,h4⟩:=h
  exact ⟨a,dx,xs,h1,hO a [] h2,h3,h5,Seps.strip ds 0 π xs (fun a τ=>hO a τ) h4⟩
 | .dct,_,_,_,h=>by rw [Sep] at h; exact h.elim
 | .scr _ _,_,_,_,h=>by rw [Sep] at h; exact h.elim
 | .ext _,_,_,_,h=>by rw [Sep] at h; exact h.elim
theorem Seps.strip {G H:Hp} {O O':Own} {i i':Nat} {sfx:List Nat} :
 ∀ (ds:List D) (k:Nat) (π:List Nat) (xs:List V),(∀ a τ,O a=some (i,(τ++π)++sfx)→O' a=some (i',τ++π))→Seps G H O i ds k (π++sfx) xs→Seps G H O' i' ds k π xs
 | [],_,_,_,_,h=>by rw [Seps] at *; exact h
 | d :: ds,k,π,xs,hO,h=>by
  rw [Seps] at *
  obtain ⟨v,vs,h1,h2,h3⟩:=h
  refine ⟨v,vs,h1,Sep.strip d (k :: π) v (fun a τ e=>?_) h2,Seps.strip ds (k + 1) π vs hO h3⟩
  have e' : τ++k :: π=(τ++[k])++π:=by simp
  rw [e'] at e ⊢
  exact hO a (τ++[k]) e
end
section
variable {C:Ctx} {ow:List Bool} {G:Hp} {ρ:DSt} {σ:St} {H:Hp} {pd:List (D×V)} {O:Own}
theorem RO.split {ds:List D} {v:V} (h:RO C ow G ρ σ H ((.tup ds,v) :: pd) O) (hn:C.np≤pd.length):∃ a xs,v = .ref a∧G a=some (.tup xs)∧xs.length=ds.length∧R C ow G ρ σ H (ds.zip xs++pd):=by
 obtain ⟨s,pn⟩:=h.pn
 rw [Sep] at s
 obtain ⟨a,xs,rfl,hG,hs⟩:=s
 have hl:=hs.length
 refine ⟨a,xs,rfl,hG,hl,lab (fun l π=>if l=2 * pd.length + 1 then (2 * (pd.length + (ds.length - 1 - π.getLastD 0)) + 1,π.dropLast) else (l,π)) O,h.len,h.gh,h.g0,h.gn,?_,h.cok,h.fr,h.ft,h.al,h.mp,?_,?_,by simp; omega⟩
 ·intro b m e
  obtain ⟨l,π,e1,rfl⟩:=hV e
  obtain ⟨q1,q2,q3⟩:=h.og b _ e1
  refine ⟨q1,q2,?_⟩
  split
  ·rename_i z
   rcases q3 with q3 | ⟨_,q3⟩
   ·exact .inl q3
   ·rcases h.cok _ _ _ q3 with ⟨k,_,q4,_⟩ | ⟨k,q4,q5⟩
    ·exact absurd (q4.symm.trans z) a8
    ·omega
  ·exact q3
 ·intro j e q
  obtain ⟨u,h1,h2⟩:=h.sl j e q
  refine ⟨u,h1,?_⟩
  split at h2
  ·rename_i c; rw [if_pos c]; exact h2.keep (fun _ _ z=>z) fun a τ q=>⟨by rw [bJ q,if_neg a8],rfl⟩
  ·rename_i c; rw [if_neg c]; exact h2
 ·have old:∀ (O':Own),(∀ b j π,j<pd.length→O b=some (2 * j + 1,π)→O' b=some (2 * j + 1,π))→bg G H O' pd:=fun O' hO=>bg.keep (fun _ _ z=>z) (fun b j π hj q=>⟨hO b j π hj q,rfl⟩) pn
  have key:∀ (ds0:List D) (k:Nat) (xs0:List V) (O':Own),k + ds0.length=ds.length→Seps G H O (2 * pd.length + 1) ds0 k [] xs0 →
   (∀ b j π,j<pd.length→O b=some (2 * j + 1,π)→O' b=some (2 * j + 1,π))→(∀ b τ k',O b=some (2 * pd.length + 1,τ++[k'])→O' b=some (2 * (pd.length + (ds.length - 1 - k')) + 1,τ))→bg G H O' (ds0.zip xs0++pd):=by
   intro ds0
   induction ds0 with
   | nil=>intro k xs0 O' _ _ ho _; exact old O' ho
   | cons d0 r ih =>
    intro k xs0 O' hk hh ho hnw
    rw [Seps] at hh
    obtain ⟨w,ws,rfl,w1,w2⟩:=hh
    have hwl:=w2.length
    refine ⟨?_,ih (k + 1) ws O' (by simp at hk; omega) w2 ho hnw⟩
    have e:(List.zip r ws++pd).length=pd.length + (ds.length - 1 - k):=by simp at hk ⊢; omega
    show Sep G H O' (2 * (List.zip r ws++pd).length + 1) d0 [] w
    rw [e]
    exact Sep.strip (sfx:=[k]) d0 [] w (fun b τ q=>by simpa using hnw b τ k (by simpa using q)) w1
  refine key ds 0 xs _ (by omega) hs (fun b j π hj q=>by rw [bJ q,if_neg (by omega)]) (fun b τ k' q=>?_)
  rw [bJ q,if_pos rfl]
  simp
end
def SGF (M:Md) (g:TGs) (m:MGs):Prop:=∀ (C:Ctx) (G:Hp) (ρ:DSt) (σ:St) (H:Hp) (T pd:List (D×V)) (k:DSt→Prop) (K:St→Hp→Prop),hZ C M.mu→C.np≤pd.length→R C M.ow G ρ σ H (T++pd)→m (T.map (·.1)) ρ k →
 (∀ ρ' σ' G',k ρ'→az G G'→R C M.ow G' ρ' σ' H pd→K σ' H)→g (T.map (·.2)) σ H K
structure QGF (X:Cx) (M:Md) (e:List Expr) (m:MGs):Prop where
 ex:∃ t,PGs X e t∧SGF M t m
section
variable {X:Cx} {M:Md} {a b c e:Expr} {ma mb mc:ME} {pos pos':Pos} {mr:MA} {es:List Expr} {mgs:MGs}
theorem qJ:QGF X M [] lI:=⟨_,gR,fun C G ρ σ H T pd k K hm hn r h kk=>by
 cases T with
 | nil=>exact ⟨rfl,kk _ _ G h (az.refl _) r⟩
 | cons _ _=>exact h.elim⟩
theorem qN {i:Nat} {x:Str} (hN:X.N.Nodup) (hi:X.N[i]? = some x) (hx:Loc X.env.scope x) (h2:QGF X M es mgs) (ho:M.ow[i]? = some true:=by decide) (hu:M.mu[i]?≠some true:=by decide) (hf:X.fn x=true∨X.env.scope.names.lookup x=some .local:=by first | exact .inl rfl | exact .inr rfl | assumption)
 (hs:(assignEach (.Name x pos :: es) X.env).map (·.2)=assign (.Name x pos) X.env :: (assignEach es X.env).map (·.2):=by rfl):QGF X M (.Name x pos :: es) (h_ (ga i) mgs):=by
 obtain ⟨t2,p2,s2⟩:=h2
 refine ⟨_,cp (a9 hN hi hx hf) p2 hs,fun C G ρ σ H T pd k K hm hn r h kk=>?_⟩
 cases T with
 | nil=>exact h.elim
 | cons x T =>
  obtain ⟨O,r⟩:=r
  exact ⟨_,_,rfl,s2 C G _ _ H T pd k K hm hn (r.setO ho (hm.no hu) (by simp; omega)) h kk⟩
theorem tu {i:Nat} {x:Str} (hN:X.N.Nodup) (hi:X.N[i]? = some x) (hx:Loc X.env.scope x) (h2:QGF X M es mgs) (ho:M.ow[i]?≠some true:=by decide) (hu:M.mu[i]?≠some true:=by decide) (hf:X.fn x=true∨X.env.scope.names.lookup x=some .local:=by first | exact .inl rfl | exact .inr rfl | assumption)
 (hs:(assignEach (.Name x pos :: es) X.env).map (·.2)=assign (.Name x pos) X.env :: (assignEach es X.env).map (·.2):=by rfl):QGF X M (.Name x pos :: es) (h_ (ga i) mgs):=by
 obtain ⟨t2,p2,s2⟩:=h2
 refine ⟨_,cp (a9 hN hi hx hf) p2 hs,fun C G ρ σ H T pd k K hm hn r h kk=>?_⟩
 cases T with
 | nil=>exact h.elim
 | cons x T =>
  obtain ⟨O,r⟩:=r
  obtain ⟨G2,z2,⟨O2,r2⟩,p⟩:=r.share (by simp; omega)
  exact ⟨_,_,rfl,s2 C G2 _ _ H T pd k K hm hn ⟨O2,r2.setS ho (hm.no hu) p⟩ h fun ρ' σ' G' hk z r'=>kk ρ' σ' G' hk (z2.trans z) r'⟩
theorem qD {kk:Nat} {n:Nat} {tpos:Pos} (hc:X.calm=true) (he:QM X M e ma) (hg:QGF X M es mgs) (ht:iG n mgs)
 (hn:(assignEach es X.env).length=n:=by rfl) (hst:(assignEach es X.env).findIdx? (·.1)=none:=by rfl)
 (hs:swapsWithSole [.Tuple es kk tpos] e pos.line X.env=pure false:=by rfl) (hw:swappedStores [.Tuple es kk tpos] e X.env=pure none:=by rfl)
 (h1:(assignEach [.Tuple es kk tpos] X.env).map (·.2)=[assign (.Tuple es kk tpos) X.env]:=by rfl):QS X M (.Assign [.Tuple es kk tpos] e pos) (mAsg ma (oH mgs)):=by
 obtain ⟨t,p,s⟩:=he; obtain ⟨t2,p2,s2⟩:=hg
 refine ⟨_,jG p (jC hc p2 hn hst) hs hw h1,fun C G ρ σ H n D hm hn r h k=>s C G ρ σ H [] _ _ hm r h fun d ρ' v G' H' hq z r'=>?_⟩
 cases d with
 | tup ds =>
  obtain ⟨O,r'⟩:=r'
  obtain ⟨a,xs,rfl,h1,h2,r2⟩:=r'.split (by rw [hn]; exact Nat.zero_le _)
  have hl:=ht _ _ _ hq
  have e1:(ds.zip xs).map (·.1)=ds:=List.map_fst_zip (by omega)
  have e2:(ds.zip xs).map (·.2)=xs:=List.map_snd_zip (by omega)
  refine ⟨a,xs,rfl,SqT.of (r2.gh _ _ h1),by omega,?_⟩
  have:=s2 C G' ρ' σ H' (ds.zip xs) [] n.nx D.nx hm (by rw [hn]; exact Nat.zero_le _) r2 (by rw [e1]; exact hq) fun ρ3 σ3 G3 h3 z3 r3=>k.nx ρ3 σ3 G3 H' h3 (z.trans z3) r3
  rw [e2] at this
  exact this
 | _=>exact hq.elim
end
def rGetL (K:PySem.W.Frag):V→V→Hp→VK→Prop:=fun x y H Q=>∃ p xs i v,x = .ref p∧y = .int i∧SqL K H p xs∧0≤i∧atI xs i=some v∧Q v H
theorem pB {X:Cx}:PGet X (rGetL X.K):=fun pins s σ H o i ov iv Q I ro ri h=>by
 obtain ⟨p,xs,k,v,rfl,rfl,hS,h0,ha,q⟩:=h
 cases ro
 obtain ⟨t,rfl⟩:=ri
 obtain ⟨its,r,pl,hz⟩:=I.list hS
 obtain ⟨j,h1,h2,h3,h4,h5⟩:=fj ha
 obtain ⟨w,ew,rw'⟩:=r.get h2
 have hn:=ff
 have hj:k.toNat=j:=by
  rw [seqIndex_of h0 h5] at h1
  exact Option.some.inj h1
 exact wpAny_getItem_list pl.isList h0 (by omega) (by rw [hj]; simpa using ew) ⟨v,H,I,rw',q⟩
section
variable {X:Cx} {M:Md} {a b c e:Expr} {ma mb mc:ME} {pos pos':Pos}
def rK (i:Nat) (mk m:ME):MS:=fun n ρ=>match ρ[i]? with
 | some (some (.lst _))=>mk ρ fun k ρ1=>match k with
  | .int j=>match ρ1[i]? with
   | some (some (.lst ds))=>0≤j∧match atI ds j with
    | some (.int x)=>m ρ1 fun d ρ2=>match d with
     | .int y=>match ρ2[i]? with
      | some (some (.lst ds2))=>match ixN ds2.length j with
       | some p=>n.nx (ρ2.set i (some (.lst (ds2.set p (.int (x + y))))))
       | none=>False
      | _=>False
     | _=>False
    | _=>False
   | _=>False
  | _=>False
 | _=>False
theorem qH {i:Nat} {x:Str} {npos spos:Pos} (hN:X.N[i]? = some x) (he:QE X M.ow e ma) (hk:QE X M.ow b mb) (ho:M.ow[i]? = some true:=by decide)
 (hv:Vis X.env.scope x:=by first | exact Or.inl rfl | exact Or.inr (Or.inl rfl) | exact Or.inr (Or.inr rfl)) (hd:(x == ("__debug__":Str))=false:=by decide) (hcd:(x == ("__classdict__":Str))=false:=by decide)
 (ha:∀ ov iv new,augStore b ov iv new=(do holding [new,ov,iv] (setItem ov iv new); release [new,ov,iv] []; pure .next):=by intros; rfl) :
 QS X M (.AugAssign (.Subscript (.Name x npos) b spos) .Add e pos) (rK i mb ma):=by
 obtain ⟨t,p,s⟩:=he; obtain ⟨t2,p2,s2⟩:=hk
 refine ⟨_,qC (bB hN hv hd hcd) p2 pB p ut jW ha,fun C G ρ σ H n D hm hn r h k=>?_⟩
 unfold rK at h
 split at h
 ·rename_i ds0 e0
  obtain ⟨O0,ro⟩:=r
  obtain ⟨a,xs0,hu,g0,_,_⟩:=ro.write e0 ho
  refine ⟨.ref a,hu,?_⟩
  refine s2 C G ρ σ H [] _ _ ⟨O0,ro⟩ h fun dk ρ1 jv G1 H1 hq1 z1 kp1 r1 pj=>?_
  cases dk with
  | int j =>
   dsimp only at hq1
   split at hq1
   ·rename_i ds1 e1
    obtain ⟨j0,hq1⟩:=hq1
    obtain ⟨O1,r1⟩:=r1
    obtain ⟨a1,xs1,hu1,g1,g2,_⟩:=r1.write e1 ho
    rw [hu] at hu1; cases hu1
    split at hq1
    ·rename_i x ex
     have exx:=ex
     obtain ⟨jj,q1,q2,q3,q4,q5⟩:=fj ex
     obtain ⟨v,w1,w2⟩:=g2.at q2
     have hv:atI xs1 j=some v:=by
      unfold atI at ex ⊢
      rw [g2.length]
      cases z:ixN ds1.length j with
      | none=>rw [z] at ex; cases ex
      | some j' =>
       have:j'=jj:=by
        have:=(gT z).1; rw [this] at q1; exact Option.some.inj q1
       subst this; exact w1
     have hv2:v = .int x:=by rw [Sep] at w2; exact w2
     subst hv2
     refine ⟨a,xs1,j,.int x,rfl,aA pj,SqL.of g1,j0,hv,?_⟩
     refine s C G1 ρ1 σ H1 [] _ _ ⟨O1,r1⟩ hq1 fun dy ρ2 yv G2 H2 hq2 z2 kp2 r2 py=>?_
     cases dy with
     | int y =>
      dsimp only at hq2
      split at hq2
      ·rename_i ds2 e2
       split at hq2
       ·rename_i pl e3
        obtain ⟨O2,r2⟩:=r2
        obtain ⟨a2,xs2,f1,f2,f3,f4⟩:=r2.write e2 ho
        rw [hu] at f1; cases f1
        refine ⟨x,y,rfl,aA py,a,xs2,j,pl,rfl,aA pj,f2,by rw [f3.length]; exact e3,?_⟩
        exact k.nx _ _ G2 _ hq2 (z1.trans z2) ⟨O2,f4 _ _ (f3.set (by rw [Sep]))⟩
       ·exact hq2.elim
      ·exact hq2.elim
     | _=>exact hq2.elim
    ·exact hq1.elim
   ·exact hq1.elim
  | _=>exact hq1.elim
 ·exact h.elim
end
def rS (g:MG) (mt:MT) (me:ME) (ρ0:DSt) (k0:Nat) (ds:List D) (d0:D) (K:List D→D→Prop):Prop:=∃ I:Nat→List D→D→Prop,I 0 [] d0 ∧
 (∀ i x es d,ds[i]? = some x→I i es d→g x (ρ0.set k0 (some d)) fun ρ2=>mt ρ2 fun b ρ3=>if b=true then me ρ3 fun y ρ4=>(match ρ4[k0]? with | some (some d')=>I (i + 1) (es++[y]) d' | _=>False) else match ρ3[k0]? with | some (some d')=>I (i + 1) es d' | _=>False) ∧
 ∀ es d,I ds.length es d→K es d
def oW (mi:MA) (g:MG) (mt:MT) (me:ME) (k:Nat) (js:List Nat) (j0 k0:Nat):ME:=fun ρ q=>mi ρ fun ds ρ1=>ds.length≤1000∧match ρ1[j0]? with
 | some (some d0)=>rS g mt me (dY k js ρ1) k0 ds d0 fun es d=>imms es=true∧q (.lst es) (ρ1.set j0 (some d))
 | _=>False
def owM (k0:Nat):List Bool:=List.replicate k0 false++[true]
theorem eG {k0 i:Nat}:(owM k0)[i]? = some true↔i=k0:=by
 unfold owM
 by_cases h:i<k0
 ·rw [List.getElem?_append_left (by simpa using h),List.getElem?_replicate,if_pos h]
  constructor
  ·intro z; cases z
  ·intro z; omega
 ·rw [List.getElem?_append_right (by simpa using h),List.length_replicate]
  cases e:i - k0 with
  | zero=>simp; omega
  | succ m=>simp; omega
def muM (k0:Nat) (v:V):List (Option V):=List.replicate k0 none++[some v]
theorem lM {k0 i:Nat} {v w:V} (h:(muM k0 v)[i]? = some (some w)):i=k0∧w=v:=by
 unfold muM at h
 by_cases c:i<k0
 ·rw [List.getElem?_append_left (by simpa using c),List.getElem?_replicate,if_pos c] at h; cases h
 ·rw [List.getElem?_append_right (by simpa using c),List.length_replicate] at h
  cases e:i - k0 with
  | zero=>rw [e] at h; simp at h; exact ⟨by omega,h.symm⟩
  | succ m=>rw [e] at h; simp at h
theorem r9 (k0:Nat) (v:V):(muM k0 v)[k0]? = some (some v):=by unfold muM; rw [List.getElem?_append_right (by simp)]; simp
theorem qv {k:Nat} {js:List Nat} {ρ:DSt} {i:Nat} {d:D} (e:(dY k js ρ)[i]? = some (some d)):k≤i∧∃ j,js[i - k]? = some j∧ρ[j]? = some (some d):=by
 unfold dY at e
 by_cases c:i<k
 ·rw [List.getElem?_append_left (by simpa using c),List.getElem?_replicate] at e
  split at e <;> cases e
 ·rw [List.getElem?_append_right (by simpa using c),List.getElem?_map] at e
  simp only [List.length_replicate] at e
  refine ⟨by omega,?_⟩
  cases z:js[i - k]? with
  | none=>rw [z] at e; cases e
  | some j =>
   rw [z] at e
   have e':(ρ[j]?).getD none=some d:=Option.some.inj e
   refine ⟨j,rfl,?_⟩
   cases w : ρ[j]? with
   | none=>rw [w] at e'; cases e'
   | some o=>rw [w] at e'; exact congrArg some e'
theorem lW {own:List Str} {js:List Nat} {σ:St} {i j:Nat} {v:V} (hi:own.length≤i) (hj:js[i - own.length]? = some j) (hv : σ[j]? = some (some v)):(bG own js σ)[i]? = some (some v):=by
 unfold bG
 rw [List.getElem?_append_right (by simpa using hi),List.getElem?_map]
 simp only [List.length_map]
 rw [hj,show (some j).map _=some ((σ[j]?).getD none) from rfl,hv]; rfl
structure CGM (k0 n:Nat) (g:TG) (m:MG):Prop where
 sg:SG ⟨owM k0,owM k0,false⟩ g m
 kp:rY n g
 mn:MonG g
theorem o0 {k0 n:Nat} (i:Nat) (h:i<n:=by decide) (hk:n≤k0:=by decide):CGM k0 n (ip i) (ga i) :=
 ⟨fun C G ρ σ H pd d v k K hm r p hh kk=>by
  have hn:(owM k0)[i]?≠some true:=fun z=>by have:=eG.mp z; omega
  obtain ⟨O,r⟩:=r; exact kk _ _ hh ⟨O,r.setS hn (hm.no hn) p⟩,
  fun σ0 h0 σ x H k hk hg=>⟨fT hk (h0 i h),hg⟩,fun x σ H k k' hk h=>hk _ _ h⟩
theorem jX {ow:List Bool} {J:It} {g:TG} {mg:MG} {tt:TT} {mt:MT} {te:TE} {me:ME} {C:Ctx} {G:Hp} {ρ:DSt} {σ:St} {H:Hp} {pd:List (D×V)} {ds:List D} {own:List Str} {js:List Nat} {j0 k0:Nat} {d0:D} {K:List D→D→Prop} {Z:List V→Hp→Prop}
 (r:R C ow G ρ σ H pd) (ho:ow[j0]? = some true) (hk0:own.length≤k0) (hjk:js[k0 - own.length]? = some j0) (hj:∀ (i j:Nat),js[i]? = some j→i≠k0 - own.length→ow[j]?≠some true) (he : ρ[j0]? = some (some d0)) (jo:kX J G ds) (cg:CGM k0 own.length g mg) (st:STe (owM k0) tt mt) (se:SE (owM k0) te me)
 (hl:ds.length≤1000) (h:rS mg mt me (dY own.length js ρ) k0 ds d0 K)
 (k:∀ es d vs G' H',K es d→az G G'→R C ow G' (ρ.set j0 (some d)) σ H' pd→Reps G' es vs→vs.length≤1000→Z vs H'):lZ J g tt te (bG own js σ) H Z:=by
 obtain ⟨O,ro⟩:=r
 obtain ⟨v0,hv0,sv0⟩:=ro.sl j0 d0 he
 rw [if_pos ho] at sv0
 let fin:Nat→Option Nat:=fun l=>if l=2 * j0 then some (2 * k0) else none
 let fbk:Nat→Option Nat:=fun l=>if l=2 * k0 then some (2 * j0) else none
 let C1:Ctx:=⟨G,H,bY fin O,muM k0 v0,0⟩
 let ρ0:=dY own.length js ρ
 have s0k:(bG own js σ)[k0]? = some (some v0):=lW hk0 hjk hv0
 have r0l:k0<ρ0.length:=by
  have:k0 - own.length<js.length:=(List.getElem?_eq_some_iff.mp hjk).1
  show k0<(dY own.length js ρ).length
  unfold dY; simp; omega
 have fino:∀ l l',fin l=some l'→l=2 * j0∧l'=2 * k0:=fun l l' e=>by
  change (if l=2 * j0 then _ else _)=_ at e
  split at e
  ·rename_i c; exact ⟨c,(Option.some.inj e).symm⟩
  ·cases e
 have finj:fin (2 * j0)=some (2 * k0):=by show (if _ then _ else _)=_; rw [if_pos rfl]
 -- the inner state,by the owned slot's value
 have inner:∀ {G':Hp} {H':Hp} {O':Own} {d:D},az G G'→az G' H'→(∀ a o,G' a=some o→G a=some o∨H a=none)→(∀ a l,O' a=some l→G' a=none∧(∃ xs:WrO,H' a=some xs.ho)∧Nw C1 a l.1) →
  (∀ a o,H a=some o→bY fin O a=none→NT o→H' a=some o)→(∀ a ps q,H' a=some (.tbl ps q)→G' a=none)→(∀ a,H' a=none→H a=none)→Sep G' H' O' (2 * k0) d [] v0→RO C1 (owM k0) G' (ρ0.set k0 (some d)) (bG own js σ) H' [] O':=by
  intro G' H' O' d z gh gn og fr ft al sp
  refine ⟨by rw [List.length_set]; show (dY own.length js ρ).length=_; unfold dY bG; simp,gh,z,gn,og,?_,fr,ft,al,?_,?_,trivial,Nat.le_refl _⟩
  ·intro a l π e
   obtain ⟨l0,e1,e2⟩:=eI e
   obtain ⟨_,rfl⟩:=fino _ _ e2
   exact .inl ⟨k0,v0,rfl,r9 k0 v0⟩
  ·intro i w e
   obtain ⟨rfl,rfl⟩:=lM e
   exact s0k
  ·intro i d' e
   rcases a_ e with ⟨rfl,e'⟩ | ⟨hne,e'⟩
   ·cases e'
    exact ⟨v0,s0k,by rw [if_pos (eG.mpr rfl)]; exact sp⟩
   ·obtain ⟨hi,j,h1,h2⟩:=qv e'
    obtain ⟨v,g1,g2⟩:=ro.sl j d' h2
    rw [if_neg (hj _ j h1 (by omega))] at g2
    exact ⟨v,lW hi h1 g1,by rw [if_neg (fun zz=>hne (eG.mp zz))]; exact g2.mono z⟩
 have og1:∀ a l,bY fin O a=some l→G a=none∧(∃ xs:WrO,H a=some xs.ho)∧Nw C1 a l.1:=fun a l e=>by
  obtain ⟨l',π⟩:=l
  obtain ⟨l0,e1,e2⟩:=eI e
  obtain ⟨q1,q2,_⟩:=ro.og a _ e1
  exact ⟨q1,q2,.inr ⟨π,e⟩⟩
 have start:R C1 (owM k0) G (ρ0.set k0 (some d0)) (bG own js σ) H []:=⟨_,inner (az.refl _) ro.gh (fun _ _ e=>.inl e) og1 (fun _ _ e _ _=>e) ro.ft (fun _ e=>e) (sv0.keep (fun _ _ z=>z) fun a τ q=>⟨lS q finj,rfl⟩)⟩
 obtain ⟨I,i0,turn,fini⟩:=h
 have hmu:hZ C1 (owM k0):=fun i v e=>by obtain ⟨rfl,_⟩:=lM e; exact eG.mpr rfl
 refine ⟨fun i m acc H'=>m=ds.length - i∧i≤ds.length∧acc.length≤i∧∃ G' es d,az G G'∧R C1 (owM k0) G' (ρ0.set k0 (some d)) (bG own js σ) H' []∧Reps G' es acc∧I i es d,⟨_,rfl,Nat.zero_le _,Nat.le_refl _,G,[],d0,az.refl _,start,bK,i0⟩,?_⟩
 rintro i m acc H' ⟨rfl,hi,ha,G',es,d,z,r',pa,w⟩
 obtain ⟨sp,go⟩:=jo C1 (owM k0) G' _ _ H' [] i z r'
 by_cases hlt:i<ds.length
 ·obtain ⟨g1,g2⟩:=go ds[i] (List.getElem?_eq_getElem hlt)
  refine .inr ⟨g1,cB (by omega),fun acc' H2=>acc'.length≤i + 1∧∃ G2 es2 d2,az G G2∧R C1 (owM k0) G2 (ρ0.set k0 (some d2)) (bG own js σ) H2 []∧Reps G2 es2 acc'∧I (i + 1) es2 d2,fun acc' H2 h=>⟨ds.length - (i + 1),by omega,rfl,hlt,h.1,h.2⟩,fun x H1 hy=>?_⟩
  obtain ⟨G1,z1,r1,p1⟩:=g2 x H1 hy
  have step1:=cg.sg C1 G1 _ _ H1 [] ds[i] x _ (fun σ2 H2=>∃ ρ2,(mt ρ2 fun b ρ3=>if b=true then me ρ3 fun y ρ4=>(match ρ4[k0]? with | some (some d')=>I (i + 1) (es++[y]) d' | _=>False) else match ρ3[k0]? with | some (some d')=>I (i + 1) es d' | _=>False)∧R C1 (owM k0) G1 ρ2 σ2 H2 []) hmu r1 p1 (turn i ds[i] es d (List.getElem?_eq_getElem hlt) w) (fun ρ2 σ2 h2 r2=>⟨ρ2,h2,r2⟩)
  refine cg.mn _ _ _ _ _ ?_ (cg.kp (bG own js σ) gA (bG own js σ) x H1 _ (dq _) step1)
  rintro σ2 H2 ⟨hkp,ρ2,h2,r2⟩
  refine ⟨hkp,st C1 G1 ρ2 σ2 H2 [] _ _ r2 h2 fun b ρ3 G3 H3 h3 z3 kp3 r3=>?_⟩
  have bk:∀ {G4:Hp} {ρ4:DSt} {H4:Hp} {d':D},ρ4[k0]? = some (some d')→R C1 (owM k0) G4 ρ4 σ2 H4 []→R C1 (owM k0) G4 (ρ0.set k0 (some d')) (bG own js σ) H4 []:=fun e4 ⟨O4,r4⟩=>by
   obtain ⟨v,q1,q2⟩:=r4.sl k0 _ e4
   rw [if_pos (eG.mpr rfl)] at q2
   rw [et hkp k0 v0 s0k] at q1
   cases q1
   exact ⟨O4,inner r4.g0 r4.gh r4.gn r4.og r4.fr r4.ft r4.al q2⟩
  cases b with
  | true =>
   rw [if_pos rfl] at h3 ⊢
   refine se C1 G3 ρ3 σ2 H3 [] _ _ r3 h3 fun y ρ4 v G4 H4 h4 z4 kp4 r4 p4=>?_
   split at h4
   ·rename_i d' e4
    exact ⟨by simp; omega,G4,es++[y],d',z.trans (z1.trans (z3.trans z4)),bk e4 r4,d_ (Reps.mono (z1.trans (z3.trans z4)) _ _ pa) (bn p4 bK),h4⟩
   ·exact h4.elim
  | false =>
   rw [if_neg (by decide)] at h3 ⊢
   split at h3
   ·rename_i d' e4
    exact ⟨by omega,G3,es,d',z.trans (z1.trans z3),bk e4 r3,Reps.mono (z1.trans z3) _ _ pa,h3⟩
   ·exact h3.elim
 ·have e:i=ds.length:=by omega
  subst e
  refine .inl ⟨sp (Nat.le_refl _),cx (by omega),?_⟩
  obtain ⟨O2,r2⟩:=r'
  refine k es d acc G' H' (fini es d w) z ⟨lf fin fbk O O2,?_⟩ pa (by omega)
  refine ro.out (vs:=[]) r2 ?_ (by rw [List.length_set]; exact ro.len) ro.np ?_ ?_ fun O3 h1 h2 ts=>?_
  ·intro l0 l' l e1 e2
   obtain ⟨rfl,rfl⟩:=fino _ _ e1
   change (if 2 * k0=2 * k0 then _ else _)=_ at e2
   rw [if_pos rfl] at e2
   exact (Option.some.inj e2).symm
  ·intro i d' c e
   rcases a_ e with ⟨rfl,_⟩ | ⟨_,e'⟩
   ·exact absurd ho c
   ·exact e'
  ·intro i d' c e
   rcases a_ e with ⟨rfl,e'⟩ | ⟨hne,e'⟩
   ·cases e'
    exact .inr ⟨k0,v0,by show (if _ then _ else _)=_; rw [if_pos rfl],eG.mpr rfl,by rw [List.getElem?_set_self r0l],hv0,s0k⟩
   ·exact .inl ⟨by show (if _ then _ else _)=_; rw [if_neg (by omega)],e'⟩
  ·exact bg.keep ts (fun a j π hj e=>h1 a _ _ e (by show (if _ then _ else _)=_; rw [if_neg (by omega)])) ro.pn
section
variable {X:Cx} {ow:List Bool} {elt tg iter:Expr} {ifs:List Expr} {pos:Pos} {mi:MA} {mg:MG} {mt:MT} {me:ME} {scope:Scope} {cl:List (Str×Addr)}
theorem nC {wi:TI} {g:TG} {own:List Str} {js:List Nat} {j0 k0:Nat} (si:SI ow wi mi) (cg:CGM k0 own.length g mg) (ho:ow[j0]? = some true) (hk0:own.length≤k0) (hjk:js[k0 - own.length]? = some j0) (hj:∀ (i j:Nat),js[i]? = some j→i≠k0 - own.length→ow[j]?≠some true) :
 SF ow (kz wi g (oQ (owM k0) mt) (pZ (owM k0) me) own js) (oW mi mg mt me own.length js j0 k0):=fun C G ρ σ H pd q Q r h k =>
 si C G ρ σ H pd _ _ r h fun ds ρ' G' H' J hq z kp r' jo=>by
  obtain ⟨hl,hq⟩:=hq
  split at hq
  ·rename_i d0 e0
   refine jX r' ho hk0 hjk hj e0 jo cg kK kY hl hq fun es d vs G2 H2 hK z2 r2 p2 hl p hp=>?_
   obtain ⟨O2,r2⟩:=r2
   exact k _ _ _ _ _ hK.2 (z.trans z2) (kp.trans fun j hj=>List.getElem?_set_ne (fun (zz:j0=j)=>hj (zz ▸ ho))) (r2.newL hp hK.1 p2)
  ·exact hq.elim
structure CInnM (X:Cx) (k0:Nat) (tg:Expr) (ifs:List Expr) (elt:Expr) (g:TG) (mt:MT) (me:ME):Prop where
 pg:PG X tg g
 qi:QIf X (owM k0) ifs mt
 qe:QE X (owM k0) elt me
theorem oF {g:TG} (own:List Str) (js:List Nat) (j0 k0:Nat) (c:CompOk X scope cl own js) (hc:X.calm=true) (hi:QI X ow tg iter mi) (cg:CGM k0 own.length g mg)
 (inner:∀ (C:Addr) (s₀:Shared) (H₀:Hp) (ex:List Addr),CInnM (bp X scope cl (cJ X own js) C s₀ H₀ ex) k0 tg ifs elt g mt me) (ho:ow[j0]? = some true:=by decide) (hk0:own.length≤k0:=by decide) (hjk:js[k0 - own.length]? = some j0:=by rfl)
 (hj:(js.mapIdx fun i j=>decide (i=k0 - own.length) || !decide (ow[j]? = some true)).all id=true:=by decide)
 (hs:∀ x,foldedSetIterable iter X.env x=pure x:=by intro _; rfl):QF X ow (.ListComp elt [⟨tg,iter,ifs,0⟩] scope pos) (oW mi mg mt me own.length js j0 k0):=by
 obtain ⟨wi,pi,si⟩:=hi
 have hj':∀ (i j:Nat),js[i]? = some j→i≠k0 - own.length→ow[j]?≠some true:=fun i j e hne z=>by
  rw [List.all_eq_true] at hj
  have:=hj (decide (i=k0 - own.length) || !decide (ow[j]? = some true)) (List.mem_of_getElem? (i:=i) (by rw [List.getElem?_mapIdx,e]; rfl))
  simp [hne,z] at this
 exact ⟨_,jm own js c hc pi (fun C s₀ H₀ ex=>⟨(inner C s₀ H₀ ex).pg,(inner C s₀ H₀ ex).qi.can,(inner C s₀ H₀ ex).qe.can⟩) hs,nC si cg ho hk0 hjk hj'⟩
end
section
variable {X:Cx} {M:Md} {a b c e:Expr} {ma mb mc:ME} {pos pos' p1 p2 p3:Pos} {te:TE} {j1:Nat} {ow:List Bool}
end
def isW:D→Bool
 | .int _=>true
 | _=>false
def btw (lo hi:Int):D→Bool
 | .int i=>decide (lo≤i)&&decide (i≤hi)
 | _=>false
structure Tree (ps rs:List Int):Prop where
 len:ps.length=rs.length
 lo : 1≤ps.length
 hi:ps.length≤23
 par:∀ (i:Nat) (x:Int),ps[i]? = some x→0≤x∧x≤i
 room:∀ (i:Nat) (x:Int),rs[i]? = some x→1≤x∧x≤1000000
def qc:SpD:=fun ds q=>∃ d,ds=[d]∧d.isS=false∧q (.bl (isW d)) []
def mJ:SpD:=fun ds q=>∃ d lo hi,ds=[d,.int lo,.int hi]∧d.isS=false∧q (.bl (btw lo hi d)) []
def tm:SpD:=fun ds q=>∃ ps rs,ds=[aR ps rs]∧Tree ps rs∧q (.bl true) []
def sX:SpD:=fun ds q=>∃ ps rs,ds=[aR ps rs]∧Tree ps rs∧q .non []
def oV (K:PySem.W.Frag) (φ:Addr→Prop) (ns:List Int):Prop:=∀ a H,φ a→SqL K H a (ns.map V.int)
def ul (K:PySem.W.Frag):SpD:=fun ds q=>∃ φ ns k,ds=[.scr φ ns,.int k]∧oV K φ ns∧0≤k∧k≤1000∧∀ c m,0≤c→q (ai [c,m]) []
def sV:SpD:=fun ds q=>∃ c m many,ds=[ai [c,m],.int many]∧0≤c∧0<many∧Sm many∧∀ r c' m',0≤r→r<many→0≤c'→q (.int r) [some (ai [c',m'])]
def o3 (K:PySem.W.Frag):SpD:=fun ds q=>∃ φ ns,ds=[.scr φ ns]∧oV K φ ns∧ns.length≤63∧q (.bl true) []
def l7 (K:PySem.W.Frag):Sp:=fun vs H Q _=>∃ (a:Addr) (ns:List Int),vs=[.ref a]∧Only H∧SqL K H a (ns.map V.int)∧ns.length≤63∧∀ H',Q (.bl true) H'
theorem oE {K:PySem.W.Frag} {vs:List V} {H:Hp} {Q:VK} {E:XK} (h:l7 K vs H Q E):aQ [false] false (o3 K) vs H Q E:=by
 obtain ⟨a,ns,rfl,hO,hS,hl,hq⟩:=h
 have main:∀ φ:Addr→Prop,oV K φ ns→Rep H (.scr φ ns) (.ref a)→aQ [false] false (o3 K) [.ref a] H Q E:=fun φ hφ r=>by
  refine ⟨⟨H,H,fun _=>none,[none],0⟩,H,[.scr φ ns],fun d _=>d = .bl true,rfl,rfl,⟨fun _=>none,rfl,az.refl _,az.refl _,fun _ _ e=>.inl e,fun a l e=>by (first | cases e),fun a l π e=>by (first | cases e),fun _ _ e _ _=>e,(fun a ps q e=>by rcases hO a with z | ⟨o,xs,z⟩ <;> (rw [e] at z; cases z)),fun _ e=>e,fun i v e=>?_,?_,trivial,Nat.le_refl _⟩,⟨φ,ns,rfl,hφ,hl,rfl⟩,rfl,?_⟩
  ·cases i with
   | zero=>simp at e
   | succ i=>simp at e
  ·intro i d e
   cases i with
   | zero=>simp at e; subst e; exact ⟨_,rfl,by simpa using r⟩
   | succ i=>simp at e
  ·intro d ρ' σ' v G' H' hd _ _ hr
   subst hd
   unfold Ret at hr
   rw [if_neg (by decide)] at hr
   rw [b7 hr.2]
   exact hq H'
 rcases hS with (h1 | ⟨o,h1⟩) | h1
 ·rcases hO a with z | ⟨o,xs,z⟩
  ·rw [h1] at z; cases z
  ·rw [h1] at z; cases z
 ·exact main (fun _=>False) (fun _ _ z=>z.elim) (by rw [Rep]; exact ⟨a,rfl,.inl ⟨o,h1⟩⟩)
 ·exact main (fun b=>b=a) (fun b H' z=>by subst z; exact .inr h1) (by rw [Rep]; exact ⟨a,rfl,.inr rfl⟩)
theorem bc {ns:List Int} {k:Int} (h0 : 0≤k) (h1:k<ns.length):atI (ns.map D.int) k=some (.int (ns.getD k.toNat 0)):=by
 have ek:k=((k.toNat:Nat):Int):=by omega
 have hl:k.toNat<ns.length:=by omega
 have:atI (ns.map D.int) ((k.toNat:Nat):Int)=some (.int (ns.getD k.toNat 0)):=dR (by rw [List.getElem?_map,List.getD_eq_getElem?_getD,List.getElem?_eq_getElem hl]; rfl)
 rw [← ek] at this
 exact this
theorem sY {ns:List Int} {k:Int} (h0 : 0≤k) (h1:k<ns.length):atI ns k=some (ns.getD k.toNat 0):=by
 have ek:k=((k.toNat:Nat):Int):=by omega
 have hl:k.toNat<ns.length:=by omega
 have:atI ns ((k.toNat:Nat):Int)=some (ns.getD k.toNat 0):=dR (by rw [List.getD_eq_getElem?_getD,List.getElem?_eq_getElem hl]; rfl)
 rw [← ek] at this
 exact this
theorem a6 {ds:List D} {k:Int} {d:D} {q:D→Prop} (h:atI ds k=some d) (hq:q d):atD ds k q:=by unfold atD; rw [h]; exact hq
theorem d8 {ns:List Int} {i:Nat} {d:D} (h:(ns.map D.int)[i]? = some d):∃ z,ns[i]? = some z∧d = .int z:=by
 rw [List.getElem?_map] at h
 cases e:ns[i]? with
 | none=>rw [e] at h; cases h
 | some z=>rw [e] at h; exact ⟨z,rfl,(Option.some.inj h).symm⟩
theorem dL {lo hi z:Int} (h1:lo≤z) (h2:z≤hi):btw lo hi (.int z)=true:=by show (decide (lo≤z)&&decide (z≤hi))=true; rw [decide_eq_true h1,decide_eq_true h2]; rfl
abbrev dH (ps:List Int) (k:Int):Int:=ps.getD (k - 1).toNat 0
theorem Tree.up {ps rs:List Int} (hT:Tree ps rs) {k:Int} (h0 : 0<k) (h1:k≤ps.length) : 0≤dH ps k∧dH ps k<k:=by
 have hl:(k - 1).toNat<ps.length:=by omega
 have e:ps[(k - 1).toNat]? = some (dH ps k):=by unfold dH; rw [List.getD_eq_getElem?_getD,List.getElem?_eq_getElem hl]; rfl
 have:=hT.par _ _ e
 omega
inductive Up (ps:List Int):Int→List Int→Prop
 | zero:Up ps 0 [0]
 | step {k:Int} {u:List Int} (h : 0<k):Up ps (dH ps k) u→Up ps k (k :: u)
theorem Up.det {ps:List Int} {k:Int} {u:List Int} (h:Up ps k u):∀ {v:List Int},Up ps k v→u=v:=by
 induction h with
 | zero=>intro v h; cases h with | zero=>rfl | step h0 _=>omega
 | step h0 _ ih=>intro v h; cases h with | zero=>omega | step _ h=>rw [ih h]
theorem Up.all {ps rs:List Int} (hT:Tree ps rs):∀ (n:Nat) (k:Int),k.toNat=n→0≤k→k≤ps.length→∃ u,Up ps k u
 | n,k,hn,h0,h1=>by
  by_cases hk:k=0
  ·subst hk; exact ⟨_,.zero⟩
  ·have hp:=hT.up (k:=k) (by omega) h1
   obtain ⟨u,hu⟩:=Up.all hT (dH ps k).toNat (dH ps k) rfl hp.1 (by omega)
   exact ⟨_,.step (by omega) hu⟩
termination_by n k hn=>n
decreasing_by omega
theorem Up.le {ps rs:List Int} (hT:Tree ps rs) {k:Int} {u:List Int} (h:Up ps k u):k≤ps.length→∀ x∈u,0≤x∧x≤k:=by
 induction h with
 | zero=>intro _ x hx; simp at hx; omega
 | step h0 _ ih =>
  intro h1 x hx
  have hp:=hT.up h0 h1
  rcases List.mem_cons.mp hx with rfl | hx
  ·omega
  ·have:=ih (by omega) x hx; omega
theorem Up.dec {ps rs:List Int} (hT:Tree ps rs) {k:Int} {u:List Int} (h:Up ps k u):k≤ps.length→u.Pairwise (· > ·):=by
 induction h with
 | zero=>intro _; simp
 | step h0 hu ih =>
  intro h1
  have hp:=hT.up h0 h1
  refine List.pairwise_cons.mpr ⟨fun x hx=>?_,ih (by omega)⟩
  have:=hu.le hT (by omega) x hx
  omega
theorem Up.len {ps rs:List Int} (hT:Tree ps rs) {k:Int} {u:List Int} (h:Up ps k u):k≤ps.length→(u.length:Int)≤k + 1:=by
 induction h with
 | zero=>intro _; simp
 | step h0 hu ih=>intro h1; have hp:=hT.up h0 h1; have:=ih (by omega); simp; omega
theorem Up.head {ps:List Int} {k:Int} {u:List Int} (h:Up ps k u):k∈u:=by cases h <;> simp
inductive Climb (ps:List Int):Int→Int→List Int→Int→Prop
 | same (a:Int):Climb ps a a [] a
 | left {a b:Int} {w:List Int} {m:Int} (h:b<a):Climb ps b (dH ps a) w m→Climb ps a b (a :: w) m
 | right {a b:Int} {w:List Int} {m:Int} (h:a<b):Climb ps a (dH ps b) w m→Climb ps a b (b :: w) m
theorem Climb.meet {ps rs:List Int} (hT:Tree ps rs) {a b m:Int} {w:List Int} (h:Climb ps a b w m) : 0≤a→0≤b→a≤ps.length→b≤ps.length→∀ {ua ub:List Int},Up ps a ua→Up ps b ub→m∈ua∧m∈ub∧∀ x∈ua,x∈ub→x≤m:=by
 induction h with
 | same a=>intro a0 _ a1 _ ua ub ha hb; have:=ha.det hb; subst this; exact ⟨ha.head,ha.head,fun x hx _=>(ha.le hT a1 x hx).2⟩
 | left hlt hc ih =>
  intro a0 b0 a1 b1 ua ub ha hb
  cases ha with
  | zero=>omega
  | step h0 hu =>
   have hp:=hT.up h0 a1
   obtain ⟨m1,m2,m3⟩:=ih b0 hp.1 b1 (by omega) hb hu
   refine ⟨List.mem_cons_of_mem _ m2,m1,fun x hx hxb=>?_⟩
   rcases List.mem_cons.mp hx with rfl | hx
   ·have:=(hb.le hT b1 _ hxb).2; omega
   ·exact m3 x hxb hx
 | right hlt hc ih =>
  intro a0 b0 a1 b1 ua ub ha hb
  cases hb with
  | zero=>omega
  | step h0 hu =>
   have hp:=hT.up h0 b1
   obtain ⟨m1,m2,m3⟩:=ih a0 hp.1 a1 (by omega) ha hu
   refine ⟨m1,List.mem_cons_of_mem _ m2,fun x hx hxb=>?_⟩
   rcases List.mem_cons.mp hxb with rfl | hxb
   ·have:=(ha.le hT a1 _ hx).2; omega
   ·exact m3 x hx hxb
theorem Climb.low {ps rs:List Int} (hT:Tree ps rs) {a b m:Int} {w:List Int} (h:Climb ps a b w m) : 0≤a→0≤b→a≤ps.length→b≤ps.length→0≤m∧m≤a∧m≤b:=by
 induction h with
 | same a=>intro a0 _ _ _; omega
 | left hlt hc ih=>intro a0 b0 a1 b1; have hp:=hT.up (show 0<_ by omega) a1; have:=ih b0 hp.1 b1 (by omega); omega
 | right hlt hc ih=>intro a0 b0 a1 b1; have hp:=hT.up (show 0<_ by omega) b1; have:=ih a0 hp.1 a1 (by omega); omega
theorem Climb.perm {ps rs:List Int} (hT:Tree ps rs) {a b m:Int} {w:List Int} (h:Climb ps a b w m) : 0≤a→0≤b→a≤ps.length→b≤ps.length→∀ {ua ub um:List Int},Up ps a ua→Up ps b ub→Up ps m um→w.Perm ((ua++ub).filter fun x=>!um.contains x):=by
 induction h with
 | same a =>
  intro a0 _ a1 _ ua ub um ha hb hm
  have:=ha.det hb; subst this
  have:=ha.det hm; subst this
  have:(ua++ua).filter (fun x=>!ua.contains x)=[]:=by
   rw [List.filter_eq_nil_iff]; intro x hx; simp at hx; simp [hx]
  rw [this]
 | @left a b w m hlt hc ih =>
  intro a0 b0 a1 b1 ua ub um ha hb hm
  cases ha with
  | zero=>omega
  | step h0 hu =>
   have hp:=hT.up h0 a1
   have hl:=hc.low hT b0 hp.1 b1 (by omega)
   have ih':=ih b0 hp.1 b1 (by omega) hb hu hm
   have hn : ¬ um.contains a=true:=fun z=>by
    have:=(hm.le hT (by omega) _ (List.contains_iff_mem.mp z)).2
    omega
   rw [List.cons_append,List.filter_cons_of_pos (by simpa using hn)]
   refine List.Perm.cons _ (ih'.trans ?_)
   exact List.Perm.filter _ List.perm_append_comm
 | @right a b w m hlt hc ih =>
  intro a0 b0 a1 b1 ua ub um ha hb hm
  cases hb with
  | zero=>omega
  | step h0 hu =>
   have hp:=hT.up h0 b1
   have hl:=hc.low hT a0 hp.1 a1 (by omega)
   have ih':=ih a0 hp.1 a1 (by omega) ha hu hm
   have hn : ¬ um.contains b=true:=fun z=>by
    have:=(hm.le hT (by omega) _ (List.contains_iff_mem.mp z)).2
    omega
   refine (List.Perm.cons _ ih').trans ?_
   refine List.Perm.trans ?_ (List.Perm.filter _ (List.perm_middle (l₁:=_)).symm)
   rw [List.filter_cons_of_pos (by simpa using hn)]
theorem Climb.mem {ps rs:List Int} (hT:Tree ps rs) {a b m:Int} {w:List Int} (h:Climb ps a b w m) : 0≤a→0≤b→a≤ps.length→b≤ps.length→∀ x∈w,0<x∧x≤ps.length:=by
 induction h with
 | same a=>intro _ _ _ _ x hx; cases hx
 | left hlt hc ih =>
  intro a0 b0 a1 b1 x hx
  have hp:=hT.up (show 0<_ by omega) a1
  rcases List.mem_cons.mp hx with rfl | hx
  ·omega
  ·exact ih b0 hp.1 b1 (by omega) x hx
 | right hlt hc ih =>
  intro a0 b0 a1 b1 x hx
  have hp:=hT.up (show 0<_ by omega) b1
  rcases List.mem_cons.mp hx with rfl | hx
  ·omega
  ·exact ih a0 hp.1 a1 (by omega) x hx
theorem Climb.len {ps rs:List Int} (hT:Tree ps rs) {a b m:Int} {w:List Int} (h:Climb ps a b w m) : 0≤a→0≤b→a≤ps.length→b≤ps.length→(w.length:Int)≤a + b:=by
 induction h with
 | same a=>intro _ _ _ _; simp; omega
 | left hlt hc ih=>intro a0 b0 a1 b1; have hp:=hT.up (show 0<_ by omega) a1; have:=ih b0 hp.1 b1 (by omega); simp; omega
 | right hlt hc ih=>intro a0 b0 a1 b1; have hp:=hT.up (show 0<_ by omega) b1; have:=ih a0 hp.1 a1 (by omega); simp; omega
theorem Climb.det {ps:List Int} {a b m:Int} {w:List Int} (h:Climb ps a b w m):∀ {m':Int} {w':List Int},Climb ps a b w' m'→w=w'∧m=m':=by
 induction h with
 | same a=>intro m' w' h; cases h with | same=>exact ⟨rfl,rfl⟩ | left h _=>omega | right h _=>omega
 | left hlt hc ih=>intro m' w' h; cases h with | same=>omega | left _ h=>have:=ih h; exact ⟨by rw [this.1],this.2⟩ | right h _=>omega
 | right hlt hc ih=>intro m' w' h; cases h with | same=>omega | right _ h=>have:=ih h; exact ⟨by rw [this.1],this.2⟩ | left h _=>omega
structure Ends2 (ps:List Int) (a b:Int):Prop where
 a0 : 0≤a
 a1:a≤ps.length
 b0 : 0≤b
 b1:b≤ps.length
 ne:a≠b
def qQ:SpD:=fun ds q=>∃ ps rs d,ds=[aR ps rs,d]∧d.isS=false∧q (.bl (btw 0 ps.length d)) []
def s_:SpD:=fun ds q=>∃ ps rs a b,ds=[aR ps rs,.int a,.int b]∧Ends2 ps a b∧q (.bl true) []
def lg:SpD:=fun ds q=>∃ ps rs a b,ds=[aR ps rs,.int a,.int b]∧Tree ps rs∧Ends2 ps a b∧q .non []
def qZ:SpD:=fun ds q=>∃ ps rs a b,ds=[aR ps rs,.int a,.int b]∧Tree ps rs∧0≤a∧a≤ps.length∧0≤b∧b≤ps.length∧∀ w m,Climb ps a b w m→q (.tup [ai (cu w),.int m]) []
def sdWay:SpD:=fun ds q=>∃ ps rs a b,ds=[aR ps rs,.int a,.int b]∧Tree ps rs∧Ends2 ps a b∧∀ w m,Climb ps a b w m→q (ai (cu w)) []
theorem eJ (ps:List Int) (y:Int):D.lst (ps.map D.int++[D.int y])=ai (ps++[y]):=by unfold ai; rw [List.map_append]; rfl
theorem aw (ps:List Int):(ps.map D.int).length=ps.length:=List.length_map _
theorem lF {P:Nat→Int→Prop} {ps:List Int} {y:Int} (h:∀ (j:Nat) (x:Int),ps[j]? = some x→P j x) (hy:P ps.length y):∀ (j:Nat) (x:Int),(ps++[y])[j]? = some x→P j x:=by
 intro j x hj
 by_cases hjl:j<ps.length
 ·rw [List.getElem?_append_left hjl] at hj; exact h j x hj
 ·rw [List.getElem?_append_right (by omega)] at hj
  cases e:j - ps.length with
  | zero => rw [e] at hj; have : y = x := by simpa using hj
            subst this; rw [show j=ps.length by omega]; exact hy
  | succ q=>rw [e] at hj; simp at hj
def filD (p:Int→Bool):D→Option D
 | .int x=>if p x=true then some (.int x) else none
 | _=>none
theorem f9 {p:Int→Bool}:∀ (ns:List Int),(ns.map D.int).filterMap (filD p)=(ns.filter p).map D.int
 | []=>rfl
 | n :: r=>by
  have ih:=f9 (p:=p) r
  have e0:filD p (.int n)=if p n=true then some (.int n) else none:=rfl
  cases e:p n with
  | true=>rw [e,if_pos rfl] at e0; rw [List.map_cons,List.filterMap_cons,e0,List.filter_cons_of_pos e,List.map_cons,← ih]
  | false=>rw [e,if_neg (by decide)] at e0; rw [List.map_cons,List.filterMap_cons,e0,List.filter_cons_of_neg (by rw [e]; decide),← ih]
theorem iH (ns:List Int):(ns.map D.int).all di=true:=by
 induction ns with
 | nil=>rfl
 | cons n r ih=>rw [List.map_cons,List.all_cons,ih]; rfl
theorem jV (x:Int) (ns:List Int):inD (.int x) (ns.map D.int)=ns.contains x:=by
 unfold inD
 induction ns with
 | nil=>rfl
 | cons n r ih =>
  rw [List.map_cons,List.any_cons,ih,List.contains_cons]
  show ((n == x)||_)=_
  rw [Bool.beq_comm]
theorem cf {ns:List Int} {d:D} (h:d∈ns.map D.int):∃ x∈ns,d = .int x:=by
 obtain ⟨x,h1,h2⟩:=List.mem_map.mp h
 exact ⟨x,h1,h2.symm⟩
theorem cn (ns:List Int):okD (ai ns)=true:=kx ns
theorem eqDi (ns ms:List Int):eqD (ai ns) (ai ms)=decide (ns=ms):=oU ns ms
theorem t7 (a b:Bool):eqD (.bl a) (.bl b)=(a == b):=by unfold eqD; rw [toP,toP,PyData.eqv]
def lay:Nat→D→Bool
 | _,.int _=>true
 | _,.bl _=>true
 | _,.non=>true
 | n + 1,.tup ds=>ds.all (lay n)
 | n + 1,.lst ds=>ds.all (lay n)
 | _,_=>false
theorem jt {n:Nat} (ih:∀ d,lay n d=true→(toP d).canLay0=true∧(toP d).depth≤n + 1):∀ ds:List D,ds.all (lay n)=true→PyData.canLayAll0 (toPs ds)=true∧PyData.depthAll (toPs ds)≤n + 1
 | [],_=>by rw [toPs]; simp [PyData.canLayAll0,PyData.depthAll]
 | d :: ds,h=>by
  rw [List.all_cons,Bool.and_eq_true] at h
  have h1:=ih d h.1
  have h2:=jt ih ds h.2
  rw [toPs]
  simp only [PyData.canLayAll0,PyData.depthAll,h1.1,h2.1,Bool.and_self,true_and]
  omega
theorem kD:∀ (n:Nat) (d:D),lay n d=true→(toP d).canLay0=true∧(toP d).depth≤n + 1
 | n,.int _,_=>by rw [toP]; simp [PyData.canLay0,PyData.depth]
 | n,.bl _,_=>by rw [toP]; simp [PyData.canLay0,PyData.depth]
 | n,.non,_=>by rw [toP]; simp [PyData.canLay0,PyData.depth]
 | n + 1,.tup ds,h=>by
  have:=jt (kD n) ds (by simpa [lay] using h)
  rw [toP]; simp only [PyData.canLay0,PyData.depth,this.1,true_and]; omega
 | n + 1,.lst ds,h=>by
  have:=jt (kD n) ds (by simpa [lay] using h)
  rw [toP]; simp only [PyData.canLay0,PyData.depth,this.1,true_and]; omega
 | 0,.tup _,h=>by simp [lay] at h
 | 0,.lst _,h=>by simp [lay] at h
 | n,.str _,h=>by cases n <;> simp [lay] at h
 | n,.dct,h=>by cases n <;> simp [lay] at h
 | n,.dic _ _,h=>by cases n <;> simp [lay] at h
 | n,.obj _ _ _,h=>by cases n <;> simp [lay] at h
 | n,.scr _ _,h=>by cases n <;> simp [lay] at h
 | n,.ext _,h=>by cases n <;> simp [lay] at h
theorem lO {n:Nat} {d:D} (h:lay n d=true) (hn:n≤60):okD d=true:=by
 have:=kD n d h
 unfold okD SeqAt.shaped
 rw [this.1,Bool.true_and]
 exact decide_eq_true (by omega)
theorem jD {n:Nat} (ih:∀ d,lay n d=true→PyData.eqv (toP d) (toP d)=true):∀ ds:List D,ds.all (lay n)=true→PyData.eqvAll (toPs ds) (toPs ds)=true
 | [],_=>by rw [toPs]; simp [PyData.eqvAll]
 | d :: ds,h=>by
  rw [List.all_cons,Bool.and_eq_true] at h
  rw [toPs,PyData.eqvAll,ih d h.1,jD ih ds h.2]; rfl
theorem fN:∀ (n:Nat) (d:D),lay n d=true→eqD d d=true
 | n,.int _,_=>by unfold eqD; rw [toP,PyData.eqv]; simp
 | n,.bl _,_=>by unfold eqD; rw [toP,PyData.eqv]; simp
 | n,.non,_=>by unfold eqD; rw [toP,PyData.eqv]
 | n + 1,.tup ds,h=>by unfold eqD; rw [toP,PyData.eqv]; exact jD (fN n) ds (by simpa [lay] using h)
 | n + 1,.lst ds,h=>by unfold eqD; rw [toP,PyData.eqv]; exact jD (fN n) ds (by simpa [lay] using h)
 | 0,.tup _,h=>by simp [lay] at h
 | 0,.lst _,h=>by simp [lay] at h
 | n,.str _,h=>by cases n <;> simp [lay] at h
 | n,.dct,h=>by cases n <;> simp [lay] at h
 | n,.dic _ _,h=>by cases n <;> simp [lay] at h
 | n,.obj _ _ _,h=>by cases n <;> simp [lay] at h
 | n,.scr _ _,h=>by cases n <;> simp [lay] at h
 | n,.ext _,h=>by cases n <;> simp [lay] at h
theorem mE (n:Nat) (ns:List Int):(ns.map D.int).all (lay n)=true:=by
 rw [List.all_eq_true]; intro d hd; obtain ⟨x,_,rfl⟩:=cf hd; cases n <;> rfl
structure Ask where
 one:Int
 other:Int
 size:Int
 worth:Int
def bv (a:Ask):D:=.tup [.int a.one,.int a.other,.int a.size,.int a.worth]
def bu (as:List Ask):D:=.lst (as.map bv)
structure AskOk (ps:List Int) (a:Ask):Prop where
 ends:Ends2 ps a.one a.other
 s0 : 1≤a.size
 s1:a.size≤1000000
 w0 : 1≤a.worth
 w1:a.worth≤1000000000000
structure AsksOk (ps:List Int) (as:List Ask):Prop where
 len:as.length≤30
 ok:∀ a∈as,AskOk ps a
theorem m_ (as:List Ask):imms (as.map bv)=true:=by
 induction as with
 | nil=>rfl
 | cons a r ih=>rw [List.map_cons,imms,ih]; rfl
theorem i7 (n:Nat) (as:List Ask):lay (n + 2) (bu as)=true:=by
 unfold bu; rw [lay,List.all_eq_true]; intro d hd
 obtain ⟨a,_,rfl⟩:=List.mem_map.mp hd
 rw [bv,lay]
 exact mE n [a.one,a.other,a.size,a.worth]
theorem qM {as:List Ask} {i:Nat} {d:D} (h:(as.map bv)[i]? = some d):∃ a,as[i]? = some a∧d=bv a:=by
 rw [List.getElem?_map] at h
 cases e:as[i]? with
 | none=>rw [e] at h; cases h
 | some z=>rw [e] at h; exact ⟨z,rfl,(Option.some.inj h).symm⟩
def lB:Ask:=⟨0,0,0,0⟩
theorem p6 {as:List Ask} {k:Int} (h0 : 0≤k) (h1:k<as.length):atI (as.map bv) k=some (bv (as.getD k.toNat lB)):=by
 have ek:k=((k.toNat:Nat):Int):=by omega
 have hl:k.toNat<as.length:=by omega
 have:atI (as.map bv) ((k.toNat:Nat):Int)=some (bv (as.getD k.toNat lB)):=dR (by rw [List.getElem?_map,List.getD_eq_getElem?_getD,List.getElem?_eq_getElem hl]; rfl)
 rw [← ek] at this
 exact this
theorem ky {as:List Ask} {k:Nat} (h:k<as.length):as.getD k lB∈as:=by rw [List.getD_eq_getElem?_getD,List.getElem?_eq_getElem h]; exact List.getElem_mem h
theorem bT (as:List Ask):(as.map bv).length=as.length:=List.length_map _
theorem gq (as:List Ask) (a:Ask):D.lst (as.map bv++[bv a])=bu (as++[a]):=by unfold bu; rw [List.map_append]; rfl
def qh:SpD:=fun ds q=>∃ ps rs a,ds=[aR ps rs,bv a]∧AskOk ps a∧q (.bl true) []
def lD:SpD:=fun ds q=>∃ ps rs as,ds=[aR ps rs,bu as]∧Tree ps rs∧AsksOk ps as∧q .non []
def hX (ps:List Int):Nat→Int→Int→List Int
 | 0,_,_=>[]
 | f + 1,a,b=>if b<a then a :: hX ps f b (dH ps a) else if a<b then b :: hX ps f a (dH ps b) else []
def g9 (ps:List Int):Nat→Int→Int→Int
 | 0,a,_=>a
 | f + 1,a,b=>if b<a then g9 ps f b (dH ps a) else if a<b then g9 ps f a (dH ps b) else a
theorem fX {ps rs:List Int} (hT:Tree ps rs):∀ (f:Nat) (a b:Int),(a + b).toNat≤f→0≤a→0≤b→a≤ps.length→b≤ps.length→Climb ps a b (hX ps f a b) (g9 ps f a b)
 | 0,a,b,hf,a0,b0,_,_=>by
  have:a=b:=by omega
  subst this
  exact .same a
 | f + 1,a,b,hf,a0,b0,a1,b1=>by
  unfold hX g9
  by_cases h1:b<a
  ·rw [if_pos h1,if_pos h1]
   have hp:=hT.up (show 0<a by omega) a1
   exact .left h1 (fX hT f b _ (by omega) b0 hp.1 b1 (by omega))
  ·rw [if_neg h1,if_neg h1]
   by_cases h2:a<b
   ·rw [if_pos h2,if_pos h2]
    have hp:=hT.up (show 0<b by omega) b1
    exact .right h2 (fX hT f a _ (by omega) a0 hp.1 a1 (by omega))
   ·rw [if_neg h2,if_neg h2]
    have:a=b:=by omega
    subst this
    exact .same a
def iy (ps:List Int) (a b:Int):List Int:=cu (hX ps 100 a b)
def gE (ps:List Int) (a b:Int):Int:=g9 ps 100 a b
theorem Climb.way {ps rs:List Int} (hT:Tree ps rs) {a b m:Int} {w:List Int} (h:Climb ps a b w m) (a0 : 0≤a) (b0 : 0≤b) (a1:a≤ps.length) (b1:b≤ps.length):cu w=iy ps a b∧m=gE ps a b:=by
 have hi:=hT.hi
 have:=h.det (fX hT 100 a b (by omega) a0 b0 a1 b1)
 exact ⟨by rw [this.1]; rfl,this.2⟩
theorem fw {ps rs:List Int} (hT:Tree ps rs) {a b:Int} (a0 : 0≤a) (b0 : 0≤b) (a1:a≤ps.length) (b1:b≤ps.length):∃ w,Climb ps a b w (gE ps a b)∧iy ps a b=cu w:=by
 have hi:=hT.hi
 exact ⟨_,fX hT 100 a b (by omega) a0 b0 a1 b1,rfl⟩
theorem cA {ps rs:List Int} (hT:Tree ps rs) {a b:Int} (he:Ends2 ps a b) {x:Int} (hx:x∈iy ps a b) : 0<x∧x≤ps.length:=by
 obtain ⟨w,hw,e⟩:=fw hT he.a0 he.b0 he.a1 he.b1
 rw [e] at hx
 exact hw.mem hT he.a0 he.b0 he.a1 he.b1 x ((bC w).mem_iff.mp hx)
def aM (ps:List Int) (a:Ask):List Int:=iy ps a.one a.other
def qx:SpD:=fun ds q=>∃ ps rs a,ds=[aR ps rs,bv a]∧Tree ps rs∧Ends2 ps a.one a.other∧q (ai (aM ps a)) []
structure KeepOk (n:Nat) (ks:List Int):Prop where
 up:ks.Pairwise (· < ·)
 lo:∀ k∈ks,0≤k∧k<n
theorem KeepOk.len {n:Nat} {ks:List Int} (h:KeepOk n ks):ks.length≤n:=by
 have:∀ (l:List Int) (a:Int),l.Pairwise (· < ·)→(∀ k∈l,a≤k∧k<n)→0≤a→(l.length:Int)≤max 0 (n - a):=by
  intro l
  induction l with
  | nil=>intro a _ _ _; simp; omega
  | cons x r ih =>
   intro a hp hb ha
   rw [List.pairwise_cons] at hp
   have hx:=hb x (.head _)
   have:=ih (x + 1) hp.2 (fun k hk=>by have h1:=hp.1 k hk; have h2:=hb k (List.mem_cons_of_mem _ hk); omega) (by omega)
   simp; omega
 have:=this ks 0 h.up (fun k hk=>h.lo k hk) (Int.le_refl 0)
 omega
def lm:SpD:=fun ds q=>∃ ps rs as ks,ds=[aR ps rs,bu as,ai ks]∧Tree ps rs∧AsksOk ps as∧KeepOk as.length ks∧q .non []
def iB (s:Int) (l:List Int) (t:Int):List Int:=l.set (t - 1).toNat (l.getD (t - 1).toNat 0 + s)
def cY (l:List Int) (ts:List Int) (s:Int):List Int:=ts.foldl (iB s) l
theorem ki (s:Int) (l:List Int) (t:Int):(iB s l t).length=l.length:=by unfold iB; simp
theorem fQ (s:Int):∀ (ts l:List Int),(cY l ts s).length=l.length
 | [],l=>rfl
 | t :: ts,l=>by show (cY (iB s l t) ts s).length=_; rw [fQ s ts,ki]
theorem iT (l ts:List Int) (t s:Int):cY l (ts++[t]) s=iB s (cY l ts s) t:=by unfold cY; rw [List.foldl_append]; rfl
def dn (ps:List Int) (as:List Ask) (l:List Int) (k:Int):List Int:=cY l (aM ps (as.getD k.toNat lB)) (as.getD k.toNat lB).size
def ay (ps:List Int) (as:List Ask) (ks:List Int):List Int:=ks.foldl (dn ps as) (List.replicate ps.length 0)
theorem bO (ps:List Int) (as:List Ask) (ks:List Int):(ay ps as ks).length=ps.length:=by
 have:∀ (ks l:List Int),(ks.foldl (dn ps as) l).length=l.length:=by
  intro ks
  induction ks with
  | nil=>intro l; rfl
  | cons k r ih=>intro l; rw [List.foldl_cons,ih]; unfold dn; rw [fQ]
 unfold ay; rw [this]; simp
theorem dZ (ps:List Int) (as:List Ask) (ks:List Int) (k:Int):ay ps as (ks++[k])=dn ps as (ay ps as ks) k:=by unfold ay; rw [List.foldl_append]; rfl
def lj:SpD:=fun ds q=>∃ ps rs a l,ds=[aR ps rs,bv a,ai l]∧Tree ps rs∧Ends2 ps a.one a.other∧l.length=ps.length∧q (ai (cY l (aM ps a) a.size)) []
def p_:SpD:=fun ds q=>∃ ps rs as ks,ds=[aR ps rs,bu as,ai ks]∧Tree ps rs∧AsksOk ps as∧KeepOk as.length ks∧q (ai (ay ps as ks)) []
theorem kd (n:Nat) (d:D):(List.replicate n [d]).flatten=List.replicate n d:=by
 induction n with
 | zero=>rfl
 | succ n ih=>rw [List.replicate_succ,List.flatten_cons,ih,List.replicate_succ]; rfl
theorem iW (n:Nat) (x:Int):List.replicate n (D.int x)=(List.replicate n x).map D.int:=by rw [List.map_replicate]
theorem jw {n:Nat} {k:Int} (h0 : 0≤k) (h1:k<n):ixN n k=some k.toNat:=by unfold ixN; rw [if_pos h0,if_pos h1]
theorem iX (l:List Int) (i:Nat) (x:Int):D.lst ((l.map D.int).set i (.int x))=ai (l.set i x):=by unfold ai; rw [List.map_set]
theorem kR {ps:List Int} {a r:Int} (a0 : 0≤a) (a1:a<1 + (ps.length:Int)) (r0 : 0≤r) (r1:r<ps.length):Ends2 ps a ((a + 1 + r) % (1 + (ps.length:Int))):=by
 refine ⟨a0,by omega,Int.emod_nonneg _ (by omega),?_,?_⟩
 ·have:=Int.emod_lt_of_pos (a + 1 + r) (show 0<1 + (ps.length:Int) by omega); omega
 ·intro he
  by_cases hlt:a + 1 + r<1 + (ps.length:Int)
  ·rw [Int.emod_eq_of_lt (by omega) hlt] at he; omega
  ·have e:(a + 1 + r) % (1 + (ps.length:Int))=a + 1 + r - (1 + (ps.length:Int)):=by
    rw [← Int.sub_emod_right,Int.emod_eq_of_lt (by omega) (by omega)]
   omega
theorem Climb.nodup {ps rs:List Int} (hT:Tree ps rs) {a b m:Int} {w:List Int} (h:Climb ps a b w m) : 0≤a→0≤b→a≤ps.length→b≤ps.length→w.Nodup∧∀ x∈w,x≤max a b:=by
 induction h with
 | same a=>intro _ _ _ _; exact ⟨List.nodup_nil,fun x h=>by cases h⟩
 | @left a b w m hlt hc ih =>
  intro a0 b0 a1 b1
  have hp:=hT.up (show 0<a by omega) a1
  obtain ⟨h1,h2⟩:=ih b0 hp.1 b1 (by omega)
  refine ⟨List.nodup_cons.mpr ⟨fun z=>by have:=h2 a z; omega,h1⟩,fun x hx=>?_⟩
  rcases List.mem_cons.mp hx with rfl | hx
  ·omega
  ·have:=h2 x hx; omega
 | @right a b w m hlt hc ih =>
  intro a0 b0 a1 b1
  have hp:=hT.up (show 0<b by omega) b1
  obtain ⟨h1,h2⟩:=ih a0 hp.1 a1 (by omega)
  refine ⟨List.nodup_cons.mpr ⟨fun z=>by have:=h2 b z; omega,h1⟩,fun x hx=>?_⟩
  rcases List.mem_cons.mp hx with rfl | hx
  ·omega
  ·have:=h2 x hx; omega
theorem mq {ps rs:List Int} (hT:Tree ps rs) {a b:Int} (he:Ends2 ps a b):(iy ps a b).Nodup:=by
 obtain ⟨w,hw,e⟩:=fw hT he.a0 he.b0 he.a1 he.b1
 rw [e]
 exact (bC w).nodup_iff.mpr (hw.nodup hT he.a0 he.b0 he.a1 he.b1).1
def cnt (t:Int) (w:List Int) (s:Int):Int:=if w.contains t=true then s else 0
theorem qU {s:Int} {l:List Int} {t:Int} {j:Nat} (ht : 0<t) (hl:t≤l.length):(iB s l t).getD j 0=l.getD j 0 + if (j:Int) + 1=t then s else 0:=by
 unfold iB
 simp only [List.getD_eq_getElem?_getD]
 rw [List.getElem?_set]
 by_cases h:(t - 1).toNat=j
 ·rw [if_pos h,if_pos (by omega),if_pos (by omega),h]; rfl
 ·rw [if_neg h,if_neg (by omega)]; simp
theorem lV {s:Int} {j:Nat}:∀ {w l:List Int},w.Nodup→(∀ x∈w,0<x∧x≤l.length)→(cY l w s).getD j 0=l.getD j 0 + cnt ((j:Int) + 1) w s
 | [],l,_,_=>by simp [cY,cnt]
 | t :: w,l,hn,hm=>by
  rw [List.nodup_cons] at hn
  have ht:=hm t (.head _)
  show (cY (iB s l t) w s).getD j 0=_
  rw [lV hn.2 (fun x hx=>by rw [ki]; exact hm x (List.mem_cons_of_mem _ hx)),qU ht.1 ht.2]
  unfold cnt
  rw [List.contains_cons]
  by_cases e:(j:Int) + 1=t
  ·have:w.contains ((j:Int) + 1)=false:=by
    cases z:w.contains ((j:Int) + 1) with
    | false=>rfl
    | true=>rw [e] at z; exact absurd (List.contains_iff_mem.mp z) hn.1
   rw [if_pos e,this,if_neg (by decide),show ((j:Int) + 1 == t)=true by simpa using e]; simp
  ·rw [if_neg e,show ((j:Int) + 1 == t)=false by simpa using e,Bool.false_or]; omega
section
variable {X:Cx}
end
section
variable {X:Cx} {M:Md} {e:Expr} {ma:ME} {pos:Pos}
end
section
variable {X:Cx}
variable {ow:List Bool} {e:Expr} {ma:ME}
end
section
variable {X:Cx}
variable {ow:List Bool} {e:Expr} {ma:ME} {pos p1 p2 p3:Pos}
end
end L2
namespace L2
open PySem
theorem Up.chain {ps rs:List Int} (hT:Tree ps rs) {b:Int} {u:List Int} (h:Up ps b u):b≤ps.length→∀ {x y:Int},x∈u→y∈u→x≤y→∃ uy,Up ps y uy∧x∈uy∧∀ z∈uy,z∈u:=by
 induction h with
 | zero =>
  intro _ x y hx hy _
  have e:y=0:=by simpa using hy
  subst e
  exact ⟨[0],.zero,hx,fun z hz=>hz⟩
 | @step k u h0 hu ih =>
  intro h1 x y hx hy hxy
  have hp:=hT.up h0 h1
  have hle:=hu.le hT (by omega)
  rcases List.mem_cons.mp hy with hy' | hy'
  ·subst hy'; exact ⟨_,.step h0 hu,hx,fun z hz=>hz⟩
  ·rcases List.mem_cons.mp hx with hx' | hx'
   ·have:=(hle y hy').2; omega
   ·obtain ⟨uy,g1,g2,g3⟩:=ih (by omega) hx' hy' hxy
    exact ⟨uy,g1,g2,fun z hz=>.tail _ (g3 z hz)⟩
end L2
namespace L2
open PySem PySem.Spec PyProof.Rows
section
variable {prog:Program} {w:World} {A:Around} {E:Value→Shared→Prop} {s:Shared}
end
section
variable {X:Cx} {M:Md} {e:Expr} {es:List Expr} {mgs:MGs} {pos:Pos}
end
section
variable {X:Cx} {M:Md} {pos:Pos}
end
def Itz (a b:Addr):It :=
 ⟨fun i H=>∃ xs ys x y,H a = some (.lst xs)∧H b = some (.lst ys)∧xs[i]? = some x∧ys[i]? = some y,
  fun i H v H'=>∃ p x y,H p=none∧v = .ref p∧H'=upd H p (.tup [x,y])∧(∀ xs,H a=some (.lst xs)→xs[i]? = some x)∧∀ ys,H b=some (.lst ys)→ys[i]? = some y,
  fun i H=>∃ xs ys,H a=some (.lst xs)∧H b=some (.lst ys)∧(xs.length≤i∨ys.length≤i)⟩
theorem mem5 {c a1 a2 a3 a4 a5:Addr} (h:c∈[a1,a2,a3,a4,a5]):c=a1∨c=a2∨c=a3∨c=a4∨c=a5:=by simpa using h
theorem mem4 {c a1 a2 a3 a4:Addr} (h:c∈[a1,a2,a3,a4]):c=a1∨c=a2∨c=a3∨c=a4:=by simpa using h
theorem iK {c a1 a2 a3 a4:Addr} (h:c ∉ [a1,a2,a3,a4]):c≠a1∧c≠a2∧c≠a3∧c≠a4:=by simpa using h
theorem nd5 {z TI TO i1 i2:Addr} (h : [z,TI,TO,i1,i2].Nodup):(z≠TI∧z≠TO∧z≠i1∧z≠i2)∧(TI≠TO∧TI≠i1∧TI≠i2)∧(TO≠i1∧TO≠i2)∧i1≠i2:=by simpa using h
theorem gP {z TI TO i1 i2:Addr}:z∈[z,TI,TO,i1,i2]∧TI∈[z,TI,TO,i1,i2]∧TO∈[z,TI,TO,i1,i2]∧i1∈[z,TI,TO,i1,i2]∧i2∈[z,TI,TO,i1,i2]:=by simp
structure ZipSt (z TI TO i1 i2 a b:Addr) (i:Nat) (h:Heap):Prop where
 hz:IsZip h z TI TO .none
 ti:IsPair h TI (.ref i1) (.ref i2)
 to:∃ x y,IsPair h TO x y
 t1:h.IsListIter i1 a i
 t2:h.IsListIter i2 b i
theorem nr {P:Program} {w:World} {K:PySem.W.Frag} {es:List Expr} {k:Nat} {pos:Pos} (a b z TI TO i1 i2:Addr) (nd : [z,TI,TO,i1,i2].Nodup) :
 Turn P w K (.Tuple es k pos) (Itz a b) [z,TI,TO,i1,i2] z (ZipSt z TI TO i1 i2 a b) where
 mem:=gP.1
 obj:=fun i h st c hc=>by
  obtain ⟨hz,ti,⟨x,y,to⟩,⟨o1,e1,c1,d1⟩,⟨o2,e2,c2,d2⟩⟩:=st
  rcases mem5 hc with rfl | rfl | rfl | rfl | rfl
  ·exact ⟨_,hz,fun v q=>by cases q⟩
  ·exact ⟨_,ti,fun v q=>by cases q⟩
  ·exact ⟨_,to,fun v q=>by cases q⟩
  ·exact ⟨o1,e1,fun v q=>by rw [d1] at q; cases q⟩
  ·exact ⟨o2,e2,fun v q=>by rw [d2] at q; cases q⟩
 keep:=fun i h h' st kp=>by
  obtain ⟨m1,m2,m3,m4,m5⟩:=gP (z:=z) (TI:=TI) (TO:=TO) (i1:=i1) (i2:=i2)
  obtain ⟨x,y,q⟩:=st.to
  exact ⟨kp z m1 _ st.hz,kp TI m2 _ st.ti,⟨x,y,kp TO m3 _ q⟩,st.t1.at fun o q=>kp i1 m4 o q,st.t2.at fun o q=>kp i2 m5 o q⟩
 item:=by
  intro X hP hw hK hc i pins s σ H E I hf st hg
  subst hP hw hK
  obtain ⟨xs,ys,x,y,hq1,hq2,hx,hy⟩:=hg
  obtain ⟨hz,ti,⟨ox,oy,to⟩,t1,t2⟩:=st
  obtain ⟨its1,rv1,p1,hz1⟩:=I.list (SqL.of hq1)
  obtain ⟨its2,rv2,p2,hz2⟩:=I.list (SqL.of hq2)
  obtain ⟨u,hu,ru⟩:=rv1.get hx
  obtain ⟨v,hv,rv⟩:=rv2.get hy
  obtain ⟨m1,m2,m3,m4,m5⟩:=gP (z:=z) (TI:=TI) (TO:=TO) (i1:=i1) (i2:=i2)
  have fz:=hf z m1; have fO:=hf TO m3; have f1:=hf i1 m4; have f2:=hf i2 m5
  obtain ⟨⟨n1,n2,n3,n4⟩,⟨n5,n6,n7⟩,⟨n8,n9⟩,n10⟩:=nd5 nd
  have la:∀ {c:Addr},H c=none→a≠c:=fun h=>am hq1 h
  have lb:∀ {c:Addr},H c=none→b≠c:=fun h=>am hq2 h
  have AP:ZipApart z TI TO i1 i2 a b:=⟨Ne.symm n1,Ne.symm n2,Ne.symm n3,Ne.symm n4,n5,n6,n7,n8,n9,n10,la fz.1,la fO.1,la f1.1,la f2.1,lb fz.1,lb fO.1,lb f1.1,lb f2.1⟩
  refine wpAny_pyNext_zip_item AP hz ti to t1 t2 p1.isList p2.isList (x:=u) (y:=v) (by simpa using hu) (by simpa using hv) fun h' zo to' t1' t2' ht hsz hk=>?_
  refine ⟨.ref s.heap.objs.size,rfl,?_⟩
  refine wpAny_letOwnedTupleGo_zip zo fun h2 he2 hs2=>?_
  have fr:H s.heap.objs.size=none:=I.hok.fresh (Nat.le_refl _)
  have ne2:∀ b,b<s.heap.objs.size→b≠s.heap.objs.size:=fun b hb=>Nat.ne_of_lt hb
  have ee:z<s.heap.objs.size:=Heap.lt_size hz
  have k2:∀ c o,c≠z→c≠TO→c≠i1→c≠i2→s.heap.get? c=some o→h2.get? c=some o:=fun c o c1 c2 c3 c4 q=>(hs2.2 c c1).trans (hk c o c1 c2 c3 c4 q)
  have ht2:h2.get? s.heap.objs.size=some { cls:=.type "tuple",data:=.seq #[u,v] }:=(hs2.2 _ (Nat.ne_of_gt ee)).trans ht
  have trk:∀ c o,H c=some o→c≠z∧c≠TO∧c≠i1∧c≠i2:=fun c o q=>⟨am q fz.1,am q fO.1,am q f1.1,am q f2.1⟩
  have hok0:HOk X.prog X.w H h2:=fun c o q=>(I.hok c o q).stay (fun d v' hc q'=>by
   rcases hc with rfl | hc
   ·obtain ⟨z1,z2,z3,z4⟩:=trk d _ q; exact k2 d v' z1 z2 z3 z4 q'
   ·obtain ⟨z1,z2,z3,z4⟩:=trk d _ hc; exact k2 d v' z1 z2 z3 z4 q') (fun _ z=>z) (fun _ _ z=>z) fun _ _ _ z=>z
  have I1:Inv X pins σ (upd H s.heap.objs.size (.tup [x,y])) { s with heap:=h2,toks:=s.toks }:=by
   refine I.step (g':=s.gens) (d':=s.drawn) (ch:=[z,TO,i1,i2]) (fun c hc=>?_) (fun c o _ _ hc q _=>by obtain ⟨z1,z2,z3,z4⟩:=iK hc; exact k2 c o z1 z2 z3 z4 q) (fun c o _ _ hc q _=>by obtain ⟨z1,z2,z3,z4⟩:=iK hc; exact ⟨o.slots,k2 c o z1 z2 z3 z4 q⟩)
    (fun c o _ q n=>by rw [ag (ne2 c (Heap.lt_size q))]; exact n) (fun c o hc q=>by obtain ⟨z1,z2,z3,z4⟩:=iK hc; exact ⟨o,k2 c o z1 z2 z3 z4 q⟩) (fun c ys q=>by rw [ag (am q fr)]; exact q) (fun c o v q=>by rw [ag (am q fr)]; exact q)
    (fun c ps _ q=>⟨#[],by rw [ag (am q fr),q]; simp⟩) (fun m hm=>?_) ?_ I.bare
   ·rcases mem4 hc with rfl | rfl | rfl | rfl
    ·exact ⟨fz.2.2.2.1,fz.2.1,fz.2.2.2.2.1,fz.2.2.2.2.2⟩
    ·exact ⟨fO.2.2.2.1,fO.2.1,fO.2.2.2.2.1,fO.2.2.2.2.2⟩
    ·exact ⟨f1.2.2.2.1,f1.2.1,f1.2.2.2.2.1,f1.2.2.2.2.2⟩
    ·exact ⟨f2.2.2.2.1,f2.2.1,f2.2.2.2.2.1,f2.2.2.2.2.2⟩
   ·obtain ⟨o,es',ep,ho,r⟩:=hm
    exact ⟨o,es',ep,k2 _ o (Ne.symm fz.2.1) (Ne.symm fO.2.1) (Ne.symm f1.2.1) (Ne.symm f2.2.1) ho,r⟩
   ·exact hok0.adopt fr ⟨by show 2≤sizeLine; decide,[u,v],.cons ru (.cons rv .nil),⟨_,ht2,rfl,_,rfl⟩⟩
  have lt:∀ c∈[z,TI,TO,i1,i2],c<s.heap.objs.size:=fun c hc=>by
   rcases mem5 hc with rfl | rfl | rfl | rfl | rfl
   ·exact ee
   ·exact Heap.lt_size ti
   ·exact Heap.lt_size to
   ·obtain ⟨o,q,_⟩:=t1; exact Heap.lt_size q
   ·obtain ⟨o,q,_⟩:=t2; exact Heap.lt_size q
  refine ⟨.ref s.heap.objs.size,_,I1,rfl,⟨_,x,y,fr,rfl,rfl,fun ws hw=>by rw [hq1] at hw; cases hw; exact hx,fun ws hw=>by rw [hq2] at hw; cases hw; exact hy⟩,⟨he2,(hs2.2 _ (Ne.symm n1)).trans (hk TI _ (Ne.symm n1) n5 n6 n7 ti),⟨_,_,(hs2.2 _ (Ne.symm n2)).trans to'⟩,t1'.extBut hs2.extBut (Ne.symm n3),t2'.extBut hs2.extBut (Ne.symm n4)⟩,fun c hc=>?_⟩
  rw [ag (ne2 c (lt c hc))]
  exact (hf c hc).1
 done:=by
  intro X hP hw hK hc i pins s σ H E I hf st hg
  subst hP hw hK
  obtain ⟨xs,ys,hq1,hq2,hend⟩:=hg
  obtain ⟨hz,ti,⟨ox,oy,to⟩,t1,t2⟩:=st
  obtain ⟨its1,rv1,p1,hz1⟩:=I.list (SqL.of hq1)
  obtain ⟨its2,rv2,p2,hz2⟩:=I.list (SqL.of hq2)
  obtain ⟨m1,m2,m3,m4,m5⟩:=gP (z:=z) (TI:=TI) (TO:=TO) (i1:=i1) (i2:=i2)
  have fz:=hf z m1; have fO:=hf TO m3; have f1:=hf i1 m4; have f2:=hf i2 m5
  obtain ⟨⟨n1,n2,n3,n4⟩,⟨n5,n6,n7⟩,⟨n8,n9⟩,n10⟩:=nd5 nd
  have la:∀ {c:Addr},H c=none→a≠c:=fun h=>am hq1 h
  have lb:∀ {c:Addr},H c=none→b≠c:=fun h=>am hq2 h
  have AP:ZipApart z TI TO i1 i2 a b:=⟨Ne.symm n1,Ne.symm n2,Ne.symm n3,Ne.symm n4,n5,n6,n7,n8,n9,n10,la fz.1,la fO.1,la f1.1,la f2.1,lb fz.1,lb fO.1,lb f1.1,lb f2.1⟩
  have l1:=rv1.length
  have l2:=rv2.length
  refine wpAny_pyNext_zip_end (I.ok.hd hc) AP hz ti to t1 t2 p1.isList p2.isList (by rcases hend with h | h; exact .inl (by simp; omega); exact .inr (by simp; omega)) fun h' hk=>⟨rfl,?_⟩
  have trk:∀ c o,H c=some o→c≠z∧c≠TO∧c≠i1∧c≠i2:=fun c o q=>⟨am q fz.1,am q fO.1,am q f1.1,am q f2.1⟩
  refine I.step (g':=s.gens) (d':=s.drawn) (t':=s.toks) (ch:=[z,TO,i1,i2]) (fun c hc=>?_) (fun c o _ _ hc q _=>by obtain ⟨z1,z2,z3,z4⟩:=iK hc; exact hk c o z1 z2 z3 z4 q) (fun c o _ _ hc q _=>by obtain ⟨z1,z2,z3,z4⟩:=iK hc; exact ⟨o.slots,hk c o z1 z2 z3 z4 q⟩)
   (fun _ _ _ _ n=>n) (fun c o hc q=>by obtain ⟨z1,z2,z3,z4⟩:=iK hc; exact ⟨o,hk c o z1 z2 z3 z4 q⟩) (fun _ _ e=>e) (fun _ _ _ e=>e) (fun c ps _ e=>⟨#[],by rw [e]; simp⟩) (fun m hm=>?_) (fun c o q=>?_) I.bare
  ·rcases mem4 hc with rfl | rfl | rfl | rfl
   ·exact ⟨fz.2.2.2.1,fz.2.1,fz.2.2.2.2.1,fz.2.2.2.2.2⟩
   ·exact ⟨fO.2.2.2.1,fO.2.1,fO.2.2.2.2.1,fO.2.2.2.2.2⟩
   ·exact ⟨f1.2.2.2.1,f1.2.1,f1.2.2.2.2.1,f1.2.2.2.2.2⟩
   ·exact ⟨f2.2.2.2.1,f2.2.1,f2.2.2.2.2.1,f2.2.2.2.2.2⟩
  ·obtain ⟨o,es',ep,ho,r⟩:=hm
   exact ⟨o,es',ep,hk _ o (Ne.symm fz.2.1) (Ne.symm fO.2.1) (Ne.symm f1.2.1) (Ne.symm f2.2.1) ho,r⟩
  ·refine (I.hok c o q).stay (fun d v' hc q'=>?_) (fun _ z=>z) (fun _ _ z=>z) fun _ _ _ z=>z
   rcases hc with rfl | hc
   ·obtain ⟨z1,z2,z3,z4⟩:=trk d _ q; exact hk d v' z1 z2 z3 z4 q'
   ·obtain ⟨z1,z2,z3,z4⟩:=trk d _ hc; exact hk d v' z1 z2 z3 z4 q'
 self:=fun _ _ _ _ _ st h=>wpAny_pyIter_zip st.hz h
section
variable {X:Cx} {es:List Expr} {k:Nat} {tpos:Pos}
def iZip (ta:TA):TI:=fun σ H R=>ta σ H fun vs H1=>∃ a b,vs=[.ref a,.ref b]∧(∃ xs,H1 a=some (.lst xs))∧(∃ ys,H1 b=some (.lst ys))∧R (Itz a b) H1
theorem sK {l m:Expr} {ta:TA} {p pos:Pos} (hg:Gl X "zip") (hm:X.mg "zip" = none) (ha:PA X [l,m] ta) (hs:starEach [l,m] X.env=[(false,eval l X.env),(false,eval m X.env)]:=by rfl) (hs2:(backTo pos (starEach [m] X.env)).any (·.1)=false:=by rfl) (hs3:starEach [l,m] X.env=(false,eval l X.env) :: starEach [m] X.env:=by rfl):PI X (.Tuple es k tpos) (.Call (.Name "zip" p) [l,m] [] pos) (iZip ta):=by
 refine ⟨fun pins s σ H R I h=>?_⟩
 refine wpAny_Call_Name_kw (fg I hg hm tF ?_)
 refine PyProof.Rows.callWith_type1 (thn (ha pos pins s σ H _ I h) fun us s1 ⟨vs,H1,I1,r1,a,b,e,⟨xs,hx⟩,⟨ys,hy⟩,q⟩=>?_) hs3 hs2
 subst e
 obtain ⟨u,v,rfl,ru,rv⟩:=lQ r1
 cases ru; cases rv
 obtain ⟨its1,rv1,p1,_⟩:=I1.list (SqL.of hx)
 obtain ⟨its2,rv2,p2,_⟩:=I1.list (SqL.of hy)
 refine call_zip_2 p1.isList p2.isList fun h' hz ti to t1 t2 hsz hk=>?_
 have I2:Inv X pins σ H1 { s1 with heap:=h' }:=I1.kept (t':=s1.toks) hk
 have nd : [s1.heap.objs.size + 4,s1.heap.objs.size + 2,s1.heap.objs.size + 3,s1.heap.objs.size,s1.heap.objs.size + 1].Nodup:=by
  simp only [List.nodup_cons,List.mem_cons,List.not_mem_nil,or_false,not_or,not_false_eq_true,List.nodup_nil,and_true]
  refine ⟨⟨?_,?_,?_,?_⟩,⟨?_,?_,?_⟩,⟨?_,?_⟩,?_⟩ <;> omega
 refine wpAny_pyIter_zip hz ⟨s1.heap.objs.size + 4,_,_,Itz a b,H1,rfl,I2,nr a b _ _ _ _ _ nd,⟨hz,ti,⟨_,_,to⟩,t1,t2⟩,fun c hc=>?_,q⟩
 have hc':s1.heap.objs.size≤c:=by
  rcases mem5 hc with rfl | rfl | rfl | rfl | rfl
  ·exact Nat.le_add_right _ 4
  ·exact Nat.le_add_right _ 2
  ·exact Nat.le_add_right _ 3
  ·exact Nat.le_refl _
  ·exact Nat.le_add_right _ 1
 exact I1.fpOk (H':=H1) hc' (I1.hok.fresh hc')
variable {ow:List Bool} {a b:Expr} {mr:MA} {pos:Pos}
def kc (ds es:List D):List D:=List.zipWith (fun a b=>.tup [a,b]) ds es
theorem lR {ds es:List D} {i:Nat} {d:D} (h:(kc ds es)[i]? = some d):∃ x y,ds[i]? = some x∧es[i]? = some y∧d = .tup [x,y]:=by
 unfold kc at h
 rw [List.getElem?_zipWith] at h
 cases e1:ds[i]? with
 | none=>rw [e1] at h; cases h
 | some x =>
  cases e2:es[i]? with
  | none=>rw [e1,e2] at h; cases h
  | some y=>rw [e1,e2] at h; exact ⟨x,y,rfl,rfl,(Option.some.inj h).symm⟩
theorem uA {G:Hp} {p q:Addr} {xs ys:List V} {ds es:List D} (h1:G p=some (.lst xs)) (h2:Reps G ds xs) (h3:G q=some (.lst ys)) (h4:Reps G es ys):kX (Itz p q) G (kc ds es):=fun C ow G' ρ σ H pd i z r=>by
 have hp:=r.gh _ _ (z _ _ h1)
 have hq:=r.gh _ _ (z _ _ h3)
 refine ⟨fun hl=>⟨xs,ys,hp,hq,?_⟩,fun d e=>?_⟩
 ·rw [h2.length,h4.length]
  unfold kc at hl
  rw [List.length_zipWith] at hl
  omega
 ·obtain ⟨x,y,e1,e2,rfl⟩:=lR e
  obtain ⟨v,g1,g2⟩:=dc h2 e1
  obtain ⟨u,g3,g4⟩:=dc h4 e2
  refine ⟨⟨xs,ys,v,u,hp,hq,g1,g3⟩,fun w H' hy=>?_⟩
  obtain ⟨t,x',y',ht,rfl,rfl,hy1,hy2⟩:=hy
  have z1:=hy1 xs hp
  rw [g1] at z1; cases z1
  have z2:=hy2 ys hq
  rw [g3] at z2; cases z2
  obtain ⟨O,r⟩:=r
  obtain ⟨r2,s2⟩:=r.new ht (.tup [v,u])
  exact ⟨_,s2,⟨O,r2⟩,ji ax (bn (Rep.mono (z.trans s2) _ _ g2) (bn (Rep.mono (z.trans s2) _ _ g4) bK))⟩
def miZip (m:MA):MA:=fun ρ q=>m ρ fun ds ρ'=>match ds with
 | [.lst ds,.lst es]=>q (kc ds es) ρ'
 | _=>False
theorem tj {p:Pos} (hg:Gl X "zip") (hm:X.mg "zip" = none) (ha:QA X ow [a,b] mr) (hs:starEach [a,b] X.env=[(false,eval a X.env),(false,eval b X.env)]:=by rfl) (hs2:(backTo pos (starEach [b] X.env)).any (·.1)=false:=by rfl) (hs3:starEach [a,b] X.env=(false,eval a X.env) :: starEach [b] X.env:=by rfl):QI X ow (.Tuple es k tpos) (.Call (.Name "zip" p) [a,b] [] pos) (miZip mr):=by
 obtain ⟨t,p,s⟩:=ha
 refine ⟨_,sK hg hm p hs hs2 hs3,fun C G ρ σ H pd q Q r hm k=>s C G ρ σ H pd _ _ r hm fun ds ρ' vs G' H' hq z kp r' p hn=>?_⟩
 split at hq
 ·obtain ⟨v,u,rfl,p1,p2⟩:=dj p
  obtain ⟨a1,xs,rfl,h1,h2⟩:=bh p1
  obtain ⟨a2,ys,rfl,h3,h4⟩:=bh p2
  exact ⟨a1,a2,rfl,⟨xs,r'.gh _ _ h1⟩,⟨ys,r'.gh _ _ h3⟩,k _ ρ' G' H' _ hq z kp r' (uA h1 h2 h3 h4)⟩
 ·exact hq.elim
end
end L2
namespace L2
open PySem
def dQ (r:Rat):D:=.tup [.int r.num,.int r.den]
def dQs (rs:List Rat):D:=.lst (rs.map dQ)
theorem sF (r:Rat):lay 1 (dQ r)=true:=rfl
theorem lT (rs:List Rat):lay 2 (dQs rs)=true:=by
 show (rs.map dQ).all (lay 1)=true
 rw [List.all_map]; exact List.all_eq_true.mpr fun r _=>sF r
theorem gS (rs:List Rat):okD (dQs rs)=true:=lO (lT rs) (by decide)
theorem ly (rs:List Rat):eqD (dQs rs) (dQs rs)=true:=fN 2 _ (lT rs)
theorem eM {ps rs:List Int} (hT:Tree ps rs) {a b:Int} (he:Ends2 ps a b):(iy ps a b).length≤46:=by
 obtain ⟨w,hw,e⟩:=fw hT he.a0 he.b0 he.a1 he.b1
 have h1:=hw.len hT he.a0 he.b0 he.a1 he.b1
 have h2:=hT.hi
 have h3:=he.a1; have h4:=he.b1
 rw [e]
 have:=(bC w).length_eq
 omega
theorem ke:∀ rs:List Rat,imms (rs.map dQ)=true
 | []=>rfl
 | r :: rs=>by rw [List.map_cons,imms,ke rs]; rfl
theorem qP {ps rs:List Int} (hT:Tree ps rs) {a b:Int} (he:Ends2 ps a b) : 0<(iy ps a b).length:=by
 obtain ⟨w,hw,e⟩:=fw hT he.a0 he.b0 he.a1 he.b1
 rw [e]
 have:=(bC w).length_eq
 have hne:=he.ne
 generalize gE ps a b=m at hw
 cases hw with
 | same=>exact absurd rfl hne
 | left _ _=>rw [List.length_cons] at this; omega
 | right _ _=>rw [List.length_cons] at this; omega
end L2
namespace L2
open PySem PySem.Spec PyProof.Rows
section
variable {M:Model} {A:Around} {E:Value→Shared→Prop} {s:Shared}
end
section
variable {X:Cx} {pins:List (Addr×Obj)} {σ:St} {H H':Hp} {s s':Shared} {e:Addr} {cls:Value} {dx:Option Addr} {T:Option Addr}
end
section
variable {X:Cx} {x:Str} {p pos:Pos} {e:Expr} {es:List Expr} {t:TA} {k:Nat} {f:Addr} {fd:FuncData} {ps:List Str} {sp:Sp} {xk:XS}
end
section
variable {X:Cx} {pins:List (Addr×Obj)} {σ:St} {H:Hp} {s:Shared} {xk:XS}
variable {x:Str} {C:Addr} {bm:List Value} {e:Expr} {args:List Expr} {np cpos pos:Pos} {t:TA}
end
section
variable {X:Cx} {pins p:List (Addr×Obj)} {σ:St} {H:Hp} {s:Shared} {E:Value→Shared→Prop} {v:Value}
variable {e:Addr} {cls:Value} {dx T:Option Addr}
variable {x n:Str} {i:Nat} {C D0:Addr} {bm bmD:List Value} {ini iniD:Option Value} {b0:Stmt} {suite:List Stmt} {np npos:Pos} {ts:TS} {D:Ends} {t:Addr}
end
section
variable {X:Cx} {E:Value→Shared→Prop} {p:List (Addr×Obj)}
end
section
variable {X:Cx} {M:Md} {a b c e:Expr} {mt:MT} {pos pos':Pos} {st:Stmt} {rest:List Stmt} {m:MS} {m1 m2:MSX} {mex:MEX}
variable {mg:MG}
variable {es:List Expr} {ks:List AK} {mr:MA} {x:Str} {p':Pos} {ow:List Bool}
end
section
variable {X:Cx} {M:Md} {e:Expr} {es:List Expr} {ks:List AK} {mr:MA} {x:Str} {pos p':Pos} {ow:List Bool} {mu:List Bool} {k:Nat} {f:Addr} {fd:FuncData} {ps:List Str} {sd:SpX}
end
end L2
namespace L2
open PySem PySem.Spec PyProof.Rows PySem.W Builtin.ObjectAttr
section
variable {prog:Program} {w:World} {A:Around} {E:Value→Shared→Prop} {s:Shared} {K:PySem.W.Frag} {x D:Addr} {ox:Obj} {od:Option Obj} {name:Str} {bm:List Value} {ini:Option Value} {tk:Tok}
end
end L2
namespace L2
open PySem PySem.Spec PyProof.Rows
section
variable {X:Cx}
variable {ow:List Bool} {a:Expr} {ma:ME} {pos:Pos}
end
section
variable {K:PySem.W.Frag} {C a N:Addr} {dd nd:Option Addr} {nm qn:Str} {bs bm sub:List Value} {hd ab:Bool} {sn:List Str} {col:Option Bool} {k0 k1 k2 k3 k5 ini:Option Value} {no:Value} {es:Array DictEntry} {np:Nat} {nl:Array (Option Value)} {sl:Array (Option Value)} {oc:Value} {cd:ClassData}
end
section
variable {X:Cx}
variable {ow:List Bool} {a:Expr} {ma:ME} {pos:Pos}
end
section
variable {K:PySem.W.Frag} {t c:Value} {cs:List Value} {b:Bool}
end
section
variable {prog:Program} {w:World} {A:Around} {E:Value→Shared→Prop} {h:Heap} {g:Array GenState} {d:Drawn} {t:Nat} {os:OsState}
variable {nm q:Str} {C N:Addr} {bs bm:List Value} {hdct:Bool} {sn:List Str} {sub:List Value} {ab:Bool} {col:Option Bool} {dd:Option Addr} {k0 k1 k2 k3 k5:Option Value}
end
section
variable {prog:Program} {w:World} {A:Around} {E:Value→Shared→Prop} {h:Heap} {g:Array GenState} {d:Drawn} {t:Nat} {os:OsState}
variable {nm q:Str} {C N:Addr} {bs bm:List Value} {hdct:Bool} {sn:List Str} {sub:List Value} {ab:Bool} {col:Option Bool} {dd:Option Addr} {k0 k1 k2 k3 k5:Option Value}
end
end L2
namespace L2
open PySem PySem.Spec PyProof.Rows PySem.W Builtin.ObjectAttr Builtin
section
variable {prog:Program} {w:World} {A:Around} {E:Value→Shared→Prop} {s:Shared} {K:PySem.W.Frag} {x C:Addr} {ox:Obj} {od:Option Obj} {name:Str} {bm:List Value} {ini:Option Value} {v:Value}
end
end L2
namespace L2
open PySem PySem.Spec PyProof.Rows
section
variable {X:Cx} {pins:List (Addr×Obj)} {σ:St} {H:Hp} {s:Shared} {e C fI:Addr} {bm:List Value}
end
section
variable {prog:Program} {w:World} {A:Around} {E:Value→Shared→Prop} {s:Shared} {env:Env}
end
section
variable {X:Cx} {xk:XS} {x:Str} {C fI:Addr} {bm:List Value} {e:Expr} {args:List Expr} {np cpos pos:Pos} {t:TA} {k:Nat} {fd:FuncData} {ps ns:List Str}
end
section
variable {X:Cx} {M:Md} {e:Expr} {es:List Expr} {mr:MA} {x:Str} {pos:Pos} {k:Nat} {fd:FuncData} {ps ns:List Str}
end
section
variable {X:Cx} {es:List Expr} {c:St→Prop}
end
section
variable {X:Cx} {C B:Addr} {bm:List Value} {ini:Option Value} {x:Str} {a b:Expr} {np apos pos pos':Pos} {t:TA}
end
section
variable {X:Cx} {pins:List (Addr×Obj)} {σ:St} {H:Hp} {s:Shared} {h':Heap} {a:Addr} {oa od:HO}
end
section
variable {X:Cx} {C:Addr} {bm:List Value} {ini:Option Value} {f:Str} {o value:Expr} {pos pos':Pos} {ta tv:TE}
end
section
variable {X:Cx} {ow:List Bool} {a:Expr} {ma:ME} {pos:Pos} {f:Str}
end
section
variable {X:Cx}
variable {ow:List Bool} {e:Expr} {ma:ME}
end
section
variable {X:Cx} {M:Md} {ow:List Bool} {a e:Expr} {es:List Expr} {pos:Pos} {mex:MEX} {m1:MSX} {mg:MG}
variable {x:Str} {p':Pos} {ma:ME}
end
section
variable {C:Ctx} {ow:List Bool} {G:Hp} {ρ:DSt} {σ:St} {H:Hp} {pd:List (D×V)} {O:Own} {p:Addr} {xs:List V}
theorem RO.free (h:RO C ow G ρ σ H pd O) (hp:H p=none):G p=none∧O p=none∧C.H p=none:=by
 refine ⟨?_,?_,h.al p hp⟩
 ·cases e:G p with
  | none=>rfl
  | some z=>rw [h.gh _ _ e] at hp; cases hp
 ·cases e:O p with
  | none=>rfl
  | some l=>obtain ⟨_,⟨xs,q⟩,_⟩:=h.og p l e; rw [hp] at q; cases q
end
section
variable {X:Cx} {ow:List Bool} {a b e:Expr} {es:List Expr} {ma mb:ME} {mr:MA} {pos:Pos} {x:Str} {p':Pos}
end
section
variable {X:Cx} {M:Md} {i:Nat} {st:Stmt} {rest:List Stmt} {m1 m2:MFl} {me:MFe} {ms:MS} {pos pos':Pos}
variable {e b c:Expr} {ma mb:ME} {mt:MT}
end
section
variable {C:Ctx} {ow:List Bool} {i:Nat} {G:Hp} {ρ:DSt} {σ:St} {H:Hp} {p:Addr} {ds:List D}
end
section
variable {X:Cx} {M:Md} {i:Nat} {pos pos':Pos} {e c:Expr} {ma:ME} {mt:MT} {m1 m2:MFl}
end
section
variable {X:Cx} {M:Md} {a b e:Expr} {ma mb:ME} {pos:Pos}
end
mutual
theorem Sep.move {G H G' H':Hp} {O O':Own} {i i':Nat} (hG:bF G G'):∀ (d:D) (π π':List Nat) (v:V),(∀ a τ,O a=some (i,τ++π)→O' a=some (i',τ++π')∧H' a=H a)→Sep G H O i d π v→Sep G' H' O' i' d π' v
 | .non,_,_,_,_,h=>by rw [Sep] at *; exact h
 | .bl b,_,_,_,_,h=>by rw [Sep] at *; exact h
 | .int n,_,_,_,_,h=>by rw [Sep] at *; exact h
 | .str x,_,_,_,_,h=>by rw [Sep] at *; exact h
 | .tup ds,π,π',v,hO,h=>by
  rw [Sep] at *
  obtain ⟨a,xs,h1,h2,h3⟩:=h
  exact ⟨a,xs,h1,hG _ _ h2,Seps.move hG ds 0 π π' xs (fun a τ _=>hO a τ) h3⟩
 | .lst ds,π,π',v,hO,h=>by
  rw [Sep] at *
  obtain ⟨a,xs,h1,h2,h3,h4⟩:=h
  have q:=hO a [] h2
  exact ⟨a,xs,h1,q.1,q.2.trans h3,Seps.move hG ds 0 π π' xs (fun a τ _=>hO a τ) h4⟩
 | .dic ks ds,π,π',v,hO,h=>by
  rw [Sep] at *
  obtain ⟨a,xs,h1,h2,h3,h5,h4⟩:=h
  have q:=hO a [] h2
  exact ⟨a,xs,h1,q.1,q.2.trans h3,h5,Seps.move hG ds 0 π π' xs (fun a τ _=>hO a τ) h4⟩
 | .obj C ks ds,π,π',v,hO,h=>by
  rw [Sep] at *
  obtain ⟨a,dx,xs,h1,h2,h3,h5,h4⟩:=h
  have q:=hO a [] h2
  exact ⟨a,dx,xs,h1,q.1,q.2.trans h3,h5,Seps.move hG ds 0 π π' xs (fun a τ _=>hO a τ) h4⟩
 | .dct,_,_,_,_,h=>by rw [Sep] at h; exact h.elim
 | .scr _ _,_,_,_,_,h=>by rw [Sep] at h; exact h.elim
 | .ext _,_,_,_,_,h=>by rw [Sep] at h; exact h.elim
theorem Seps.move {G H G' H':Hp} {O O':Own} {i i':Nat} (hG:bF G G'):∀ (ds:List D) (k:Nat) (π π':List Nat) (xs:List V),(∀ a τ,τ≠[]→O a=some (i,τ++π)→O' a=some (i',τ++π')∧H' a=H a)→Seps G H O i ds k π xs→Seps G' H' O' i' ds k π' xs
 | [],_,_,_,_,_,h=>by rw [Seps] at *; exact h
 | d :: ds,k,π,π',xs,hO,h=>by
  rw [Seps] at *
  obtain ⟨v,vs,h1,h2,h3⟩:=h
  refine ⟨v,vs,h1,Sep.move hG d (k :: π) (k :: π') v (fun a τ e=>?_) h2,Seps.move hG ds (k + 1) π π' vs hO h3⟩
  have e':∀ ϖ:List Nat,τ++k :: ϖ=(τ++[k])++ϖ:=fun ϖ=>by simp
  rw [e'] at e ⊢
  exact hO a (τ++[k]) (by simp) e
end
section
variable {X:Cx} {M:Md} {a b:Expr} {ma mb:ME} {pos:Pos}
end
section
variable {X:Cx} {pos p1 p2 q1 q2:Pos} {n1 n2:Nat} {k1 k2 x y:Str} {i j:Nat} {ow:List Bool}
end
section
variable {X:Cx} {ow:List Bool} {a b e:Expr} {ma mb:ME} {pos p2:Pos} {lo hi:Option Expr} {ml mh:MO}
end
section
variable {X:Cx} {M:Md} {i:Nat} {st:Stmt} {m:MFl}
end
section
variable {X:Cx}
end
end L2
namespace L2
open PySem
end L2
namespace L2
open PySem PySem.Spec PyProof.Rows
section
variable {X:Cx}
end
section
variable {X:Cx} {M:Md} {e:Expr} {ma:ME} {pos:Pos}
end
section
variable {X:Cx} {M:Md} {i:Nat} {st:Stmt} {rest:List Stmt} {m1 m2:MFl} {me:MFe} {pos pos':Pos} {e:Expr} {ma:ME}
end
section
variable {X:Cx} {M:Md} {elt tg iter:Expr} {ifs:List Expr} {pos:Pos} {mi:MA} {mg:MG} {mt:MT} {me:ME} {scope:Scope} {cl:List (Str×Addr)} {rest:List Stmt} {mf:MFe}
end
section
variable {X:Cx} {ow:List Bool} {e:Expr} {ma:ME} {pos p2:Pos} {lo hi:Option Expr} {ml mh:MO}
end
end L2
namespace L2
open PySem
end L2
namespace L2
open PySem PySem.Spec PyProof.Rows
section
variable {X:Cx} {pins p:List (Addr×Obj)} {σ:St} {H:Hp} {s:Shared} {E:Value→Shared→Prop} {v:Value} {e:Addr} {cls:Value} {dx T:Option Addr}
variable {x:Str} {C D0:Addr} {bm bmD:List Value} {ini iniD:Option Value} {b0:Stmt} {suite:List Stmt} {np npos:Pos} {ts:TS} {D:Ends} {t:Addr}
end
section
variable {X:Cx} {ow:List Bool} {a b:Expr} {mex:MEX} {mb:ME} {pos:Pos}
end
end L2
namespace L2
open PySem
end L2
namespace L2
open PySem PySem.Spec PyProof.Rows
section
variable {X:Cx} {pos p1 q1:Pos} {n1:Nat} {k1:Int} {x:Str} {i:Nat} {ow:List Bool}
end
section
variable {X:Cx} {ow:List Bool} {es:List Expr} {mr:MA} {pos:Pos}
end
end L2
namespace L2
open PySem
end L2
namespace L2
open PySem PySem.Spec PyProof.Rows
section
variable {X:Cx}
end
section
variable {X:Cx} {M:Md} {e e':Expr} {mr:MA} {pos:Pos}
end
end L2
namespace L2
open PySem
def wayF (ps:List Int):D→D
 | .tup [.int a,.int b,_,_]=>ai (iy ps a b)
 | d=>d
def cm (rs:List Int) (s:Int) (w l:List Int):List Int:=w.filter fun t=>decide (rs.getD (t - 1).toNat 0<l.getD (t - 1).toNat 0 + s)
def nL:SpD:=fun ds q=>∃ ps rs a w l,ds=[aR ps rs,bv a,ai w,ai l]∧Tree ps rs∧(∀ t∈w,0<t∧t≤(ps.length:Int))∧w.length≤1000∧l.length=ps.length∧q (ai (cm rs a.size w l)) []
def fY (rs:List Int) (s:Int) (l:List Int):D→Option D
 | .int t=>if decide (rs.getD (t - 1).toNat 0<l.getD (t - 1).toNat 0 + s)=true then some (.int t) else none
 | _=>none
theorem e9 (rs:List Int) (s:Int) (l:List Int):∀ w:List Int,(w.map D.int).filterMap (fY rs s l)=(cm rs s w l).map D.int
 | []=>rfl
 | t :: w=>by
  have ih:=e9 rs s l w
  unfold cm at *
  rw [List.map_cons,List.filterMap_cons,List.filter_cons]
  have e:fY rs s l (.int t)=if decide (rs.getD (t - 1).toNat 0<l.getD (t - 1).toNat 0 + s)=true then some (.int t) else none:=rfl
  rw [e]
  by_cases h:decide (rs.getD (t - 1).toNat 0<l.getD (t - 1).toNat 0 + s)=true
  ·rw [if_pos h,if_pos h]; simp only [List.map_cons]; rw [ih]
  ·rw [if_neg h,if_neg h]; simp only; rw [ih]
def iO (ps rs:List Int) (a:Ask):Bool:=(aM ps a).any fun t=>decide (rs.getD (t - 1).toNat 0<2 * a.size)
def uC:SpD:=fun ds q=>∃ ps rs a,ds=[aR ps rs,bv a]∧Tree ps rs∧AskOk ps a∧q (.bl (iO ps rs a)) []
def rB (rs:List Int) (s:Int):D→D
 | .int t=>.bl (decide (rs.getD (t - 1).toNat 0<2 * s))
 | d=>d
theorem mj (rs:List Int) (s:Int) (w:List Int):(w.map D.int).map (rB rs s)=(w.map fun t=>decide (rs.getD (t - 1).toNat 0<2 * s)).map D.bl:=by rw [List.map_map,List.map_map]; rfl
def gM (as:List Ask) (k:Int):Ask:=as.getD k.toNat lB
def ot:SpD:=fun ds q=>∃ c m most,ds=[ai [c,m],.int most]∧0≤c∧1≤most∧most≤1000000000000∧∀ n c' m',1≤n→n≤most→0≤c'→q (.int n) [some (ai [c',m'])]
structure ParOk (ps:List Int):Prop where
 lo : 1≤ps.length
 hi:ps.length≤23
 par:∀ (i:Nat) (x:Int),ps[i]? = some x→0≤x∧x≤i
structure RoomOk (n:Nat) (least:Int) (rs:List Int):Prop where
 len:rs.length=n
 room:∀ (i:Nat) (x:Int),rs[i]? = some x→least≤x∧x≤1000000
theorem ParOk.tree {ps rs:List Int} {least:Int} (h:ParOk ps) (r:RoomOk ps.length least rs) (hl : 1≤least):Tree ps rs:=⟨r.len.symm,h.lo,h.hi,h.par,fun i x e=>by have:=r.room i x e; omega⟩
def ng:SpD:=fun ds q=>∃ c m most,ds=[ai [c,m],.int most]∧0≤c∧1≤most∧most≤23∧∀ ps c' m',ParOk ps→(ps.length:Int)≤most→0≤c'→q (ai ps) [some (ai [c',m'])]
def q8:SpD:=fun ds q=>∃ c m n least,ds=[ai [c,m],.int ((n:Nat):Int),.int least]∧0≤c∧1≤n∧n≤23∧1≤least∧least≤2∧∀ rs c' m',RoomOk n least rs→0≤c'→q (ai rs) [some (ai [c',m'])]
def rd:SpD:=fun ds q=>∃ c m n,ds=[ai [c,m],.int ((n:Nat):Int)]∧0≤c∧1≤n∧n≤23∧∀ a b c' m',0≤a→a≤(n:Int)→0≤b→b≤(n:Int)→a≠b→0≤c'→q (.tup [.int a,.int b]) [some (ai [c',m'])]
def sdUpP:SpD:=fun ds q=>∃ ps rs k,ds=[ai ps,.int k]∧Tree ps rs∧0≤k∧k≤ps.length∧∀ v,Up ps k (v++[0])→q (ai v) []
def sQ:SpD:=fun ds q=>∃ ps rs a b rest,ds=[ai ps,.tup (.int a :: .int b :: rest)]∧Tree ps rs∧0≤a∧a≤ps.length∧0≤b∧b≤ps.length∧q (ai (iy ps a b)) []
theorem Up.split {ps:List Int} {k:Int} {u:List Int} (h:Up ps k u):∃ v,u=v++[0]:=by
 induction h with
 | zero=>exact ⟨[],rfl⟩
 | step hk h ih=>obtain ⟨v,e⟩:=ih; exact ⟨_ :: v,by rw [e]; rfl⟩
theorem Up.pos {ps rs:List Int} (hT:Tree ps rs) {k:Int} {v:List Int} (h:Up ps k (v++[0])) (hk:k≤ps.length):∀ x∈v,0<x:=by
 intro x hx
 have:=(List.pairwise_append.mp (h.dec hT hk)).2.2 x hx 0 (.head _)
 exact this
theorem ii {p q:Int→Bool}:∀ {l:List Int},(∀ x∈l,p x=q x)→l.filter p=l.filter q:=fun h=>List.filter_congr h
theorem qF {ps rs:List Int} (hT:Tree ps rs) {a b:Int} (a0 : 0≤a) (b0 : 0≤b) (a1:a≤ps.length) (b1:b≤ps.length) {va vb:List Int} (hua:Up ps a (va++[0])) (hub:Up ps b (vb++[0])) :
 iy ps a b=cu (va.filter (fun x=>!vb.contains x)++vb.filter (fun x=>!va.contains x)):=by
 obtain ⟨w,hw,e⟩:=fw hT a0 b0 a1 b1
 have hm:=hw.low hT a0 b0 a1 b1
 obtain ⟨um,hum⟩:=Up.all hT _ (gE ps a b) rfl hm.1 (by omega)
 have hp:=hw.perm hT a0 b0 a1 b1 hua hub hum
 obtain ⟨ma,mb,mx⟩:=hw.meet hT a0 b0 a1 b1 hua hub
 obtain ⟨va',hsp⟩:=hum.split
 have h0:(0:Int)∈um:=by rw [hsp]; simp
 have pa:=Up.pos hT hua a1
 have pb:=Up.pos hT hub b1
 have inA:∀ x,x∈um→x∈va++[0]:=fun x hx=>by
  obtain ⟨uy,h1,_,h3⟩:=hua.chain hT a1 (x:=gE ps a b) (y:=gE ps a b) ma ma (Int.le_refl _)
  rw [← hum.det h1] at h3; exact h3 x hx
 have inB:∀ x,x∈um→x∈vb++[0]:=fun x hx=>by
  obtain ⟨uy,h1,_,h3⟩:=hub.chain hT b1 (x:=gE ps a b) (y:=gE ps a b) mb mb (Int.le_refl _)
  rw [← hum.det h1] at h3; exact h3 x hx
 have both:∀ x,x∈va++[0]→x∈vb++[0]→x∈um:=fun x h1 h2=>by
  obtain ⟨uy,h3,h4,_⟩:=hua.chain hT a1 h1 ma (mx x h1 h2)
  rw [hum.det h3]; exact h4
 have ea:va.filter (fun x=>!um.contains x)=va.filter (fun x=>!vb.contains x):=ii fun x hx=>by
  have hx0:=pa x hx
  have:(x∈um)↔(x∈vb):=⟨fun h=>by rcases List.mem_append.mp (inB x h) with h | h; exact h; have:=List.mem_singleton.mp h; omega,fun h=>both x (List.mem_append.mpr (.inl hx)) (List.mem_append.mpr (.inl h))⟩
  have e2:um.contains x=vb.contains x:=by rw [Bool.eq_iff_iff,List.contains_iff_mem,List.contains_iff_mem]; exact this
  show (!um.contains x)=(!vb.contains x)
  rw [e2]
 have eb:vb.filter (fun x=>!um.contains x)=vb.filter (fun x=>!va.contains x):=ii fun x hx=>by
  have hx0:=pb x hx
  have:(x∈um)↔(x∈va):=⟨fun h=>by rcases List.mem_append.mp (inA x h) with h | h; exact h; have:=List.mem_singleton.mp h; omega,fun h=>both x (List.mem_append.mpr (.inl h)) (List.mem_append.mpr (.inl hx))⟩
  have e2:um.contains x=va.contains x:=by rw [Bool.eq_iff_iff,List.contains_iff_mem,List.contains_iff_mem]; exact this
  show (!um.contains x)=(!va.contains x)
  rw [e2]
 have e0:([(0:Int)].filter fun x=>!um.contains x)=[]:=by
  rw [List.filter_cons_of_neg]; rfl
  rw [List.contains_iff_mem.mpr h0]; decide
 rw [List.filter_append,List.filter_append,List.filter_append,e0,List.append_nil,List.append_nil,ea,eb] at hp
 rw [e]
 exact kl ((bC w).trans hp) (dE w)
def roomLF:D→D
 | .int t=>.int (t - 1)
 | d=>d
def rz (rs:List Int):D→D
 | .int t=>.int (rs.getD (t - 1).toNat 0)
 | d=>d
theorem mX (rs w:List Int):(w.map D.int).map (rz rs)=(w.map fun t=>rs.getD (t - 1).toNat 0).map D.int:=by rw [List.map_map,List.map_map]; rfl
end L2
namespace L2
open PySem PySem.Spec PyProof.Rows
section
variable {X:Cx}
theorem nh (hc:X.calm=true):cM X (.builtin "min") (fun xs H Q=>∃ (p:Addr) (ns:List Int),xs=[.ref p]∧SqL X.K H p (ns.map V.int)∧0<ns.length∧∀ m,m∈ns→(∀ a,a∈ns→m≤a)→Q (.int m) H):=by
 intro pins s σ H xs us Q I r h
 obtain ⟨p,ns,rfl,hS,hne,q⟩:=h
 obtain ⟨u,rfl,ru⟩:=gH r
 cases ru
 obtain ⟨its,rv,hl⟩:=il I hS
 have hI₂:IntsAre its ns:=ib rv
 obtain ⟨ys,hys⟩:=hI₂.allInts.items
 have hlY:s.heap.IsList p (intItems ys):=hys ▸ hl
 have eY:ns=ys.toList.map (·.1):=by
  rw [← nums_intItems,← hys]; exact Eq.symm (show numsOf its.toArray.toList=ns from hI₂.numsOf)
 have hsz : 0<ys.size:=by rw [eY,List.length_map,Array.length_toList] at hne; exact hne
 refine min_intList (I.ok.hd hc) hlY hsz fun v hp tk₁ hv kept=>?_
 obtain ⟨t,rfl⟩:=intItems_at hv
 obtain ⟨h1,h2⟩:=argBest_lt (numAt ys) (ys.size - 1)
 refine ⟨.int _,H,I.kept kept,⟨t,rfl⟩,q _ ?_ fun a ha=>?_⟩
 ·rw [numAt_eq,eY]; exact PySem.getD_mem (by rw [List.length_map,Array.length_toList]; omega)
 ·rw [eY] at ha
  obtain ⟨j,hj,rfl⟩:=PySem.mem_getD ha
  rw [List.length_map,Array.length_toList] at hj
  rw [← numAt_eq]; exact h2 j (by omega)
end
def rq:List D→(D→Prop)→Prop:=fun ds q=>match ds with
 | [.lst xs]=>∃ ns:List Int,xs=ns.map D.int∧0<ns.length∧∀ m,m∈ns→(∀ a,a∈ns→m≤a)→q (.int m)
 | _=>False
theorem dMinL {K:PySem.W.Frag}:fS (fun xs H Q=>∃ (p:Addr) (ns:List Int),xs=[.ref p]∧SqL K H p (ns.map V.int)∧0<ns.length∧∀ m,m∈ns→(∀ a,a∈ns→m≤a)→Q (.int m) H) rq:=fun G H xs ds q Q s p hf k=>by
 unfold rq at hf
 split at hf
 ·obtain ⟨v,rfl,p1⟩:=bj p
  obtain ⟨a,xs,rfl,h1,h2⟩:=bh p1
  obtain ⟨ns,rfl,hn,hq⟩:=hf
  rw [dP h2] at h1
  exact ⟨a,ns,rfl,SqL.of (s _ _ h1),hn,fun m hm hx=>k _ _ (hq m hm hx) (bi _)⟩
 ·exact hf.elim
end L2
namespace L2
open PySem
theorem re {ps:List Int} {as:List Ask} (ha:AsksOk ps as) {k:Int} (h0 : 0≤k) (h1:k<(as.length:Int)):AskOk ps (gM as k):=ha.ok _ (ky (k:=k.toNat) (by omega))
theorem mR {α:Type} (n j:Nat) (x : α):(List.replicate n x).getD j x=x:=by
 rw [List.getD_eq_getElem?_getD,List.getElem?_replicate]; split <;> rfl
end L2
namespace L2
open PySem PySem.Spec PyProof.Rows
section
variable {X:Cx}
variable {ow:List Bool} {e e2:Expr} {ma mb:ME}
end
end L2
namespace L2
open PySem
end L2
namespace L2
open PySem PySem.Spec PyProof.Rows
section
variable {X:Cx}
end
end L2
namespace L2
open PySem
end L2
namespace L2
open PySem PySem.Spec PyProof.Rows
section
variable {κ:Type} [DecidableEq κ]
end
section
variable {P:Program} {w:World} {H:Hp} {h:Heap} {a:Addr}
end
section
variable {X:Cx} {pins:List (Addr×Obj)} {σ:St} {H:Hp} {s:Shared} {a:Addr} {y v:V} {u r:Value} {o:Option V} {A:Around} {E:Value→Shared→Prop}
end
section
variable {X:Cx} {pins:List (Addr×Obj)} {σ:St} {H:Hp} {s:Shared} {a:Addr} {kvs:List (Key×V)} {k:Key} {u:Value} {A:Around} {E:Value→Shared→Prop}
end
section
variable {X:Cx} {o i e value:Expr} {pos pos' tpos:Pos} {td ty tv:TE}
end
section
variable {X:Cx} {pos:Pos}
end
section
variable {X:Cx} {pins:List (Addr×Obj)} {σ:St} {H:Hp} {s:Shared} {a:Addr} {y d:V} {u r:Value} {o:Option V} {A:Around} {E:Value→Shared→Prop}
end
section
variable {X:Cx} {o e f:Expr} {apos cpos:Pos} {td ty tx:TE}
end
section
variable {X:Cx} {pins:List (Addr×Obj)} {σ:St} {H:Hp} {s:Shared} {a:Addr} {kvs:List (Key×V)} {A:Around} {E:Value→Shared→Prop}
end
section
variable {X:Cx} {pins:List (Addr×Obj)} {σ:St} {H:Hp} {s:Shared} {a:Addr} {y:V} {u:Value} {A:Around} {E:Value→Shared→Prop}
end
section
variable {C:Ctx} {ow:List Bool} {G:Hp} {ρ:DSt} {σ:St} {H:Hp} {pd:List (D×V)} {O:Own}
end
section
variable {X:Cx} {M:Md} {ow:List Bool} {a b c e:Expr} {ma mb mc:ME} {pos:Pos}
end
def fF:D→Nat→Option D
 | .lst ds,c=>ds[c]?
 | .tup ds,c=>ds[c]?
 | .obj _ _ ds,c=>ds[c]?
 | _,_=>none
def putS:D→Nat→D→D
 | .lst ds,c,e=>.lst (ds.set c e)
 | .tup ds,c,e=>.tup (ds.set c e)
 | .obj C ks ds,c,e=>.obj C ks (ds.set c e)
 | d,_,_=>d
def lenD:D→Nat
 | .lst ds=>ds.length
 | .tup ds=>ds.length
 | _=>0
def ge:List Nat→D→Option D
 | [],d=>some d
 | c :: p,d=>match fF d c with
  | some e=>ge p e
  | none=>none
def jr:List Nat→D→D→D
 | [],_,x=>x
 | c :: p,d,x=>match fF d c with
  | some e=>putS d c (jr p e x)
  | none=>d
def jO (H:Hp) (v:V) (xs:List V):Prop:=∃ b,v = .ref b∧(H b=some (.lst xs)∨H b=some (.tup xs)∨∃ (C dx:Addr) (ks:List Str),H b=some (.ins C dx (ks.zip xs))∧ks.length=xs.length)
theorem j5 {ks:List Str}:∀ {xs:List V},ks.length=xs.length→(ks.zip xs).map Prod.snd=xs:=by
 induction ks with
 | nil=>intro xs h; cases xs with
  | nil=>rfl
  | cons x r=>cases h
 | cons k ks ih=>intro xs h; cases xs with
  | nil=>cases h
  | cons x r=>rw [List.zip_cons_cons,List.map_cons,ih (by simpa using h)]
def ck (H:Hp):List Nat→V→V→Prop
 | [],v,u=>v=u
 | c :: p,v,u=>∃ xs w,jO H v xs∧xs[c]? = some w∧ck H p w u
theorem jO.one {H:Hp} {v:V} {xs ys:List V} (h:jO H v xs) (g:jO H v ys):xs=ys:=by
 obtain ⟨b,rfl,h⟩:=h
 obtain ⟨b',e,g⟩:=g
 cases e
 rcases h with h | h | ⟨C,dx,ks,h,l⟩ <;> rcases g with g | g | ⟨C',dx',ks',g,l'⟩
 ·rw [h] at g; cases g; rfl
 ·rw [h] at g; cases g
 ·rw [h] at g; cases g
 ·rw [h] at g; cases g
 ·rw [h] at g; cases g; rfl
 ·rw [h] at g; cases g
 ·rw [h] at g; cases g
 ·rw [h] at g; cases g
 ·rw [h] at g
  have e:ks.zip xs=ks'.zip ys:=by injection (Option.some.inj g)
  rw [← j5 l,← j5 l',e]
theorem jO.mono {H H':Hp} {v:V} {xs:List V} (s:az H H') (h:jO H v xs):jO H' v xs:=by
 obtain ⟨b,e,h⟩:=h
 refine ⟨b,e,?_⟩
 rcases h with h | h | ⟨C,dx,ks,h,l⟩
 ·exact .inl (s _ _ h)
 ·exact .inr (.inl (s _ _ h))
 ·exact .inr (.inr ⟨C,dx,ks,s _ _ h,l⟩)
theorem ck.mono {H H':Hp} (s:az H H'):∀ {p:List Nat} {v u:V},ck H p v u→ck H' p v u
 | [],_,_,h=>h
 | _ :: _,_,_,⟨xs,w,h1,h2,h3⟩=>⟨xs,w,h1.mono s,h2,h3.mono s⟩
theorem ck.one {H:Hp}:∀ {p:List Nat} {v u u':V},ck H p v u→ck H p v u'→u=u'
 | [],_,_,_,h,g=>h.symm.trans g
 | _ :: _,_,_,_,⟨xs,w,h1,h2,h3⟩,⟨ys,w',g1,g2,g3⟩=>by
  cases h1.one g1
  rw [h2] at g2; cases g2
  exact h3.one g3
theorem ck.snoc {H:Hp} {c:Nat} {xs:List V} {w:V}:∀ {p:List Nat} {v u:V},ck H p v u→jO H u xs→xs[c]? = some w→ck H (p++[c]) v w
 | [],v,u,h,g,e=>by cases h; exact ⟨xs,w,g,e,rfl⟩
 | _ :: _,_,_,⟨ys,w',h1,h2,h3⟩,g,e=>⟨ys,w',h1,h2,h3.snoc g e⟩
theorem f_ {c:Nat}:∀ {p:List Nat} {d e:D},ge p d=some e→ge (p++[c]) d=fF e c
 | [],d,e,h=>by cases h; show (match fF d c with | some e=>ge [] e | none=>none)=_; cases fF d c <;> rfl
 | b :: p,d,e,h=>by
  show (match fF d b with | some e=>ge (p++[c]) e | none=>none)=_
  change (match fF d b with | some e=>ge p e | none=>none)=_ at h
  cases q:fF d b with
  | none=>rw [q] at h; cases h
  | some e'=>rw [q] at h; exact f_ h
theorem Rep.walk {H:Hp}:∀ {p:List Nat} {d e:D} {v:V},Rep H d v→ge p d=some e→∃ u,ck H p v u∧Rep H e u
 | [],d,e,v,h,g=>by cases g; exact ⟨v,rfl,h⟩
 | c :: p,d,e,v,h,g=>by
  change (match fF d c with | some e=>ge p e | none=>none)=_ at g
  cases q:fF d c with
  | none=>rw [q] at g; cases g
  | some d1 =>
   rw [q] at g
   cases d with
   | lst ds =>
    rw [Rep] at h
    obtain ⟨a,xs,rfl,h1,h2⟩:=h
    obtain ⟨w,d',e1,e2,e3⟩:=dC (r:=c) h2 (List.getElem?_eq_some_iff.mp q).1
    rw [show ds[c]? = some d1 from q] at e2; cases e2
    obtain ⟨u,k1,k2⟩:=Rep.walk e3 g
    exact ⟨u,⟨xs,w,⟨a,rfl,.inl h1⟩,e1,k1⟩,k2⟩
   | tup ds =>
    rw [Rep] at h
    obtain ⟨a,xs,rfl,h1,h2⟩:=h
    obtain ⟨w,d',e1,e2,e3⟩:=dC (r:=c) h2 (List.getElem?_eq_some_iff.mp q).1
    rw [show ds[c]? = some d1 from q] at e2; cases e2
    obtain ⟨u,k1,k2⟩:=Rep.walk e3 g
    exact ⟨u,⟨xs,w,⟨a,rfl,.inr (.inl h1)⟩,e1,k1⟩,k2⟩
   | obj C ks ds =>
    rw [Rep] at h
    obtain ⟨a,dx,xs,rfl,h1,hl,h2⟩:=h
    obtain ⟨w,d',e1,e2,e3⟩:=dC (r:=c) h2 (List.getElem?_eq_some_iff.mp q).1
    rw [show ds[c]? = some d1 from q] at e2; cases e2
    obtain ⟨u,k1,k2⟩:=Rep.walk e3 g
    exact ⟨u,⟨xs,w,⟨a,rfl,.inr (.inr ⟨C,dx,ks,h1,hl.trans h2.length.symm⟩)⟩,e1,k1⟩,k2⟩
   | _=>cases q
theorem Seps.repl {G H H':Hp} {O:Own} {i:Nat} {d':D}:∀ {es:List D} {k0:Nat} {π:List Nat} {ys:List V} {c:Nat} {u:V},Seps G H O i es k0 π ys→ys[c]? = some u→Sep G H' O i d' ((k0 + c) :: π) u →
 (∀ (j:Nat) d v,j≠c→Sep G H O i d ((k0 + j) :: π) v→Sep G H' O i d ((k0 + j) :: π) v)→Seps G H' O i (es.set c d') k0 π ys
 | [],k0,π,ys,c,u,h,e,_,_=>by rw [Seps] at h; subst h; simp at e
 | d :: es,k0,π,ys,0,u,h,e,h1,h2=>by
  rw [Seps] at h
  obtain ⟨w,ws,rfl,w1,w2⟩:=h
  simp at e; subst e
  rw [List.set_cons_zero,Seps]
  refine ⟨_,ws,rfl,by simpa using h1,?_⟩
  have all:∀ (es:List D) (k:Nat) (ws:List V),k0<k→Seps G H O i es k π ws→Seps G H' O i es k π ws:=by
   intro es
   induction es with
   | nil=>intro k ws _ h; rw [Seps] at *; exact h
   | cons d es ih =>
    intro k ws hk h
    rw [Seps] at *
    obtain ⟨v,vs,rfl,v1,v2⟩:=h
    refine ⟨v,vs,rfl,?_,ih (k + 1) vs (by omega) v2⟩
    have:=h2 (k - k0) d v (by omega)
    rw [show k0 + (k - k0)=k by omega] at this
    exact this v1
  exact all es (k0 + 1) ws (by omega) w2
 | d :: es,k0,π,ys,c + 1,u,h,e,h1,h2=>by
  rw [Seps] at h
  obtain ⟨w,ws,rfl,w1,w2⟩:=h
  rw [List.set_cons_succ,Seps]
  refine ⟨w,ws,rfl,by have:=h2 0 d w (by omega); simpa using this (by simpa using w1),Seps.repl w2 (by simpa using e) ?_ ?_⟩
  ·rw [show k0 + 1 + c=k0 + (c + 1) by omega]; exact h1
  ·intro j d v hj
   rw [show k0 + 1 + j=k0 + (j + 1) by omega]
   exact h2 (j + 1) d v (by omega)
theorem Sep.focus {G H:Hp} {O:Own} {i:Nat} (gh:az G H) (og:∀ a l,O a=some l→G a=none):∀ {p:List Nat} {d:D} {π:List Nat} {v:V} {ds:List D},Sep G H O i d π v→ge p d=some (.lst ds) →
 ∃ a xs,ck H p v (.ref a)∧O a=some (i,p.reverse++π)∧H a=some (.lst xs)∧Seps G H O i ds 0 (p.reverse++π) xs ∧
  ∀ ds' xs',Seps G H O i ds' 0 (p.reverse++π) xs'→Sep G (upd H a (.lst xs')) O i (jr p d (.lst ds')) π v
 | [],d,π,v,ds,h,g=>by
  cases g
  rw [Sep] at h
  obtain ⟨a,xs,rfl,h1,h2,h3⟩:=h
  refine ⟨a,xs,rfl,h1,h2,h3,fun ds' xs' h'=>?_⟩
  show Sep G _ O i (.lst ds') π _
  rw [Sep]
  refine ⟨a,xs',rfl,h1,ax,h'.keep (fun _ _ z=>z) fun b τ hτ q=>⟨q,ag fun z=>?_⟩⟩
  rw [z,h1] at q
  have:=congrArg List.length (Prod.mk.inj (Option.some.inj q)).2
  simp at this
  exact hτ this
 | c :: p,d,π,v,ds,h,g=>by
  change (match fF d c with | some e=>ge p e | none=>none)=_ at g
  cases q:fF d c with
  | none=>rw [q] at g; cases g
  | some d1 =>
   rw [q] at g
   have other:∀ (a b:Addr) (j:Nat) (τ:List Nat),O a=some (i,p.reverse++c :: π)→O b=some (i,τ++j :: π)→j≠c→b≠a:=fun a b j τ ha hb hj z=>by
    rw [z,ha] at hb
    have e:=congrArg List.reverse (Prod.mk.inj (Option.some.inj hb)).2
    simp at e
    exact hj e.1.symm
   have lab:(c :: p).reverse++π=p.reverse++c :: π:=by simp
   have hset:∀ x,jr (c :: p) d x=putS d c (jr p d1 x):=fun x=>by
    show (match fF d c with | some e=>putS d c (jr p e x) | none=>d)=_
    rw [q]
   cases d with
   | lst es =>
    rw [Sep] at h
    obtain ⟨a0,ys,rfl,h1,h2,h3⟩:=h
    obtain ⟨w,e1,e2⟩:=h3.at (j:=c) q
    rw [Nat.zero_add] at e2
    obtain ⟨a,xs,k1,k2,k3,k4,k5⟩:=Sep.focus gh og e2 g
    have n0:a0≠a:=fun z=>by
     rw [← z,h1] at k2
     have:=congrArg List.length (Prod.mk.inj (Option.some.inj k2)).2
     simp at this
     omega
    refine ⟨a,xs,⟨ys,w,⟨a0,rfl,.inl h2⟩,e1,k1⟩,by rw [lab]; exact k2,k3,by rw [lab]; exact k4,fun ds' xs' h'=>?_⟩
    rw [hset]
    show Sep G _ O i (.lst (es.set c _)) π _
    rw [Sep]
    refine ⟨a0,ys,rfl,h1,by rw [ag n0]; exact h2,?_⟩
    refine h3.repl e1 (by rw [Nat.zero_add]; exact k5 ds' xs' (by rw [lab] at h'; exact h')) fun j d v hj s=>?_
    rw [Nat.zero_add] at s ⊢
    exact s.keep (fun _ _ z=>z) fun b τ qb=>⟨qb,ag (other a b j τ k2 qb hj)⟩
   | tup es =>
    rw [Sep] at h
    obtain ⟨a0,ys,rfl,h1,h3⟩:=h
    obtain ⟨w,e1,e2⟩:=h3.at (j:=c) q
    rw [Nat.zero_add] at e2
    obtain ⟨a,xs,k1,k2,k3,k4,k5⟩:=Sep.focus gh og e2 g
    refine ⟨a,xs,⟨ys,w,⟨a0,rfl,.inr (.inl (gh _ _ h1))⟩,e1,k1⟩,by rw [lab]; exact k2,k3,by rw [lab]; exact k4,fun ds' xs' h'=>?_⟩
    rw [hset]
    show Sep G _ O i (.tup (es.set c _)) π _
    rw [Sep]
    refine ⟨a0,ys,rfl,h1,?_⟩
    refine h3.repl e1 (by rw [Nat.zero_add]; exact k5 ds' xs' (by rw [lab] at h'; exact h')) fun j d v hj s=>?_
    rw [Nat.zero_add] at s ⊢
    exact s.keep (fun _ _ z=>z) fun b τ qb=>⟨qb,ag (other a b j τ k2 qb hj)⟩
   | obj Cc ks es =>
    rw [Sep] at h
    obtain ⟨a0,dx,ys,rfl,h1,h2,hl,h3⟩:=h
    obtain ⟨w,e1,e2⟩:=h3.at (j:=c) q
    rw [Nat.zero_add] at e2
    obtain ⟨a,xs,k1,k2,k3,k4,k5⟩:=Sep.focus gh og e2 g
    have n0:a0≠a:=fun z=>by
     rw [← z,h1] at k2
     have:=congrArg List.length (Prod.mk.inj (Option.some.inj k2)).2
     simp at this
     omega
    refine ⟨a,xs,⟨ys,w,⟨a0,rfl,.inr (.inr ⟨Cc,dx,ks,h2,hl.trans h3.length.symm⟩)⟩,e1,k1⟩,by rw [lab]; exact k2,k3,by rw [lab]; exact k4,fun ds' xs' h'=>?_⟩
    rw [hset]
    show Sep G _ O i (.obj Cc ks (es.set c _)) π _
    rw [Sep]
    refine ⟨a0,dx,ys,rfl,h1,by rw [ag n0]; exact h2,by rw [List.length_set]; exact hl,?_⟩
    refine h3.repl e1 (by rw [Nat.zero_add]; exact k5 ds' xs' (by rw [lab] at h'; exact h')) fun j d v hj s=>?_
    rw [Nat.zero_add] at s ⊢
    exact s.keep (fun _ _ z=>z) fun b τ qb=>⟨qb,ag (other a b j τ k2 qb hj)⟩
   | _=>cases q
section
variable {C:Ctx} {ow:List Bool} {G:Hp} {ρ:DSt} {σ:St} {H:Hp} {pd:List (D×V)} {O:Own}
theorem RO.writeP (h:RO C ow G ρ σ H pd O) {i:Nat} {p:List Nat} {d:D} {ds:List D} (e : ρ[i]? = some (some d)) (hp:ge p d=some (.lst ds)) (hi:ow[i]? = some true) :
 ∃ v a xs,σ[i]? = some (some v)∧ck H p v (.ref a)∧H a=some (.lst xs)∧Seps G H O (2 * i) ds 0 p.reverse xs ∧
  ∀ ds' xs',Seps G H O (2 * i) ds' 0 p.reverse xs'→RO C ow G (ρ.set i (some (jr p d (.lst ds')))) σ (upd H a (.lst xs')) pd O:=by
 obtain ⟨v,hv,s⟩:=h.sl i _ e
 rw [if_pos hi] at s
 obtain ⟨a,xs,k1,k2,k3,k4,k5⟩:=Sep.focus h.gh (fun a l e=>(h.og a l e).1) s hp
 rw [List.append_nil] at k2 k4 k5
 refine ⟨v,a,xs,hv,k1,k3,k4,fun ds' xs' hs'=>?_⟩
 obtain ⟨g0,_,nw⟩:=h.og a _ k2
 have ne:∀ b l π,O b=some (l,π)→l≠2 * i→b≠a:=fun b l π q n z=>by
  rw [z,k2] at q
  exact n (Prod.mk.inj (Option.some.inj q)).1.symm
 refine ⟨by simp [h.len],?_,h.g0,h.gn,?_,h.cok,?_,?_,?_,h.mp,?_,?_,h.np⟩
 ·intro b o q
  rw [ag (fun z=>by rw [z,g0] at q; cases q)]; exact h.gh _ _ q
 ·intro b l q
  obtain ⟨q1,⟨ys,q2⟩,q3⟩:=h.og b l q
  refine ⟨q1,?_,q3⟩
  by_cases z:b=a
  ·subst z; exact ⟨.inl _,ax⟩
  ·rw [ag z]; exact ⟨ys,q2⟩
 ·intro b o q n t
  by_cases z:b=a
  ·subst z
   rcases nw with nw | ⟨_,nw⟩
   ·rw [nw] at q; cases q
   ·rw [nw] at n; cases n
  ·rw [ag z]; exact h.fr b o q n t
 ·intro b ps q e
  by_cases z:b=a
  ·subst z; rw [ax] at e; cases e
  ·rw [ag z] at e; exact h.ft b ps q e
 ·intro b q
  by_cases z:b=a
  ·subst z; rw [ax] at q; cases q
  ·rw [ag z] at q; exact h.al b q
 ·intro j u q
  rcases a_ q with ⟨rfl,z⟩ | ⟨z,q'⟩
  ·cases z
   exact ⟨v,hv,by rw [if_pos hi]; exact k5 ds' xs' hs'⟩
  ·obtain ⟨w,h1,h2⟩:=h.sl j u q'
   refine ⟨w,h1,?_⟩
   split at h2
   ·rename_i c; rw [if_pos c]; exact h2.keep (fun _ _ z=>z) fun b τ q=>⟨q,ag (ne b _ _ q (by omega))⟩
   ·rename_i c; rw [if_neg c]; exact h2
 ·exact bg.keep (fun _ _ z=>z) (fun b j π hj q=>⟨q,ag (ne b _ _ q (fun z=>a8 z.symm))⟩) h.pn
end
abbrev MN0:=DSt→(Int→Prop)→Prop
def SN0 (ow:List Bool) (t:TE) (m:MN0):Prop:=∀ (C:Ctx) (G:Hp) (ρ:DSt) (σ:St) (H:Hp) (pd:List (D×V)) (q:Int→Prop) (Q:VK),R C ow G ρ σ H pd→m ρ q→(∀ n,q n→Q (.int n) H)→t σ H Q
structure QN0 (X:Cx) (ow:List Bool) (e:Expr) (m:MN0):Prop where
 ex:∃ t,PE X e t∧SN0 ow t m
section
variable {X:Cx} {ow:List Bool} {a b e:Expr} {pos:Pos} {ma mb:MN0}
theorem nB {i j}:QN0 X ow (.Constant (.int i) j pos) (fun _ q=>q i):=⟨_,nM,fun C G ρ σ H pd q Q r h k=>k _ h⟩
end
abbrev MPt:=DSt→(List Nat→D→Prop)→Prop
def SPt (ow:List Bool) (i:Nat) (t:TE) (m:MPt):Prop:=∀ (C:Ctx) (G:Hp) (ρ:DSt) (σ:St) (H:Hp) (pd:List (D×V)) (O:Own) (q:List Nat→D→Prop) (Q:VK),RO C ow G ρ σ H pd O→m ρ q →
 (∀ p d0 e v0 v,q p e→ρ[i]? = some (some d0)→ge p d0=some e→σ[i]? = some (some v0)→ck H p v0 v→Q v H)→t σ H Q
structure QPt (X:Cx) (ow:List Bool) (i:Nat) (e:Expr) (m:MPt):Prop where
 ex:∃ t,PE X e t∧SPt ow i t m
theorem RO.walk {C:Ctx} {ow:List Bool} {G:Hp} {ρ:DSt} {σ:St} {H:Hp} {pd:List (D×V)} {O:Own} (h:RO C ow G ρ σ H pd O) {i:Nat} {p:List Nat} {d e:D} (e1 : ρ[i]? = some (some d)) (hp:ge p d=some e) :
 ∃ v u,σ[i]? = some (some v)∧ck H p v u∧∃ G',az G' H∧ck G' p v u∧Rep G' e u:=by
 obtain ⟨v,hv,_⟩:=h.sl i _ e1
 have r:=h.enter [i]
 obtain ⟨v',hv',s⟩:=r.sl i _ e1
 rw [hv] at hv'; cases hv'
 rw [if_neg (fun z=>by rw [cz] at z; simp at z)] at s
 obtain ⟨u,k1,k2⟩:=Rep.walk s hp
 exact ⟨v,u,hv,k1.mono r.gh,_,r.gh,k1,k2⟩
section
variable {X:Cx} {M:Md} {ow:List Bool} {i:Nat} {a b e:Expr} {pos:Pos} {mp:MPt} {mz:MN0} {ma:ME}
theorem je {x:Str} (hN:X.N[i]? = some x:=by rfl) (hv:Vis X.env.scope x:=by first | exact Or.inl rfl | exact Or.inr (Or.inl rfl) | exact Or.inr (Or.inr rfl)) (hd:(x == ("__debug__":Str))=false:=by decide)
 (hcd:(x == ("__classdict__":Str))=false:=by decide):QPt X ow i (.Name x pos) (fun ρ q=>∃ d,ρ[i]? = some (some d)∧q [] d):=⟨_,bB hN hv hd hcd,fun C G ρ σ H pd O q Q r h k=>by
 obtain ⟨d,e,hq⟩:=h
 obtain ⟨v,h1,_⟩:=r.sl i _ e
 exact ⟨v,h1,k [] d d v v hq e rfl h1 rfl⟩⟩
def mPIx (mp:MPt) (mz:MN0):MPt:=fun ρ q=>mp ρ fun p d=>mz ρ fun n=>∃ c e,ixN (lenD d) n=some c∧fF d c=some e∧q (p++[c]) e
theorem rQ (ha:QPt X ow i a mp) (hb:QN0 X ow b mz) (hs:fL b:=by exact fun _ _=>rfl):QPt X ow i (.Subscript a b pos) (mPIx mp mz):=by
 obtain ⟨ta,pa,sa⟩:=ha; obtain ⟨tb,pb,sb⟩:=hb
 refine ⟨_,lJ av pa pb hs,fun C G ρ σ H pd O q Q r h k=>?_⟩
 refine sa C G ρ σ H pd O _ _ r h fun p d0 d v0 v hq e1 e2 e3 wk=>?_
 refine sb C G ρ σ H pd _ _ ⟨O,r⟩ hq fun n hn=>?_
 obtain ⟨c,e,h1,h2,hq⟩:=hn
 obtain ⟨v',u,g1,g2,G',sG,g3,g4⟩:=r.walk e1 e2
 rw [e3] at g1; cases g1
 obtain rfl:=wk.one g2
 have hx:∃ bb xs w,v=V.ref bb∧(H bb=some (.lst xs)∨H bb=some (.tup xs))∧xs.length=lenD d∧xs[c]? = some w:=by
  cases d with
  | lst ds =>
   rw [Rep] at g4
   obtain ⟨bb,xs,rfl,f1,f2⟩:=g4
   obtain ⟨w,d',w1,w2,w3⟩:=dC (r:=c) f2 (List.getElem?_eq_some_iff.mp h2).1
   exact ⟨bb,xs,w,rfl,.inl (sG _ _ f1),f2.length,w1⟩
  | tup ds =>
   rw [Rep] at g4
   obtain ⟨bb,xs,rfl,f1,f2⟩:=g4
   obtain ⟨w,d',w1,w2,w3⟩:=dC (r:=c) f2 (List.getElem?_eq_some_iff.mp h2).1
   exact ⟨bb,xs,w,rfl,.inr (sG _ _ f1),f2.length,w1⟩
  | obj C ks ds=>change ixN 0 n=some c at h1; unfold ixN at h1; exfalso; split at h1 <;> split at h1 <;> first | omega | cases h1
  | _=>cases h2
 obtain ⟨bb,xs,w,rfl,f1,f2,f3⟩:=hx
 have at1:atI xs n=some w:=by unfold atI; rw [f2,h1]; exact f3
 have fin:Q w H:=k (p++[c]) d0 e v0 w hq e1 (by rw [f_ e2]; exact h2) e3 (wk.snoc ⟨bb,rfl,f1.elim .inl fun z=>.inr (.inl z)⟩ f3)
 rcases f1 with f1 | f1
 ·exact .inl ⟨bb,xs,n,w,rfl,rfl,SqL.of f1,at1,fin⟩
 ·exact .inr (.inl ⟨bb,xs,n,w,rfl,rfl,SqT.of f1,at1,fin⟩)
def mAppP (i:Nat) (mp:MPt) (m:ME):MS:=fun n ρ=>mp ρ fun p e=>∃ d0 ds,e = .lst ds∧ρ[i]? = some (some d0)∧m ρ fun d ρ1=>imm d=true∧ds.length<1000∧n.nx (ρ1.set i (some (jr p d0 (.lst (ds++[d])))))
theorem jz {apos cpos:Pos} (hp:QPt X M.ow i a mp) (he:QE X (bor [i] M.ow) e ma) (ho:M.ow[i]? = some true:=by decide)
 (hbase:attributeBase a "append" X.env (eval a X.env)=eval a X.env:=by rfl)
 (hfew:((backTo cpos (starEach [e] X.env)).all (fun x=>!x.1)&&(backToKw cpos (keywordEach [] X.env)).all (fun x=>x.1.isSome)
  && decide ([e].length + ([]:List Keyword).length + (if ([]:List Keyword).isEmpty then 0 else 1)<30))=true:=by rfl)
 (hline:(apos.endLine == cpos.line)=true:=by rfl) (hst:starEach [e] X.env=[(false,eval e X.env)]:=by rfl)
 (hs:swapsWith (.Call (.Attribute a "append" apos) [e] [] cpos) none pos.line X.env=pure false:=by rfl) :
 QS X M (.Expr (.Call (.Attribute a "append" apos) [e] [] cpos) pos) (mAppP i mp ma):=by
 obtain ⟨t,p,s⟩:=he; obtain ⟨t1,p1,s1⟩:=hp
 refine ⟨_,gO (rD PySem.F.plainAttrs_list PySem.F.slot_list_append PySem.F.type_list_append iF p1 (a7 p dS hst) hbase hfew hline hst (by rfl)) hs,fun C G ρ σ H n D hm hn r h k=>?_⟩
 obtain ⟨O,ro⟩:=r
 refine s1 C G ρ σ H [] O _ _ ro h fun p d0 e v0 u hq e1 e2 e3 wk=>?_
 obtain ⟨d0',ds,rfl,e1',hq⟩:=hq
 rw [e1] at e1'; cases e1'
 have rb:=ro.enter [i]
 obtain ⟨v',hv',sb⟩:=rb.sl i _ e1
 rw [e3] at hv'; cases hv'
 rw [if_neg (fun z=>by rw [cz] at z; simp at z)] at sb
 obtain ⟨u',k1,k2⟩:=Rep.walk sb e2
 cases (k1.mono rb.gh).one wk
 rw [Rep] at k2
 obtain ⟨a1,xs1,rfl,f1,f2⟩:=k2
 refine ⟨.inl ⟨rfl,xs1,SqL.of (rb.gh _ _ f1)⟩,?_⟩
 refine s _ _ ρ σ H [] _ _ ⟨_,rb⟩ hq fun d ρ' v G' H' hq z kp r' pv=>?_
 obtain ⟨O',r'⟩:=r'
 obtain ⟨r2,z2,ts⟩:=ro.leave r' kp
 have ei : ρ'[i]? = some (some d0):=by rw [kp i (fun z=>by rw [cz] at z; simp at z)]; exact e1
 obtain ⟨v1,a2,xs2,g1,g2,g3,g4,g5⟩:=r2.writeP ei e2 ho
 rw [e3] at g1; cases g1
 have k3:ck H' p v0 (.ref a1):=(k1.mono z).mono r'.gh
 cases k3.one g2
 refine ⟨a1,xs2,v,rfl,rfl,g3,by rw [g4.length]; exact cB (Nat.le_of_lt hq.2.1),?_⟩
 exact k.nx _ _ _ _ hq.2.2 z2 ⟨_,g5 _ _ (g4.snoc (by rw [Nat.zero_add]; exact (pv.imms ts d v hq.1).sep d _ v hq.1))⟩
def mClrP (i:Nat) (mp:MPt):MS:=fun n ρ=>mp ρ fun p e=>∃ d0 ds,e = .lst ds∧ρ[i]? = some (some d0)∧n.nx (ρ.set i (some (jr p d0 (.lst []))))
theorem rl {apos cpos:Pos} (hp:QPt X M.ow i a mp) (ho:M.ow[i]? = some true:=by decide)
 (hbase:attributeBase a "clear" X.env (eval a X.env)=eval a X.env:=by rfl) (hline:(apos.endLine == cpos.line)=true:=by rfl)
 (hs:swapsWith (.Call (.Attribute a "clear" apos) [] [] cpos) none pos.line X.env=pure false:=by rfl) :
 QS X M (.Expr (.Call (.Attribute a "clear" apos) [] [] cpos) pos) (mClrP i mp):=by
 obtain ⟨t1,p1,s1⟩:=hp
 refine ⟨_,gO (tw PySem.F.plainAttrs_list PySem.F.slot_list_clear PySem.F.type_list_clear nu p1 hbase hline) hs,fun C G ρ σ H n D hm hn r h k=>?_⟩
 obtain ⟨O,ro⟩:=r
 refine s1 C G ρ σ H [] O _ _ ro h fun p d0 e v0 u hq e1 e2 e3 wk=>?_
 obtain ⟨d0',ds,rfl,e1',hq⟩:=hq
 rw [e1] at e1'; cases e1'
 obtain ⟨v1,a1,xs,g1,g2,g3,g4,g5⟩:=ro.writeP e1 e2 ho
 rw [e3] at g1; cases g1
 cases wk.one g2
 exact ⟨.inl ⟨rfl,xs,SqL.of g3⟩,a1,xs,rfl,rfl,g3,k.nx _ _ G _ hq (az.refl _) ⟨O,g5 [] [] (by rw [Seps])⟩⟩
end
section
variable {X:Cx} {M:Md} {i:Nat} {pos:Pos} {mg:MG} {m:MS}
end
end L2
namespace L2
open PySem
end L2
namespace L2
open PySem PySem.Spec PyProof.Rows
section
variable {X:Cx}
end
section
variable {X:Cx} {pins:List (Addr×Obj)} {σ:St} {H:Hp} {s:Shared}
end
section
variable {X:Cx} {ow:List Bool} {pos:Pos}
end
section
open AutoSeq1 (wpAny_loadPart')
open MeetsSeq MeetsSeq2 MeetsSeq3
end
section
variable {prog:Program} {w:World} {A:Around} {E:Value→Shared→Prop} {s:Shared}
end
section
variable {X:Cx}
end
section
variable {X:Cx} {ow:List Bool} {pos p1 p2 p3 p4:Pos} {j1 j2 j3 j4:Nat}
end
end L2
namespace L2
open PySem
end L2
namespace L2
open PySem PySem.Spec PyProof.Rows
section
variable {X:Cx} {ow:List Bool} {a b:Expr} {ma mb:DSt→(Int→Prop)→Prop} {pos:Pos}
end
section
variable {C:Ctx} {ow:List Bool} {G G':Hp} {ρ:DSt} {σ:St} {H H':Hp} {pd:List (D×V)} {O O':Own}
end
section
variable {X:Cx} {ow:List Bool} {tg iter:Expr} {ifs:List Expr} {pos pos':Pos} {mi:MA} {mg:MG} {scope:Scope} {cl:List (Str×Addr)}
end
section
variable {X:Cx}
variable {a b:Expr} {mr:MA} {pos:Pos}
end
section
variable {X:Cx} {tg:Expr}
variable {ow:List Bool} {a:Expr} {mr:MA} {pos:Pos}
end
section
variable {X:Cx}
open PySem.Builtin.Str (partsBetween occurrences)
variable {ow:List Bool} {e a b:Expr} {ma mb:ME}
end
section
variable {X:Cx} {tg:Expr}
variable {ow:List Bool} {e:Expr} {ma:ME}
end
end L2
namespace L2
open PySem PySem.Spec PyProof.Rows
section
variable {X:Cx}
end
end L2
namespace L2
open PySem
end L2
namespace L2
open PySem PySem.Spec PyProof.Rows
section
variable {prog:Program} {w:World} {A:Around} {E:Value→Shared→Prop} {s:Shared}
end
section
variable {X:Cx}
end
end L2
namespace L2
open PySem
end L2
namespace L2
open PySem PySem.Spec PyProof.Rows
section
variable {X:Cx} {ow:List Bool} {a b:Expr} {mex:MEX} {mb:ME} {pos:Pos}
end
section
variable {X:Cx} {pos p1 q1:Pos} {n1 n2:Nat} {k1 z:Int} {ow:List Bool}
end
section
variable {X:Cx} {ow:List Bool} {a b:Expr} {ma mb:ME} {pos:Pos}
end
section
variable {K:PySem.W.Frag} {mg:Str→Option Value} {n:Str} {st:Stmt} {ps:List Str} {f:Addr} {d:FuncData}
structure FT (K:PySem.W.Frag) (mg:Str→Option Value) (n:Str) (st:Stmt) (ps:List Str) (f:Addr) (d:FuncData):Prop where
 F:Fun K n n st f d
 b:cU K d ps []
 m:mg n=some (.ref f)
structure FH (K:PySem.W.Frag) (n:Str) (st:Stmt) (f:Addr) (d:FuncData):Prop where
 a:PySem.W.nsIn K mainGlobals n=some (some (.ref f))
 F:Fun K n n st f d
theorem aW {oc:Value} {od an:Option Addr} {osl:Array (Option Value)} {kV doc pm cdv ct:Value} (a:PySem.W.nsIn K mainGlobals n=some (some (.ref f))) (l:K.lookup f=some ⟨oc,od,.func (PySem.W.fnOf n n (b_ st) (bL st) (ah st) .none kV doc pm an cdv ct),osl⟩)
 (c:PySem.W.codeIn K cdv n=true) (k:PySem.W.keepIn K (.ref f)=true):FH K n st f (PySem.W.fnOf n n (b_ st) (bL st) (ah st) .none kV doc pm an cdv ct):=⟨a,pU l c k⟩
theorem FH.ft {h:Heap} (z:FH K n st f d) (X:K.In h) (G:h.Ns mainGlobals mg)
 (hb:∀ (kV doc pm:Value) (an:Option Addr) (cdv ct:Value) (us:List Value),us.length=ps.length→bindArgs (PySem.W.fnOf n n (b_ st) (bL st) (ah st) .none kV doc pm an cdv ct) ⟨us,[]⟩=pure (ps.zip us)):FT K mg n st ps f d:=⟨z.F,z.F.binds hb,PySem.W.mg_of X G z.a⟩
theorem aP {N P:List Str} {sc:Scope} (a:sc.kind = .function:=by rfl) (b:sc.isCoroutine=false:=by rfl) (c:sc.isGenerator=false:=by rfl) (d:N.Nodup:=by decide +kernel) (e:N.take P.length=P:=by rfl)
 (g:∀ x∈P,sc.names.lookup x=some .local∨sc.names.lookup x=some .cell:=by decide +kernel) (h:∀ y∈sc.names,y.2≠.free:=by decide +kernel):FnScope N P sc:=⟨a,b,c,d,e,g,h⟩
end
section
variable {X:Cx} {ow:List Bool} {k j:Nat} {f:Addr} {fd:FuncData} {ps:List Str} {mu:List Bool} {sd:SpD} {sx:SpX} {x:Str} {st:Stmt} {ks:List AK} {e:Expr} {es:List Expr} {mr:MA} {pos p':Pos}
theorem ar (F:FnOk X.prog X.w X.K X.mg X.base CX0 k f fd ps (aQ mu false sd)) (hr:Room j X.A) (t:FT X.K X.mg x st ps f fd) (ha:QAk X ow ks (e :: es) mr) (hj:k≤j:=by decide) (hg:Gl X x:=by rfl) (hmu:mu=ks.map AK.isM:=by rfl) (nd:(au ks).Nodup:=by decide) (hw:∀ i∈au ks,ow[i]? = some true:=by decide) (hdb:(x == ("__debug__":Str))=false:=by decide)
 (he:starEach (e :: es) X.env=(false,eval e X.env) :: starEach es X.env:=by rfl) (hpl:(backTo pos (starEach es X.env)).any (·.1)=false:=by rfl):QE X ow (.Call (.Name x p') (e :: es) [] pos) (iV ks sd mr):=qY F (hr.mono hj) hg t.m t.F.kp t.b ha hmu nd hw hdb he hpl
theorem aO (F:FnOk X.prog X.w X.K X.mg X.base CX0 k f fd ps (aQ mu true sd)) (hr:Room j X.A) (t:FT X.K X.mg x st ps f fd) (ha:QAk X ow ks (e :: es) mr) (hj:k≤j:=by decide) (hg:Gl X x:=by rfl) (hmu:mu=ks.map AK.isM:=by rfl) (nd:(au ks).Nodup:=by decide) (hw:∀ i∈au ks,ow[i]? = some true:=by decide) (hdb:(x == ("__debug__":Str))=false:=by decide)
 (he:starEach (e :: es) X.env=(false,eval e X.env) :: starEach es X.env:=by rfl) (hpl:(backTo pos (starEach es X.env)).any (·.1)=false:=by rfl):QF X ow (.Call (.Name x p') (e :: es) [] pos) (iV ks sd mr):=qq F (hr.mono hj) hg t.m t.F.kp t.b ha hmu nd hw hdb he hpl
end
section
variable {K:PySem.W.Frag} {C a N:Addr} {dd nd:Option Addr} {nm qn x:Str} {bs bm sub:List Value} {hd ab:Bool} {sn:List Str} {col:Option Bool} {k0 k1 k2 k3 k5 ini:Option Value} {no:Value} {es:Array DictEntry} {np:Nat} {nl:Array (Option Value)}
end
end L2
namespace L2
open PySem PySem.Spec PyProof.Rows PySem.W Att
section
variable {prog:Program} {w:World} {A:Around} {E:Value→Shared→Prop} {s:Shared}
variable {h₀:Heap} {L:Addr} {m:Str→Option Value} {news:List (Addr×Obj)}
end
section
variable {X:Cx} {pins:List (Addr×Obj)} {σ:St} {H:Hp} {s:Shared} {args:Arguments} {body:Expr} {scope:Scope} {pos:Pos} {c P:Addr} {clos:List (Str×Addr)}
end
section
variable {prog:Program} {w:World} {A:Around} {s:Shared} {X:Cx} {args:Arguments} {scope:Scope} {clos:List (Str×Addr)} {cv ctv:Value} {f cc p:Addr} {x y:Str} {p1 p2 p3 p4:Pos}
end
section
variable {X:Cx} {pins:List (Addr×Obj)} {σ:St} {H:Hp} {s:Shared} {args:Arguments} {scope:Scope} {clos:List (Str×Addr)} {cv ctv:Value} {f cc p r:Addr} {x y:Str} {p1 p2 p3 p4:Pos} {n:Nat} {ns:List Int} {t u v:Tok} {Q:Value→Shared→Prop}
end
section
variable {X:Cx} {e:Expr} {te:TE} {x y:Str} {j:Nat} {c P:Addr} {args:Arguments} {scope:Scope} {p1 p2 p3 p4 q1 q2 q3 lp kp pos:Pos}
end
end L2
namespace L2
open PySem PySem.Spec PyProof.Rows PySem.W
section
variable {C:Ctx} {ow:List Bool} {G:Hp} {ρ:DSt} {σ:St} {H H2:Hp} {pd:List (D×V)} {O:Own}
end
section
variable {X:Cx} {ow:List Bool} {e:Expr} {me:ME} {x y:Str} {j:Nat} {c P:Addr} {args:Arguments} {scope:Scope} {p1 p2 p3 p4 q1 q2 q3 lp kp pos:Pos} {k:Nat}
end
end L2
namespace L2
open PySem
def k_:SpD:=fun ds q=>∃ ps rs a l,ds=[aR ps rs,bv a,ai l]∧Tree ps rs∧Ends2 ps a.one a.other∧l.length=ps.length∧q (ai (cm rs a.size (aM ps a) l)) []
end L2
namespace L2
open PySem PySem.Spec PyProof.Rows PySem.W
end L2
namespace L2
open PySem
end L2
namespace L2
open PySem PySem.Spec PyProof.Rows
section
variable {X:Cx} {M:Md} {a b c e:Expr} {ma mb mc:ME} {pos pos':Pos}
end
end L2
namespace L2
open PySem
end L2
namespace L2
open PySem PySem.Spec PyProof.Rows
section
variable {X:Cx}
end
section
variable {X:Cx} {o e:Expr} {apos cpos:Pos} {te:TE} {a:Addr} {kv:List (Str×Int)}
end
section
variable {X:Cx} {ow:List Bool} {b:Expr} {mb:ME} {pos apos cpos:Pos}
end
section
variable {X:Cx}
end
section
variable {X:Cx} {M:Md} {e:Expr} {ma:ME} {pos:Pos}
end
section
variable {X:Cx}
end
section
variable {X:Cx} {pos:Pos}
end
section
variable {X:Cx} {M:Md} {a b c:Expr} {ma mb mc:ME} {pos:Pos}
end
end L2
namespace L2
open PySem
end L2
namespace L2
open PySem PyProof.Rows
section
variable {prog:Program} {w:World} {A:Around} {E:Value→Shared→Prop} {s:Shared}
end
end L2
namespace L2
open PySem PyProof.Rows PySem.Spec
section
variable {prog:Program} {w:World} {A:Around} {R:Result→Shared→Prop} {I:Addr} {fp wr:List Addr} {G:Array GenState→Array GenState→Prop} {n:Nat} {P:Nat→Value→Prop} {St:Nat→Shared→Prop}
end
section
variable {prog:Program} {w:World} {A:Around} {E:Value→Shared→Prop} {s:Shared}
end
section
variable {prog:Program} {w:World} {A:Around} {E:Value→Shared→Prop} {s:Shared}
end
section
variable {prog:Program} {w:World} {A:Around} {E:Value→Shared→Prop} {s:Shared}
end
section
variable {prog:Program} {w:World} {A:Around} {E:Value→Shared→Prop} {s:Shared}
end
section
variable {prog:Program} {w:World} {A:Around} {E:Value→Shared→Prop} {s:Shared}
end
section
variable {prog:Program} {w:World} {A:Around} {E:Value→Shared→Prop} {s:Shared}
end
end L2
namespace L2
open PySem PySem.Spec PyProof.Rows
section
variable {X:Cx}
variable {ow:List Bool} {e:Expr} {ma:ME} {pos p1 p2 p3:Pos}
end
end L2
namespace L2
open PySem
end L2
namespace L2
open PySem PySem.Spec PyProof.Rows
section
variable {X:Cx}
end
section
variable {X:Cx} {es:List Expr} {ps:List FP}
end
end L2
namespace L2
open PySem PySem.Spec PyProof.Rows PySem.NumText
end L2
namespace L2
open PySem PySem.Spec PyProof.Rows
def fldD (f:Str):List Str→List D→Option D
 | k :: ks,d :: ds=>match f == k with
  | true=>some d
  | false=>fldD f ks ds
 | _,_=>none
theorem lE {H:Hp} {f:Str} {d:D}:∀ {ks:List Str} {ds:List D} {xs:List V},Reps H ds xs→fldD f ks ds=some d→∃ v,(ks.zip xs).lookup f=some v∧Rep H d v
 | [],ds,xs,_,h=>by cases ds <;> cases h
 | k :: ks,[],xs,_,h=>by cases h
 | k :: ks,e :: ds,xs,r,h=>by
  rw [Reps] at r
  obtain ⟨v,vs,rfl,r1,r2⟩:=r
  rw [List.zip_cons_cons,List.lookup_cons]
  rw [fldD] at h
  split at h
  ·rename_i c; rw [c]; cases h; exact ⟨v,rfl,r1⟩
  ·rename_i c; rw [c]; exact lE r2 h
def mZ (f:Str):List Str→Option Nat
 | []=>none
 | k :: ks=>match f == k with
  | true=>some 0
  | false=>(mZ f ks).map (· + 1)
theorem gI {f:Str}:∀ {ks:List Str} {xs:List V} {c:Nat} {w:V},mZ f ks=some c→xs[c]? = some w→(ks.zip xs).lookup f=some w
 | [],xs,c,w,h,_=>by cases h
 | k :: ks,[],c,w,_,e=>by simp at e
 | k :: ks,x :: xs,c,w,h,e=>by
  rw [List.zip_cons_cons,List.lookup_cons]
  rw [mZ] at h
  split at h
  ·rename_i q; rw [q]; cases h; simpa using e
  ·rename_i q; rw [q]
   obtain ⟨c',h1,rfl⟩:=Option.map_eq_some_iff.mp h
   exact gI h1 (by simpa using e)
theorem eF {m:Str}:∀ {ks:List Str} {xs:List V},ks.contains m=false→(ks.zip xs).lookup m=none
 | [],xs,_=>rfl
 | k :: ks,[],_=>rfl
 | k :: ks,x :: xs,h=>by
  rw [List.contains_cons,Bool.or_eq_false_iff] at h
  rw [List.zip_cons_cons,List.lookup_cons,h.1]
  exact eF h.2
section
variable {C:Ctx} {ow:List Bool} {G:Hp} {ρ:DSt} {σ:St} {H:Hp} {pd:List (D×V)} {O:Own}
theorem RO.newI (h:RO C ow G ρ σ H pd O) {p Cc dx:Addr} (hp:H p=none):R C ow G ρ σ (upd H p (.ins Cc dx [])) ((.obj Cc [] [],.ref p) :: pd):=by
 obtain ⟨gp,op,_⟩:G p=none∧O p=none∧C.H p=none:=h.free hp
 have ne:∀ a l,O a=some l→a≠p:=fun a l e z=>by rw [z,op] at e; cases e
 let O':Own:=fun a=>if a=p then some (2 * pd.length + 1,[]) else O a
 have old:∀ a l,O a=some l→O' a=some l:=fun a l e=>by
  show (if a=p then _ else _)=_
  rw [if_neg (ne a _ e),e]
 refine ⟨O',h.len,?_,h.g0,h.gn,?_,h.cok,?_,?_,?_,h.mp,?_,⟨?_,?_⟩,Nat.le_succ_of_le h.np⟩
 ·intro a u e
  rw [ag (fun z=>by rw [z,gp] at e; cases e)]
  exact h.gh _ _ e
 ·intro a l e
  by_cases z:a=p
  ·subst z; exact ⟨gp,⟨.ins Cc dx [],ax⟩,.inl (h.al _ hp)⟩
  ·rw [ag z]
   change (if a=p then _ else _)=_ at e
   rw [if_neg z] at e
   exact h.og a _ e
 ·intro a u e n t
  rw [ag (am (h.fr a u e n t) hp)]
  exact h.fr a u e n t
 ·intro a ps q e
  by_cases z:a=p
  ·subst z; rw [ax] at e; cases e
  ·rw [ag z] at e; exact h.ft a ps q e
 ·intro a e
  by_cases z:a=p
  ·subst z; rw [ax] at e; cases e
  ·rw [ag z] at e; exact h.al a e
 ·intro i d e
  obtain ⟨v,h1,h2⟩:=h.sl i d e
  refine ⟨v,h1,?_⟩
  split at h2
  ·rename_i c; rw [if_pos c]; exact h2.keep (fun _ _ z=>z) fun a τ q=>⟨old a _ q,ag (ne a _ q)⟩
  ·rename_i c; rw [if_neg c]; exact h2
 ·rw [Sep]
  exact ⟨p,dx,[],rfl,by show (if p=p then _ else _)=_; rw [if_pos rfl],ax,rfl,by rw [Seps]⟩
 ·exact bg.keep (fun _ _ z=>z) (fun a j π hj q=>⟨old a _ q,ag (ne a _ q)⟩) h.pn
theorem RO.writeI (h:RO C ow G ρ σ H pd O) {i:Nat} {Cc:Addr} {ks:List Str} {ds:List D} (e : ρ[i]? = some (some (.obj Cc ks ds))) (hi:ow[i]? = some true) :
 ∃ a dx xs,σ[i]? = some (some (.ref a))∧H a=some (.ins Cc dx (ks.zip xs))∧ks.length=ds.length∧Seps G H O (2 * i) ds 0 [] xs ∧
  ∀ (ks':List Str) ds' xs',ks'.length=ds'.length→Seps G H O (2 * i) ds' 0 [] xs'→RO C ow G (ρ.set i (some (.obj Cc ks' ds'))) σ (upd H a (.ins Cc dx (ks'.zip xs'))) pd O:=by
 obtain ⟨v,hv,s⟩:=h.sl i _ e
 rw [if_pos hi,Sep] at s
 obtain ⟨a,dx,xs,rfl,hO,hH,hl,hs⟩:=s
 refine ⟨a,dx,xs,hv,hH,hl,hs,fun ks' ds' xs' hl' hs'=>?_⟩
 obtain ⟨g0,_,nw⟩:=h.og a _ hO
 have ne:∀ b l π,O b=some (l,π)→(l≠2 * i∨π≠[])→b≠a:=fun b l π q n z=>by
  subst z
  rw [hO] at q
  obtain ⟨q1,q2⟩:=Prod.mk.inj (Option.some.inj q)
  rcases n with n | n
  ·exact n q1.symm
  ·exact n q2.symm
 refine ⟨by simp [h.len],?_,h.g0,h.gn,?_,h.cok,?_,?_,?_,h.mp,?_,?_,h.np⟩
 ·intro b o q
  rw [ag (fun z=>by rw [z,g0] at q; cases q)]; exact h.gh _ _ q
 ·intro b l q
  obtain ⟨q1,⟨ys,q2⟩,q3⟩:=h.og b l q
  refine ⟨q1,?_,q3⟩
  by_cases z:b=a
  ·subst z; exact ⟨.ins Cc dx _,ax⟩
  ·rw [ag z]; exact ⟨ys,q2⟩
 ·intro b o q n t
  by_cases z:b=a
  ·subst z
   rcases nw with nw | ⟨_,nw⟩
   ·rw [nw] at q; cases q
   ·rw [nw] at n; cases n
  ·rw [ag z]; exact h.fr b o q n t
 ·intro b ps q e
  by_cases z:b=a
  ·subst z; rw [ax] at e; cases e
  ·rw [ag z] at e; exact h.ft b ps q e
 ·intro b q
  by_cases z:b=a
  ·subst z; rw [ax] at q; cases q
  ·rw [ag z] at q; exact h.al b q
 ·intro j u q
  rcases a_ q with ⟨rfl,z⟩ | ⟨z,q'⟩
  ·cases z
   refine ⟨_,hv,?_⟩
   rw [if_pos hi,Sep]
   exact ⟨a,dx,xs',rfl,hO,ax,hl',hs'.keep (fun _ _ z=>z) fun b τ hτ q=>⟨q,ag (ne b _ _ q (.inr (by simpa using hτ)))⟩⟩
  ·obtain ⟨w,h1,h2⟩:=h.sl j u q'
   refine ⟨w,h1,?_⟩
   split at h2
   ·rename_i c; rw [if_pos c]; exact h2.keep (fun _ _ z=>z) fun b τ q=>⟨q,ag (ne b _ _ q (.inl (by omega)))⟩
   ·rename_i c; rw [if_neg c]; exact h2
 ·exact bg.keep (fun _ _ z=>z) (fun b j π hj q=>⟨q,ag (ne b _ _ q (.inl (fun z=>a8 z.symm)))⟩) h.pn
end
theorem qE {C:Ctx} {ow:List Bool} {G:Hp} {ρ:DSt} {σ:St} {H:Hp} {pd T:List (D×V)} {ks0:List AK} {ds ds':List D} {vs:List V} {x0:V} {sd:SpD} {q:D→DSt→Prop} {Q:VK} {E:XK}
 (hn:C.np≤pd.length) (r:R C ow G ρ σ H (T.reverse++pd)) (ha:eT G σ (.t :: ks0) ds (x0 :: vs) T) (hf:cj (.t :: ks0) ds ρ=some ds') (nd:(au (.t :: ks0)).Nodup) (hw:∀ i∈au (.t :: ks0),ow[i]? = some true)
 (h:sd ds' fun d os=>d = .non∧∃ d1,os.head? = some (some d1)∧q d1 (ey (.t :: ks0) os ρ))
 (k:∀ d ρ' G' H',q d ρ'→az G G'→Kp ow ρ ρ'→R C ow G' ρ' σ H' ((d,x0) :: pd)→Q x0 H'):aQ ((.t :: ks0).map AK.isM) false sd (x0 :: vs) H (fun v H2=>v = .non∧Q x0 H2) E:=by
 obtain ⟨ks,hks⟩:∃ ks:List AK,ks = .t :: ks0:=⟨_,rfl⟩
 obtain ⟨vs',hvs⟩:∃ vs':List V,vs'=x0 :: vs:=⟨_,rfl⟩
 rw [← hks] at ha hf nd hw h ⊢
 rw [← hvs] at ha ⊢
 obtain ⟨O,ro⟩:=r
 have pn:=ro.pn
 obtain ⟨l1,l2,hat⟩:=fV (O:=O) (H:=H) (r:=pd.length) ha hf (fun j x e=>gQ pn e) (fun i hi d e=>by
  obtain ⟨v,h1,h2⟩:=ro.sl i d e; rw [if_pos (hw i hi)] at h2; exact ⟨v,h1,h2⟩)
 let lb:=lbs ks pd.length
 let fin:Nat→Option Nat:=fun l=>(fnd l lb 0).map (2 * ·)
 let fbk:Nat→Option Nat:=fun l=>if l=1 then some (2 * pd.length + 1) else if l % 2=0 then (match lb[l / 2]? with | some o=>o | none=>none) else none
 have uq:=d5 (ks:=ks) (r:=pd.length) nd
 have fin_at:∀ (i l:Nat),lb[i]? = some (some l)→fin l=some (2 * i):=fun i l e=>by
  show (fnd l lb 0).map _=_
  rw [kG uq e]; simp
 have fin_of:∀ l l',fin l=some l'→∃ i,l'=2 * i∧lb[i]? = some (some l):=fun l l' e=>by
  change (fnd l lb 0).map _=_ at e
  cases z:fnd l lb 0 with
  | none=>rw [z] at e; cases e
  | some j=>rw [z] at e; cases e; obtain ⟨i,rfl,e2⟩:=ll z; exact ⟨i,by show 2 * (0 + i)=2 * i; omega,e2⟩
 have fin_none:∀ l,(∀ i:Nat,lb[i]?≠some (some l))→fin l=none:=fun l e=>by
  show (fnd l lb 0).map _=_
  rw [iq e]; rfl
 have ri:=ro.into (mu:=ks.map AK.isM) (fin:=fin) (ds:=ds') (vs:=vs') l1 (fun j d e=>by
  obtain ⟨v,h1,h2⟩:=hat j d e
  refine ⟨v,h1,?_⟩
  rcases h2 with ⟨l,h2,h3,h4⟩ | ⟨h2,h3⟩
  ·rw [if_pos h3]; exact ⟨l,h4,fin_at j l h2⟩
  ·rw [if_neg (by rw [h2]; decide)]; exact h3) (fun l l' e=>by
  obtain ⟨i,rfl,e2⟩:=fin_of l l' e
  exact ⟨i,rfl,du e2,by have:=(List.getElem?_eq_some_iff.mp (du e2)).1; rw [List.length_map] at this; omega⟩)
 refine ⟨_,G,ds',_,rfl,rfl,⟨_,ri⟩,h,by rw [List.length_map,l1,l2],?_⟩
 intro d ρ2 σ2 v G2 H2 hq z hl hr
 rw [List.length_map] at hl
 obtain ⟨hd,d1,hd1,hq⟩:=hq
 subst hd
 rw [fR hl] at hq
 have out:∀ (pd2 pd3:List (D×V)) (O2:Own),RO ⟨G,H,bY fin O,msV (ks.map AK.isM) vs',0⟩ (ks.map AK.isM) G2 ρ2 σ2 H2 pd2 O2→C.np≤pd3.length →
  (∀ (O3:Own),(∀ a l π,O a=some (l,π)→fin l=none→O3 a=some (l,π)∧H2 a=H a)→(∀ a l l' π,O2 a=some (l',π)→fbk l'=some l→O3 a=some (l,π))→bF G G2→bg G2 H2 O3 pd3) →
  RO C ow G2 (bI ks ρ2 ρ) σ H2 pd3 (lf fin fbk O O2):=fun pd2 pd3 O2 r2 hn3 hP=>by
  refine ro.out (vs:=vs') r2 ?_ (by rw [eE]; exact ro.len) hn3 ?_ ?_ hP
  ·intro l0 l' l e1 e2
   obtain ⟨i,rfl,e3⟩:=fin_of l0 l' e1
   change (if 2 * i=1 then _ else if 2 * i % 2=0 then _ else _)=_ at e2
   rw [if_neg (by omega),if_pos (by omega),show 2 * i / 2=i by omega,e3] at e2
   exact (Option.some.inj e2).symm
  ·intro i d c e
   rcases dJ e hl with ⟨_,h2⟩ | ⟨k,h1,_⟩
   ·exact h2
   ·exact absurd (hw i (lH h1)) c
  ·intro i d c e
   rcases dJ e hl with ⟨h1,h2⟩ | ⟨j,h1,h2⟩
   ·refine .inl ⟨fin_none _ fun j e=>?_,h2⟩
    rcases bW e with ⟨z,h3,h4⟩ | ⟨z,h3,h4⟩
    ·exact h1 (by rw [show i=z by omega]; exact h3)
    ·omega
   ·obtain ⟨u,g1,g2⟩:=df ha h1
    have im:(ks.map AK.isM)[j]? = some true:=by rw [List.getElem?_map,h1]; rfl
    refine .inr ⟨j,u,?_,im,h2,g2,r2.mp j u (fe im g1)⟩
    show (if 2 * j=1 then _ else if 2 * j % 2=0 then _ else _)=_
    rw [if_neg (by omega),if_pos (by omega),show 2 * j / 2=j by omega,jT h1]
 have pdk:∀ (O3:Own),(∀ a l π,O a=some (l,π)→fin l=none→O3 a=some (l,π)∧H2 a=H a)→bF G G2→bg G2 H2 O3 pd:=fun O3 h1 ts =>
  bg.keep ts (fun a j π hj e=>h1 a _ _ e (fin_none _ fun i e=>by
   rcases bW e with ⟨z,h3,h4⟩ | ⟨z,h3,h4⟩ <;> omega)) (dl (T:=T.reverse) pn)
 have kp:Kp ow ρ (bI ks ρ2 ρ):=fun j hj=>ec fun hs=>hj (hw j hs)
 unfold Ret at hr
 rw [if_neg (by decide)] at hr
 obtain ⟨⟨O2,r2⟩,p⟩:=hr
 refine ⟨by rw [Rep] at p; exact p,k d1 (bI ks ρ2 ρ) G2 H2 hq z kp ?_⟩
 have im0:(ks.map AK.isM)[0]? = some true:=by rw [hks]; rfl
 have e0 : ρ2[0]? = some (some d1):=by
  cases ρ2 with
  | nil=>rw [hks] at hl; cases hl
  | cons y ys=>rw [hks] at hd1; exact hd1
 obtain ⟨v0,w1,w2⟩:=r2.sl 0 d1 e0
 rw [if_pos im0] at w2
 have w3 : σ2[0]? = some (some x0):=r2.mp 0 x0 (fe im0 (by rw [hvs]; rfl))
 rw [w1] at w3; cases w3
 refine ⟨_,out _ ((d1,x0) :: pd) O2 r2 (Nat.le_succ_of_le hn) fun O3 h1 h2 ts=>⟨?_,pdk O3 h1 ts⟩⟩
 refine w2.keep (fun _ _ z=>z) fun a τ e=>⟨h2 a _ _ _ e ?_,rfl⟩
 show (if 2 * 0=1 then _ else if 2 * 0 % 2=0 then _ else _)=_
 rw [if_neg (by decide),if_pos (by decide)]
 show (match (lbs ks pd.length)[0]? with | some o=>o | none=>none)=_
 rw [hks]; rfl
section
variable {X:Cx} {ow:List Bool} {a b c e o:Expr} {ma mb:ME} {pos apos:Pos} {Cc:Addr} {f m:Str}
def mFld (Cc:Addr) (f:Str) (ma:ME):ME:=fun ρ q=>ma ρ fun d ρ'=>match d with
 | .obj C ks ds=>C=Cc∧∃ x,fldD f ks ds=some x∧q x ρ'
 | _=>False
theorem bU (cl:Cls X.K Cc) (na:bD X.K Cc f) (h:QE X ow e ma) (hb:attributeBase e f X.env (eval e X.env)=eval e X.env:=by rfl):QE X ow (.Attribute e f pos) (mFld Cc f ma):=by
 obtain ⟨t,p,s⟩:=h
 refine ⟨_,o8 p hb,fun C G ρ σ H pd q Q r hm k=>s C G ρ σ H pd _ _ r hm fun d ρ' v G' H' hq z kp r' pp=>?_⟩
 cases d with
 | obj C1 ks ds =>
  obtain ⟨rfl,x,hx,hq⟩:=hq
  rw [Rep] at pp
  obtain ⟨a,dx,xs,rfl,h1,hl,h2⟩:=pp
  obtain ⟨u,l,ru⟩:=lE h2 hx
  exact ⟨a,_,dx,_,u,rfl,r'.gh _ _ h1,cl,na,l,k _ ρ' _ _ _ hq z kp r' ru⟩
 | _=>exact hq.elim
def mPFld (Cc:Addr) (f:Str) (mp:MPt):MPt:=fun ρ q=>mp ρ fun p d=>match d with
 | .obj C ks ds=>C=Cc∧∃ c e,mZ f ks=some c∧ds[c]? = some e∧q (p++[c]) e
 | _=>False
theorem oz {i:Nat} {mp:MPt} (cl:Cls X.K Cc) (na:bD X.K Cc f) (ha:QPt X ow i a mp) (hb:attributeBase a f X.env (eval a X.env)=eval a X.env:=by rfl):QPt X ow i (.Attribute a f pos) (mPFld Cc f mp):=by
 obtain ⟨ta,pa,sa⟩:=ha
 refine ⟨_,o8 pa hb,fun C G ρ σ H pd O q Q r h k=>?_⟩
 refine sa C G ρ σ H pd O _ _ r h fun p d0 d v0 v hq e1 e2 e3 wk=>?_
 cases d with
 | obj C1 ks ds =>
  obtain ⟨rfl,c,e,hf,hc,hq⟩:=hq
  obtain ⟨v',u,g1,g2,G',sG,g3,g4⟩:=r.walk e1 e2
  rw [e3] at g1; cases g1
  obtain rfl:=wk.one g2
  rw [Rep] at g4
  obtain ⟨bb,dx,xs,rfl,f1,fl,f2⟩:=g4
  obtain ⟨w,d',w1,w2,w3⟩:=dC (r:=c) f2 (List.getElem?_eq_some_iff.mp hc).1
  exact ⟨bb,_,dx,_,w,rfl,sG _ _ f1,cl,na,gI hf w1,k (p++[c]) d0 e v0 w hq e1 (by rw [f_ e2]; exact hc) e3 (wk.snoc ⟨bb,rfl,.inr (.inr ⟨_,dx,ks,sG _ _ f1,fl.trans f2.length.symm⟩)⟩ w1)⟩
 | _=>exact hq.elim
def SMk (ow:List Bool) (Cc:Addr) (mn:Str) (ks:List AK) (ta:TE) (tr:TA) (m:MA):Prop:=∀ (C:Ctx) (G:Hp) (ρ:DSt) (σ:St) (H:Hp) (pd:List (D×V)) (q:List D→DSt→Prop) (Q:List V→Hp→Prop),R C ow G ρ σ H pd→m ρ q →
 (∀ ds ρ' vs T G' H',q ds ρ'→az G G'→Kp ow ρ ρ'→R C ow G' ρ' σ H' (T.reverse++pd)→eT G' σ ks ds vs T→Q vs H') →
 ta σ H fun x H1=>∃ a dx fs,x = .ref a∧H1 a=some (.ins Cc dx fs)∧fs.lookup mn=none∧tr σ H1 fun vs H2=>Q (x :: vs) H2
structure QMk (X:Cx) (ow:List Bool) (Cc:Addr) (mn:Str) (ks:List AK) (o:Expr) (es:List Expr) (m:MA):Prop where
 ex:∃ ta tr,PE X o ta∧PA X es tr∧SMk ow Cc mn ks ta tr m
structure QM0 (X:Cx) (ow:List Bool) (Cc:Addr) (mn:Str) (k:AK) (o:Expr) (m:MA):Prop where
 ex:∃ ta,PE X o ta∧SMk ow Cc mn [k] ta tNil m
def rJ (Cc:Addr) (mn:Str) (ma:ME) (mr:MA):MA:=fun ρ q=>ma ρ fun d ρ1=>match d with
 | .obj C ks ds=>(C=Cc∧ks.contains mn=false)∧mr ρ1 fun es ρ2=>q (.obj C ks ds :: es) ρ2
 | _=>False
def nK (Cc:Addr) (mn:Str) (i:Nat) (mr:MA):MA:=fun ρ q=>match ρ[i]? with
 | some (some (.obj C ks _))=>(C=Cc∧ks.contains mn=false)∧mr ρ fun es ρ2=>q (.non :: es) ρ2
 | _=>False
theorem qm_s {ks:List AK} {es:List Expr} {mr:MA} (ha:QE X ow o ma) (hr:QAk X ow ks es mr):QMk X ow Cc m (.s :: ks) o es (rJ Cc m ma mr):=by
 obtain ⟨t,p,s⟩:=ha; obtain ⟨t2,p2,s2⟩:=hr
 refine ⟨t,t2,p,p2,fun C G ρ σ H pd q Q r hm k=>s C G ρ σ H pd _ _ r hm fun d ρ' v G' H' hq z kp r' pp=>?_⟩
 cases d with
 | obj C1 fk ds =>
  obtain ⟨⟨rfl,hc⟩,hq⟩:=hq
  have pp':=pp
  rw [Rep] at pp
  obtain ⟨a,dx,xs,rfl,h1,hl,h2⟩:=pp
  exact ⟨a,dx,_,rfl,r'.gh _ _ h1,eF hc,s2 C G' ρ' σ H' pd _ _ r' hq fun ds' ρ2 vs T G2 H2 hq2 z2 kp2 r2 p2=>k _ ρ2 _ T G2 H2 hq2 (z.trans z2) (kp.trans kp2) r2 ⟨Rep.mono z2 _ _ pp',p2⟩⟩
 | _=>exact hq.elim
theorem dU (ha:QE X ow o ma):QM0 X ow Cc m .s o (rJ Cc m ma lv):=by
 obtain ⟨t,p,s⟩:=ha
 refine ⟨t,p,fun C G ρ σ H pd q Q r hm k=>s C G ρ σ H pd _ _ r hm fun d ρ' v G' H' hq z kp r' pp=>?_⟩
 cases d with
 | obj C1 fk ds =>
  obtain ⟨⟨rfl,hc⟩,hq⟩:=hq
  have pp':=pp
  rw [Rep] at pp
  obtain ⟨a,dx,xs,rfl,h1,hl,h2⟩:=pp
  exact ⟨a,dx,_,rfl,r'.gh _ _ h1,eF hc,k _ ρ' _ [] G' H' hq z kp r' ⟨pp',trivial⟩⟩
 | _=>exact hq.elim
theorem qm_m (i:Nat) {x:Str} {ks:List AK} {es:List Expr} {mr:MA} (hr:QAk X ow ks es mr) (ho:ow[i]? = some true:=by decide) (hN:X.N[i]? = some x:=by rfl) (hv:Vis X.env.scope x:=by first | exact Or.inl rfl | exact Or.inr (Or.inl rfl) | exact Or.inr (Or.inr rfl)) (hd:(x == ("__debug__":Str))=false:=by decide)
 (hcd:(x == ("__classdict__":Str))=false:=by decide):QMk X ow Cc m (.m i :: ks) (.Name x pos) es (nK Cc m i mr):=by
 obtain ⟨t2,p2,s2⟩:=hr
 refine ⟨_,t2,bB hN hv hd hcd,p2,fun C G ρ σ H pd q Q r hm k=>?_⟩
 unfold nK at hm
 split at hm
 ·rename_i C1 fk ds e
  obtain ⟨⟨rfl,hc⟩,hq⟩:=hm
  obtain ⟨O,ro⟩:=r
  obtain ⟨v,h1,h2⟩:=ro.sl i _ e
  rw [if_pos ho,Sep] at h2
  obtain ⟨a,dx,xs,rfl,g1,g2,gl,g3⟩:=h2
  exact ⟨_,h1,a,dx,_,rfl,g2,eF hc,s2 C G ρ σ H pd _ _ ⟨O,ro⟩ hq fun ds ρ2 vs T G2 H2 hq2 z2 kp2 r2 p2=>k (.non :: ds) ρ2 (_ :: vs) T G2 H2 hq2 z2 kp2 r2 ⟨h1,p2⟩⟩
 ·exact hm.elim
section
variable {k j:Nat} {fa:Addr} {fd:FuncData} {ps:List Str} {mu:List Bool} {sd:SpD} {sx:SpX} {ks:List AK} {es:List Expr} {mr:MA} {ak:AK}
structure FM (K:PySem.W.Frag) (Cc:Addr) (n q:Str) (st:Stmt) (ps:List Str) (f:Addr) (d:FuncData):Prop where
 F:Fun K n q st f d
 b:cU K d ps []
 m:Meth K Cc n f
theorem gW {q:Str} {st:Stmt} (F:FnOk X.prog X.w X.K X.mg X.base CX0 k fa fd ps (aQ mu false sd)) (hr:Room j X.A) (cl:Cls X.K Cc) (t:FM X.K Cc m q st ps fa fd) (ha:QMk X ow Cc m ks o (e :: es) mr) (hj:k≤j:=by decide) (hmu:mu=ks.map AK.isM:=by rfl) (nd:(au ks).Nodup:=by decide) (hw:∀ i∈au ks,ow[i]? = some true:=by decide)
 {pl:Sem Bool} (hst:starEach (e :: es) X.env=(false,eval e X.env) :: starEach es X.env:=by rfl) (hpl:(backTo pos (starEach es X.env)).any (·.1)=false:=by rfl)
 (ht:eval (.Call (.Attribute o m apos) (e :: es) [] pos) X.env=(do
  let ov ← eval o X.env
  standAt apos.atName
  let (f,first) ← holding [ov] (getMethod ov m pl)
  callWith pos f first (backTo pos (starEach (e :: es) X.env)) (backToKw pos (keywordEach [] X.env))):=by rfl):QE X ow (.Call (.Attribute o m apos) (e :: es) [] pos) (iV ks sd mr):=by
 obtain ⟨ta,tr,p,p2,s⟩:=ha
 subst hmu
 refine ⟨_,qI p cl t.m F (hr.mono hj) t.b .nil ic p2 hst hpl ht,fun C G ρ σ H pd q Q r hm k=>?_⟩
 unfold lU
 simp only [List.append_nil]
 refine s C G ρ σ H pd _ (fun vs H2=>aQ (ks.map AK.isM) false sd vs H2 Q _) r hm fun ds ρ' vs T G' H' hq z kp r' p=>?_
 split at hq
 ·rename_i ds' ef
  exact fE (fr:=false) r.np r' p ef nd hw hq fun d ρ2 v G2 H2 hq2 z2 kp2 h2=>by
   rw [if_neg (by decide)] at h2
   exact k d ρ2 v G2 H2 hq2 (z.trans z2) (kp.trans kp2) h2.1 h2.2
 ·exact hq.elim
theorem bt {q:Str} {st:Stmt} (F:FnOk X.prog X.w X.K X.mg X.base CX0 k fa fd ps (aQ mu true sd)) (hr:Room j X.A) (cl:Cls X.K Cc) (t:FM X.K Cc m q st ps fa fd) (ha:QM0 X ow Cc m ak o mr) (hj:k≤j:=by decide) (hmu:mu=[ak].map AK.isM:=by rfl) (nd:(au [ak]).Nodup:=by decide) (hw:∀ i∈au [ak],ow[i]? = some true:=by decide)
 {pl:Sem Bool} 
 (ht:eval (.Call (.Attribute o m apos) [] [] pos) X.env=(do
  let ov ← eval o X.env
  standAt apos.atName
  let (f,first) ← holding [ov] (getMethod ov m pl)
  callWith pos f first (backTo pos (starEach [] X.env)) (backToKw pos (keywordEach [] X.env))):=by rfl):QF X ow (.Call (.Attribute o m apos) [] [] pos) (iV [ak] sd mr):=by
 obtain ⟨ta,p,s⟩:=ha
 subst hmu
 refine ⟨_,nv p cl t.m F (hr.mono hj) t.b .nil ic ht,fun C G ρ σ H pd q Q r hm k=>?_⟩
 unfold lU
 simp only [List.append_nil]
 refine s C G ρ σ H pd _ (fun vs H2=>aQ ([ak].map AK.isM) true sd vs H2 Q _) r hm fun ds ρ' vs T G' H' hq z kp r' p=>?_
 split at hq
 ·rename_i ds' ef
  exact fE (fr:=true) r.np r' p ef nd hw hq fun d ρ2 v G2 H2 hq2 z2 kp2 h2=>by
   rw [if_pos rfl] at h2
   exact k d ρ2 v G2 H2 hq2 (z.trans z2) (kp.trans kp2) h2
 ·exact hq.elim
end
def mSetF (Cc:Addr) (i:Nat) (f:Str) (ma:ME):MS:=fun n ρ=>ma ρ fun d ρ1=>match ρ1[i]? with
 | some (some (.obj C ks ds))=>(C=Cc∧ks.contains f=false∧ks.length<900)∧n.nx (ρ1.set i (some (.obj C (ks++[f]) (ds++[d]))))
 | _=>False
theorem jP {f:Str} {y:V}:∀ {ks:List Str} {xs:List V},ks.contains f=false→ks.length=xs.length→dX f y (ks.zip xs)=(ks++[f]).zip (xs++[y])
 | [],[],_,_=>rfl
 | [],_ :: _,_,h=>by cases h
 | _ :: _,[],_,h=>by cases h
 | k :: ks,x :: xs,h,hl=>by
  rw [List.contains_cons,Bool.or_eq_false_iff] at h
  have hn : ¬ k=f:=fun z=>by rw [z] at h; simp at h
  rw [List.zip_cons_cons,dX,if_neg hn,jP h.2 (by simpa using hl)]; rfl
theorem gZ {M:Md} {i:Nat} {x:Str} {npos pos':Pos} (cl:Cls X.K Cc) (na:bD X.K Cc f) (hN:X.N[i]? = some x) (he:QM X M e ma) (ho:M.ow[i]? = some true:=by decide)
 (hv:Vis X.env.scope x:=by first | exact Or.inl rfl | exact Or.inr (Or.inl rfl) | exact Or.inr (Or.inr rfl)) (hd:(x == ("__debug__":Str))=false:=by decide) (hcd:(x == ("__classdict__":Str))=false:=by decide)
 (hs:swapsWith e (some (.Attribute (.Name x npos) f pos')) pos.line X.env=pure false:=by rfl):QS X M (.Assign [.Attribute (.Name x npos) f pos'] e pos) (mSetF Cc i f ma):=by
 obtain ⟨t,p,s⟩:=he
 refine ⟨_,sA (bB hN hv hd hcd) p hs,fun C G ρ σ H n D hm hn r h k=>?_⟩
 refine s C G ρ σ H [] _ _ hm r h fun d ρ' v G' H' hq z r'=>?_
 split at hq
 ·rename_i C1 ks ds e2
  obtain ⟨⟨rfl,hc,hl⟩,hq⟩:=hq
  obtain ⟨O',r'⟩:=r'
  obtain ⟨O2,r2,s2,s3⟩:=r'.join i ds.length (by rw [hn]; exact Nat.zero_le _)
  obtain ⟨a',dx,xs',g1,g2,gl,g3,g4⟩:=r2.writeI e2 ho
  have hx:ks.length=xs'.length:=gl.trans g3.length.symm
  refine ⟨_,g1,a',_,dx,_,rfl,g2,cl,na,?_,?_⟩
  ·rw [List.length_zip,← hx,Nat.min_self]; omega
  ·rw [jP hc hx]
   exact k.nx _ _ G' _ hq z ⟨O2,g4 _ _ _ (by rw [List.length_append,List.length_append,gl]; rfl) (g3.snoc (by simpa using s2))⟩
 ·exact hq.elim
section
variable {k j:Nat} {fa:Addr} {fd:FuncData} {ps:List Str} {mu:List Bool} {sd:SpD} {x:Str} {p':Pos} {es:List Expr} {mr:MA}
def mMake (Cc:Addr) (n:Nat) (sd:SpD) (m:MA):ME:=fun ρ q=>m ρ fun ds ρ1=>sd (.obj Cc [] [] :: ds) fun d os=>d = .non∧∃ d1,os.head? = some (some d1)∧q d1 ρ1
theorem i5 {G:Hp} {σ:St}:∀ {ds:List D} {vs:List V},Reps G ds vs→eT G σ (List.replicate vs.length .s) ds vs []
 | [],vs,h=>by rw [Reps] at h; subst h; exact trivial
 | d :: ds,vs,h=>by
  rw [Reps] at h
  obtain ⟨v,ws,rfl,h1,h2⟩:=h
  exact ⟨h1,i5 h2⟩
theorem pT {ρ:DSt}:∀ {n:Nat} {ds:List D},ds.length=n→cj (List.replicate n .s) ds ρ=some ds
 | 0,[],_=>rfl
 | n + 1,d :: ds,h=>by
  rw [List.replicate_succ,cj,pT (by simpa using h)]; rfl
theorem jg:∀ n:Nat,au (List.replicate n AK.s)=[]
 | 0=>rfl
 | n + 1=>by rw [List.replicate_succ,au,jg n]; intro i z; cases z
theorem nG {ρ:DSt}:∀ (n:Nat) (os:DSt),ey (List.replicate n AK.s) os ρ=ρ
 | 0,os=>by simp [ey]
 | n + 1,os=>by rw [List.replicate_succ,ey,nG n]
theorem l4 (F:FnOk X.prog X.w X.K X.mg X.base CX0 k fa fd ps (aQ mu false sd)) (hr:Room j X.A) (Mc:Mk X.K Cc fa) (hb:cU X.K fd ps []) (hg:Gl X x) (hm:X.mg x=some (.ref Cc)) (ha:QA X ow (e :: es) mr) (hj:k + 1≤j:=by decide) (hmu:mu=true :: List.replicate (e :: es).length false:=by rfl)
 (hdb:(x == ("__debug__":Str))=false:=by decide) (he:starEach (e :: es) X.env=(false,eval e X.env) :: starEach es X.env:=by rfl) (hpl:(backTo pos (starEach es X.env)).any (·.1)=false:=by rfl) :
 QF X ow (.Call (.Name x p') (e :: es) [] pos) (mMake Cc (e :: es).length sd mr):=by
 obtain ⟨t,p,s⟩:=ha
 refine ⟨_,qV Mc F (hr.mono hj) hg hm hb .nil ic p hdb he hpl,fun C G ρ σ H pd q Q r hm kk=>s C G ρ σ H pd _ _ r hm fun ds ρ' vs G' H' hq z kp r' pp hl=>?_⟩
 intro x0 dx hx hdx hne
 rw [List.append_nil]
 obtain ⟨O,ro⟩:=r'
 obtain ⟨ro1,z1⟩:=ro.new hdx (.own x0)
 obtain ⟨O2,ro2⟩:=ro1.newI (Cc:=Cc) (dx:=dx) (p:=x0) (by rw [ag (Ne.symm hne)]; exact hx)
 have hmu':mu=(.t :: List.replicate vs.length AK.s).map AK.isM:=by
  rw [hmu,List.map_cons,List.map_replicate,hl]; rfl
 rw [hmu']
 have pp':=Reps.mono z1 _ _ pp
 refine qE (C:=C) (ow:=ow) (ρ:=ρ') (pd:=pd) (T:=[(.obj Cc [] [],.ref x0)]) (ds:=.obj Cc [] [] :: ds) (ds':=.obj Cc [] [] :: ds) (q:=q) (Nat.le_trans ro.np (Nat.le_refl _)) ⟨O2,ro2⟩ ⟨rfl,i5 pp'⟩ ?_ ?_ ?_ ?_ ?_
 ·rw [cj,pT (by rw [← pp.length])]; rfl
 ·rw [au,jg]; exact List.nodup_nil
  intro i z; cases z
 ·intro i hi; rw [au,jg] at hi; cases hi
  intro i z; cases z
 ·have e:(fun (d:D) (os:DSt)=>d = .non∧∃ d1,os.head? = some (some d1)∧q d1 (ey (.t :: List.replicate vs.length AK.s) os ρ'))=fun d os=>d = .non∧∃ d1,os.head? = some (some d1)∧q d1 ρ':=by
   funext d os
   cases os with
   | nil=>simp [ey]
   | cons o os=>rw [ey,nG]
  rw [e]; exact hq
 ·intro d1 ρ2 G2 H2 hq2 z2 kp2 r2
  exact kk d1 ρ2 _ G2 H2 hq2 (z.trans (z1.trans z2)) (kp.trans kp2) r2
end
structure FHm (K:PySem.W.Frag) (Cc:Addr) (n q:Str) (st:Stmt) (f:Addr) (d:FuncData):Prop where
 m:Meth K Cc n f
 F:Fun K n q st f d
theorem dv {K:PySem.W.Frag} {Cc:Addr} {n q:Str} {st:Stmt} {f:Addr} {oc:Value} {od an:Option Addr} {osl:Array (Option Value)} {kV doc pm cdv ct:Value} (a:PySem.W.findIn K (.ref Cc) n=some (some (.ref f))) (b:PySem.W.isFn K (.ref f)=true)
 (l:K.lookup f=some ⟨oc,od,.func (PySem.W.fnOf n q (b_ st) (bL st) (ah st) .none kV doc pm an cdv ct),osl⟩) (c:PySem.W.codeIn K cdv q=true) (k:PySem.W.keepIn K (.ref f)=true) :
 FHm K Cc n q st f (PySem.W.fnOf n q (b_ st) (bL st) (ah st) .none kV doc pm an cdv ct):=⟨⟨a,b,k⟩,pU l c k⟩
theorem FHm.fm {K:PySem.W.Frag} {Cc:Addr} {n q:Str} {st:Stmt} {f:Addr} {d:FuncData} {ps:List Str} (z:FHm K Cc n q st f d)
 (hb:∀ (kV doc pm:Value) (an:Option Addr) (cdv ct:Value) (us:List Value),us.length=ps.length→bindArgs (PySem.W.fnOf n q (b_ st) (bL st) (ah st) .none kV doc pm an cdv ct) ⟨us,[]⟩=pure (ps.zip us)):FM K Cc n q st ps f d:=⟨z.F,z.F.binds hb,z.m⟩
end
section
variable {X:Cx} {ow:List Bool} {a:Expr} {ma:ME} {ta:TE} {pos:Pos}
theorem qo (ha:PE X a ta):PE X (.UnaryOp .Not a pos) (fun σ H Q=>ta σ H fun x H'=>∃ k,TruV X.K x H' k∧Q (.bl (!k)) H'):=by
 refine ⟨fun pins s σ H Q I h=>?_⟩
 refine UnaryOp_ (thn (ha pins s σ H _ I h) fun v s1 ⟨x,H1,I1,r1,q1⟩=>?_)
 obtain ⟨k,tr,q1⟩:=q1
 refine not_of (thn (tI pins s1 σ H1 x v (fun b H2=>Q (.bl (!b)) H2) I1 r1 ⟨k,tr,q1⟩) fun b s2 ⟨H2,I2,q2⟩=>⟨.bl (!b),H2,I2,rfl,q2⟩)
def mNotL (ma:ME):ME:=fun ρ q=>ma ρ fun d ρ'=>match d with
 | .lst ds=>q (.bl ds.isEmpty) ρ'
 | _=>False
theorem qS (h:QE X ow a ma):QE X ow (.UnaryOp .Not a pos) (mNotL ma):=by
 obtain ⟨t,p,s⟩:=h
 refine ⟨_,qo p,fun C G ρ σ H pd q Q r hm k=>s C G ρ σ H pd _ _ r hm fun d ρ' v G' H' hq z kp r' pp=>?_⟩
 cases d with
 | lst ds =>
  rw [Rep] at pp
  obtain ⟨b,xs,rfl,h1,h2⟩:=pp
  refine ⟨_,.inl ⟨xs,SqL.of (r'.gh _ _ h1),(t8 h2.length).symm⟩,?_⟩
  refine k _ ρ' _ G' H' hq z kp r' ?_
  rw [Bool.not_not]; exact b6 _
 | _=>exact hq.elim
end
def dW (b:Bool) (l r:Int):Bool:=if b=true then decide (r<2 * l) else decide (l=r)
def fD (ps rs:List Int) (b:Bool) (a:Ask):Bool:=if b=true then iO ps rs a else !decide (a.size=1)
def bX (b:Bool) (a:Ask):Ask:=⟨a.one,a.other,a.size,if b=true then a.size else 1⟩
def bR (ps rs:List Int) (cs:List Ask) (hs:List Int) (a:Ask):Bool:=(cm rs a.size (aM ps a) (ay ps cs hs)).isEmpty
def bH (ps rs:List Int) (cs:List Ask) (hs:List Int) (a:Ask):List Int:=if bR ps rs cs hs a=true then hs++[(cs.length:Int)] else hs
def gPr (b:Bool) (l r:Int):Rat:=if dW b l r=true then 1 else 0
def gPrs (ps rs:List Int) (b:Bool) (cs:List Ask) (hs:List Int):List Rat:=List.zipWith (gPr b) (ay ps cs hs) rs
structure GateI (ps rs:List Int) (b:Bool) (cs:List Ask) (hs:List Int):Prop where
 asks:AsksOk ps cs
 keep:KeepOk cs.length hs
 wor:∀ a∈cs,a.worth=a.size
 fit:∀ j:Nat,j<ps.length→(ay ps cs hs).getD j 0≤rs.getD j 0
 dear:∀ i:Int,0≤i→i<(cs.length:Int)→i ∉ hs→∃ t∈aM ps (gM cs i),dW b ((ay ps cs hs).getD (t - 1).toNat 0) (rs.getD (t - 1).toNat 0)=true
theorem kq {cs:List Ask} {x:Ask} {k:Int} (h0 : 0≤k) (h1:k<(cs.length:Int)):gM (cs++[x]) k=gM cs k:=by
 unfold gM
 rw [List.getD_eq_getElem?_getD,List.getD_eq_getElem?_getD,List.getElem?_append_left (by omega)]
theorem ig {cs:List Ask} {x:Ask}:gM (cs++[x]) (cs.length:Int)=x:=by
 unfold gM
 rw [List.getD_eq_getElem?_getD,List.getElem?_append_right (by omega)]
 simp
theorem iY {ps:List Int} {cs:List Ask} {x:Ask}:∀ (ks l:List Int),(∀ k∈ks,0≤k∧k<(cs.length:Int))→ks.foldl (dn ps (cs++[x])) l=ks.foldl (dn ps cs) l
 | [],_,_=>rfl
 | k :: ks,l,h=>by
  have hk:=h k (.head _)
  rw [List.foldl_cons,List.foldl_cons]
  have e:dn ps (cs++[x]) l k=dn ps cs l k:=by
   have:=kq (x:=x) hk.1 hk.2
   unfold gM at this
   unfold dn
   rw [this]
  rw [e]
  exact iY ks _ fun z hz=>h z (.tail _ hz)
theorem iz {ps:List Int} {cs:List Ask} {x:Ask} {ks:List Int} (h:∀ k∈ks,0≤k∧k<(cs.length:Int)):ay ps (cs++[x]) ks=ay ps cs ks:=iY ks _ h
theorem rT {ps rs:List Int} {b:Bool} (hT:Tree ps rs):GateI ps rs b [] []:=by
 refine ⟨⟨by decide,fun a h=>(by cases h)⟩,⟨List.Pairwise.nil,fun k h=>(by cases h)⟩,fun a h=>(by cases h),fun j hj=>?_,fun i h0 h1=>?_⟩
 ·have:=hT.room j (rs.getD j 0) (by rw [List.getD_eq_getElem?_getD,List.getElem?_eq_getElem (by rw [← hT.len]; exact hj)]; rfl)
  show (List.replicate ps.length (0:Int)).getD j 0≤_
  rw [mR]; omega
 ·have:((([]:List Ask).length:Nat):Int)=0:=rfl
  omega
theorem mM {ps rs:List Int} {b:Bool} {cs:List Ask} {hs:List Int} {a:Ask} (hT:Tree ps rs) (h:GateI ps rs b cs hs) (hl:cs.length<30) (ha:AskOk ps a) (hw:fD ps rs b a=false):GateI ps rs b (cs++[bX b a]) (bH ps rs cs hs a):=by
 have hlr:=hT.len
 have hga:AskOk ps (bX b a):=by
  refine ⟨ha.ends,ha.s0,ha.s1,?_,?_⟩
  ·show 1≤(if b=true then a.size else 1)
   have:=ha.s0
   split <;> omega
  ·show (if b=true then a.size else 1)≤1000000000000
   have:=ha.s1
   split <;> omega
 have hsz:b=false→a.size=1:=fun hb=>by
  unfold fD at hw; rw [hb,if_neg (by decide)] at hw; simpa using hw
 have hA:AsksOk ps (cs++[bX b a]):=⟨by rw [List.length_append]; show cs.length + 1≤30; omega,fun x hx=>by
  rcases List.mem_append.mp hx with hx | hx
  ·exact h.asks.ok x hx
  ·rw [List.mem_singleton.mp hx]; exact hga⟩
 have hwor:∀ x∈cs++[bX b a],x.worth=x.size:=fun x hx=>by
  rcases List.mem_append.mp hx with hx | hx
  ·exact h.wor x hx
  ·rw [List.mem_singleton.mp hx]
   show (if b=true then a.size else 1)=a.size
   cases b with
   | true=>rfl
   | false=>rw [hsz rfl]; rfl
 have hway:aM ps (bX b a)=aM ps a:=rfl
 have lapp:=iz (ps:=ps) (x:=bX b a) h.keep.lo
 have old:∀ i:Int,0≤i→i<(cs.length:Int)→gM (cs++[bX b a]) i=gM cs i:=fun i h0 h1=>kq h0 h1
 have hlen:((cs++[bX b a]).length:Int)=(cs.length:Int) + 1:=by rw [List.length_append]; rfl
 have hwm:=fun t ht=>cA hT ha.ends (x:=t) ht
 cases hf:bR ps rs cs hs a with
 | false =>
  have e:bH ps rs cs hs a=hs:=by unfold bH; rw [hf]; rfl
  rw [e]
  refine ⟨hA,⟨h.keep.up,fun k hk=>by have:=h.keep.lo k hk; omega⟩,hwor,fun j hj=>by rw [lapp]; exact h.fit j hj,fun i h0 h1 hn=>?_⟩
  rw [lapp]
  by_cases hi:i<(cs.length:Int)
  ·rw [old i h0 hi]; exact h.dear i h0 hi hn
  ·have hi':i=(cs.length:Int):=by omega
   rw [hi',ig,hway]
   obtain ⟨t,ht⟩:∃ t,t∈cm rs a.size (aM ps a) (ay ps cs hs):=by
    unfold bR at hf
    cases hz:cm rs a.size (aM ps a) (ay ps cs hs) with
    | nil=>rw [hz] at hf; cases hf
    | cons t r=>exact ⟨t,.head _⟩
   unfold cm at ht
   obtain ⟨ht1,ht2⟩:=List.mem_filter.mp ht
   have ht2:=of_decide_eq_true ht2
   have hm:=hwm t ht1
   have hfit:=h.fit (t - 1).toNat (by omega)
   refine ⟨t,ht1,?_⟩
   unfold dW
   cases b with
   | false =>
    have:=hsz rfl
    rw [if_neg (by decide)]
    exact decide_eq_true (by omega)
   | true =>
    rw [if_pos rfl]
    have hh:iO ps rs a=false:=by unfold fD at hw; rw [if_pos rfl] at hw; exact hw
    unfold iO at hh
    rw [List.any_eq_false] at hh
    have:=hh t ht1
    have h2 : ¬ rs.getD (t - 1).toNat 0<2 * a.size:=fun z=>this (decide_eq_true z)
    exact decide_eq_true (by omega)
 | true =>
  have e:bH ps rs cs hs a=hs++[(cs.length:Int)]:=by unfold bH; rw [hf]; rfl
  rw [e]
  have hov:∀ t∈aM ps a,(ay ps cs hs).getD (t - 1).toNat 0 + a.size≤rs.getD (t - 1).toNat 0:=fun t ht=>by
   have hz:cm rs a.size (aM ps a) (ay ps cs hs)=[]:=List.isEmpty_iff.mp hf
   by_cases c:rs.getD (t - 1).toNat 0<(ay ps cs hs).getD (t - 1).toNat 0 + a.size
   ·have:t∈cm rs a.size (aM ps a) (ay ps cs hs):=List.mem_filter.mpr ⟨ht,decide_eq_true c⟩
    rw [hz] at this; cases this
   ·omega
  have el:ay ps (cs++[bX b a]) (hs++[(cs.length:Int)])=cY (ay ps cs hs) (aM ps a) a.size:=by
   rw [dZ,lapp]
   have:=ig (cs:=cs) (x:=bX b a)
   unfold gM at this
   show dn ps (cs++[bX b a]) (ay ps cs hs) (cs.length:Int)=_
   unfold dn
   rw [this]; rfl
  have eat:∀ j:Nat,(ay ps (cs++[bX b a]) (hs++[(cs.length:Int)])).getD j 0=(ay ps cs hs).getD j 0 + cnt ((j:Int) + 1) (aM ps a) a.size:=fun j=>by
   rw [el]; exact lV (mq hT ha.ends) (by rw [bO]; exact hwm)
  have s0:=ha.s0
  have grow:∀ j:Nat,j<ps.length→(ay ps cs hs).getD j 0≤(ay ps (cs++[bX b a]) (hs++[(cs.length:Int)])).getD j 0∧(ay ps (cs++[bX b a]) (hs++[(cs.length:Int)])).getD j 0≤rs.getD j 0:=fun j hj=>by
   rw [eat j]
   unfold cnt
   have hfit:=h.fit j hj
   by_cases c:(aM ps a).contains ((j:Int) + 1)=true
   ·rw [if_pos c]
    have:=hov ((j:Int) + 1) (List.contains_iff_mem.mp c)
    rw [show ((j:Int) + 1 - 1).toNat=j by omega] at this
    omega
   ·rw [if_neg c]; omega
  refine ⟨hA,⟨?_,fun k hk=>?_⟩,hwor,fun j hj=>(grow j hj).2,fun i h0 h1 hn=>?_⟩
  ·rw [List.pairwise_append]
   exact ⟨h.keep.up,List.pairwise_singleton _ _,fun x hx y hy=>by rw [List.mem_singleton.mp hy]; exact (h.keep.lo x hx).2⟩
  ·rcases List.mem_append.mp hk with hk | hk
   ·have:=h.keep.lo k hk; omega
   ·rw [List.mem_singleton.mp hk]; omega
  ·have hi:i<(cs.length:Int):=by
    have:i≠(cs.length:Int):=fun z=>hn (by rw [z]; simp)
    omega
   rw [old i h0 hi]
   obtain ⟨t,ht,hd⟩:=h.dear i h0 hi fun z=>hn (List.mem_append_left _ z)
   have hm:=cA hT (re h.asks h0 hi).ends ht
   have g:=grow (t - 1).toNat (by omega)
   refine ⟨t,ht,?_⟩
   unfold dW at hd ⊢
   cases b with
   | false=>rw [if_neg (by decide)] at hd ⊢; have:=of_decide_eq_true hd; exact decide_eq_true (by omega)
   | true=>rw [if_pos rfl] at hd ⊢; have:=of_decide_eq_true hd; exact decide_eq_true (by omega)
end L2
namespace L2
open PySem PySem.Spec PyProof.Rows PySem.NumText
section
variable {X:Cx} {ow:List Bool} {e a b:Expr} {ma mb:ME}
open PySem.Builtin.Str (occurrences strSub)
end
theorem pw {α:Type} {g:MG} {me:ME} {ρ0:DSt} {l:List α} {K:List D→Prop} (f h : α→D)
 (step:∀ a,a∈l→∀ k:D→Prop,k (h a)→g (f a) ρ0 fun ρ2=>me ρ2 fun x _=>k x) (hK:K (l.map h)):iM g (mo true) me ρ0 (l.map f) K:=by
 refine ⟨fun i es=>es=(l.take i).map h,rfl,?_,fun es e=>by rw [e,List.length_map,List.take_length]; exact hK⟩
 rintro i d es hd rfl
 rw [List.getElem?_map,Option.map_eq_some_iff] at hd
 obtain ⟨a,ha,rfl⟩:=hd
 have:=step a (List.mem_of_getElem? ha) (fun x=>(l.take i).map h++[x]=(l.take (i + 1)).map h) (by
  rw [List.take_add_one,ha]; simp)
 exact this
end L2
namespace L2
open PySem PySem.Spec PyProof.Rows
def dr:List Bool→St→List (Option V)
 | b :: bs,v :: vs=>(if b=true then v else none) :: dr bs vs
 | _,_=>[]
theorem jb:∀ {mu:List Bool} {σ:St} {k:Nat} {v:V},(dr mu σ)[k]? = some (some v)→mu[k]? = some true∧σ[k]? = some (some v)
 | [],σ,k,v,h=>by simp [dr] at h
 | b :: bs,[],k,v,h=>by simp [dr] at h
 | b :: bs,x :: xs,0,v,h=>by
  cases b with
  | true=>simpa [dr] using h
  | false=>simp [dr] at h
 | b :: bs,x :: xs,k + 1,v,h=>by
  have:=jb (mu:=bs) (σ:=xs) (k:=k) (v:=v) (by simpa [dr] using h)
  simpa using this
theorem ca:∀ {mu:List Bool} {σ:St} {k:Nat} {v:V},mu[k]? = some true→σ[k]? = some (some v)→(dr mu σ)[k]? = some (some v)
 | [],σ,k,v,h,_=>by simp at h
 | b :: bs,[],k,v,_,h=>by simp at h
 | b :: bs,x :: xs,0,v,h1,h2=>by
  simp at h1 h2; subst h1; subst h2; simp [dr]
 | b :: bs,x :: xs,k + 1,v,h1,h2=>by
  have:=ca (mu:=bs) (σ:=xs) (k:=k) (v:=v) (by simpa using h1) (by simpa using h2)
  simpa [dr] using this
section
variable {C:Ctx} {ow:List Bool} {G:Hp} {ρ:DSt} {σ:St} {H:Hp} {O:Own}
end
section
variable {X:Cx} {M:Md} {st:Stmt} {m:MS}
def nI:List Bool→List Bool→Bool
 | a :: as,b :: bs=>(!a||b)&&nI as bs
 | [],_=>true
 | _ :: _,[]=>false
theorem lX:∀ {a b:List Bool},nI a b=true→∀ j:Nat,a[j]? = some true→b[j]? = some true
 | [],_,_,j,h=>by simp at h
 | _ :: _,[],h,_,_=>by cases h
 | x :: as,y :: bs,h,0,e=>by
  rw [nI,Bool.and_eq_true] at h
  simp at e; subst e
  simpa using h.1
 | x :: as,y :: bs,h,j + 1,e=>by
  rw [nI,Bool.and_eq_true] at h
  simpa using lX h.2 j (by simpa using e)
end
section
variable {X:Cx} {ow:List Bool} {a b:Expr} {ma mb:ME} {pos:Pos}
end
abbrev Lb:=Nat×List Nat
def cy (f:Lb→Option Lb) (O:Own):Own:=fun a=>match O a with
 | some m=>f m
 | none=>none
theorem fo {f:Lb→Option Lb} {O:Own} {a:Addr} {m m':Lb} (h:O a=some m) (hf:f m=some m'):cy f O a=some m':=by unfold cy; rw [h]; exact hf
theorem cT {f:Lb→Option Lb} {O:Own} {a:Addr} {m':Lb} (h:cy f O a=some m'):∃ m,O a=some m∧f m=some m':=by
 unfold cy at h
 cases e:O a with
 | none=>rw [e] at h; cases h
 | some m=>rw [e] at h; exact ⟨m,rfl,h⟩
theorem nk {f:Lb→Option Lb} {O:Own} {a:Addr} {m:Lb} (h:O a=some m) (hf:f m=none):cy f O a=none:=by unfold cy; rw [h]; exact hf
section
variable {C:Ctx} {ow mu:List Bool} {G:Hp} {ρ:DSt} {σ:St} {H:Hp} {pd:List (D×V)} {O:Own} {f b:Lb→Option Lb}
theorem RO.intoP (ro:RO C ow G ρ σ H pd O) {ds:List D} {vs:List V} (hl:ds.length=vs.length)
 (hs:∀ (k:Nat) d,ds[k]? = some d→∃ v,vs[k]? = some v∧if mu[k]? = some true then ∃ l π,Sep G H O l d π v∧∀ τ,f (l,τ++π)=some (2 * k,τ) else Rep G d v)
 (hc:∀ m m',f m=some m'→∃ k,m'.1=2 * k∧mu[k]? = some true∧k<vs.length) :
 RO ⟨G,H,cy f O,msV mu vs,0⟩ mu G (ds.map some) (vs.map some) H [] (cy f O):=by
 refine ⟨by simp [hl],ro.gh,fun _ _ e=>e,fun _ _ e=>.inl e,?_,?_,fun _ _ e _ _=>e,ro.ft,fun _ e=>e,?_,?_,trivial,Nat.le_refl _⟩
 ·intro a m e
  obtain ⟨l,e1,e2⟩:=cT e
  obtain ⟨q1,q2,_⟩:=ro.og a _ e1
  exact ⟨q1,q2,.inr ⟨m.2,e⟩⟩
 ·intro a l' π e
  obtain ⟨l,e1,e2⟩:=cT e
  obtain ⟨k,h1,h2,h3⟩:=hc _ _ e2
  exact .inl ⟨k,vs[k],h1,fe h2 (List.getElem?_eq_getElem h3)⟩
 ·intro k v e
  rw [List.getElem?_map,(jc e).2]; rfl
 ·intro k d e
  rw [List.getElem?_map] at e
  cases e1:ds[k]? with
  | none=>rw [e1] at e; cases e
  | some d' =>
   rw [e1] at e
   cases e
   obtain ⟨v,h1,h2⟩:=hs k d e1
   refine ⟨v,by rw [List.getElem?_map,h1]; rfl,?_⟩
   split at h2
   ·rename_i c
    rw [if_pos c]
    obtain ⟨l,π,h3,h4⟩:=h2
    exact Sep.move (fun _ _ z=>z) d π [] v (fun a τ q=>⟨by rw [List.append_nil]; exact fo q (h4 τ),rfl⟩) h3
   ·rename_i c; rw [if_neg c]; exact h2
def jN (f b:Lb→Option Lb) (O O2:Own):Own:=fun a=>match O2 a with
 | some m=>b m
 | none=>match cy f O a with
  | some _=>none
  | none=>O a
theorem RO.keepP (ro:RO C ow G ρ σ H pd O) {G2:Hp} {ρ2:DSt} {σ2:St} {H2:Hp} {pd2:List (D×V)} {O2:Own} {ow2:List Bool} {np:Nat} {mv:List (Option V)}
 (ri:RO ⟨G,H,cy f O,mv,np⟩ ow2 G2 ρ2 σ2 H2 pd2 O2) {a:Addr} {m:Lb} (e:O a=some m) (hn:f m=none):jN f b O O2 a=some m∧H2 a=H a:=by
 have e1:=nk (f:=f) e hn
 obtain ⟨g,⟨xs,hx⟩,_⟩:=ro.og a _ e
 have e2:O2 a=none:=by
  cases q:O2 a with
  | none=>rfl
  | some m =>
   obtain ⟨_,_,q3⟩:=ri.og a m q
   rcases q3 with q3 | ⟨π',q3⟩
   ·change H a=none at q3; rw [hx] at q3; cases q3
   ·change cy f O a=_ at q3; rw [e1] at q3; cases q3
 constructor
 ·show (match O2 a with | some m=>_ | none=>_)=_
  rw [e2]
  show (match cy f O a with | some _=>none | none=>O a)=_
  rw [e1]; exact e
 ·rw [ri.fr a _ hx e1 (WrO.nt xs),hx]
theorem eN {O O2:Own} {f b:Lb→Option Lb} {a:Addr} {m m':Lb} (e:O2 a=some m) (hb:b m=some m'):jN f b O O2 a=some m':=by
 show (match O2 a with | some m=>_ | none=>_)=_
 rw [e]; exact hb
theorem RO.outP (ro:RO C ow G ρ σ H pd O) {G2:Hp} {ρ2:DSt} {σ2:St} {H2:Hp} {pd2 pd3:List (D×V)} {O2:Own} {ρ3:DSt} {ow2:List Bool} {np:Nat} {mv:List (Option V)}
 (ri:RO ⟨G,H,cy f O,mv,np⟩ ow2 G2 ρ2 σ2 H2 pd2 O2) (hib:∀ m m1 m2 m3,f m=some m1→m1.1=m2.1→b m2=some m3→m3.1=m.1)
 (hlen : ρ3.length=σ.length) (hnp:C.np≤pd3.length)
 (hS:∀ (i:Nat) d,ow[i]?≠some true→ρ3[i]? = some (some d)→ρ[i]? = some (some d))
 (hsl:∀ (i:Nat) d,ow[i]? = some true→ρ3[i]? = some (some d)→∃ v,σ[i]? = some (some v)∧Sep G2 H2 (jN f b O O2) (2 * i) d [] v) (hP:bg G2 H2 (jN f b O O2) pd3) :
 RO C ow G2 ρ3 σ H2 pd3 (jN f b O O2):=by
 have ts:bF G G2:=(az.ts ri.g0)
 refine ⟨hlen,ri.gh,fun a o e=>ri.g0 a o (ro.g0 a o e),?_,?_,ro.cok,?_,ri.ft,fun a e=>ro.al a (ri.al a e),ro.mp,?_,hP,hnp⟩
 ·intro a o e
  rcases ri.gn a o e with q | q
  ·exact ro.gn a o q
  ·exact .inr (ro.al a q)
 ·intro a m e
  change (match O2 a with | some m=>_ | none=>_)=_ at e
  cases q:O2 a with
  | some m' =>
   rw [q] at e
   change b m'=some m at e
   obtain ⟨g1,g2,g3⟩:=ri.og a m' q
   refine ⟨g1,g2,?_⟩
   rcases g3 with g3 | ⟨π',g3⟩
   ·exact .inl (ro.al a g3)
   ·obtain ⟨m0,g4,g5⟩:=cT g3
    have:=hib m0 _ m' m g5 rfl e
    rw [this]
    exact (ro.og a _ g4).2.2
  | none =>
   rw [q] at e
   change (match cy f O a with | some _=>none | none=>O a)=_ at e
   cases q2:cy f O a with
   | some _=>rw [q2] at e; cases e
   | none =>
    rw [q2] at e
    change O a=some m at e
    obtain ⟨g1,⟨xs,g2⟩,g3⟩:=ro.og a m e
    refine ⟨?_,⟨xs,ri.fr a _ g2 q2 (WrO.nt xs)⟩,g3⟩
    cases z:G2 a with
    | none=>rfl
    | some o =>
     rcases ri.gn a o z with z | z
     ·change G a=_ at z; rw [g1] at z; cases z
     ·change H a=_ at z; rw [g2] at z; cases z
 ·intro a o e n t
  have q:=ro.fr a o e n t
  refine ri.fr a o q ?_ t
  show cy f O a=none
  cases z:cy f O a with
  | none=>rfl
  | some m =>
   obtain ⟨l,z1,_⟩:=cT z
   obtain ⟨_,_,z3⟩:=ro.og a _ z1
   rcases z3 with z3 | ⟨_,z3⟩
   ·rw [z3] at e; cases e
   ·rw [z3] at n; cases n
 ·intro i d e
  by_cases c:ow[i]? = some true
  ·obtain ⟨v,h1,h2⟩:=hsl i d c e
   exact ⟨v,h1,by rw [if_pos c]; exact h2⟩
  ·obtain ⟨v,q1,q2⟩:=ro.sl i d (hS i d c e)
   rw [if_neg c] at q2
   exact ⟨v,q1,by rw [if_neg c]; exact q2.mono ri.g0⟩
end
open Classical in
def lbF (L:List (Option Lb)):Lb→Option Lb:=fun m =>
 if h:∃ (p:Nat×List Nat),∃ l π,L[p.1]? = some (some (l,π))∧m=(l,p.2++π) then some (2 * h.choose.1,h.choose.2) else none
def lbB (L:List (Option Lb)):Lb→Option Lb:=fun m=>if m.1 % 2=0 then (match L[m.1 / 2]? with | some (some (l,π))=>some (l,m.2++π) | _=>none) else none
def LbU (L:List (Option Lb)):Prop:=∀ (k k':Nat) l π π' τ τ',L[k]? = some (some (l,π))→L[k']? = some (some (l,π'))→τ++π=τ'++π'→k=k'
theorem uc {L:List (Option Lb)} (u:LbU L) {k l:Nat} {π:List Nat} (h:L[k]? = some (some (l,π))) (τ:List Nat):lbF L (l,τ++π)=some (2 * k,τ):=by
 unfold lbF
 have hx:∃ (p:Nat×List Nat),∃ l' π',L[p.1]? = some (some (l',π'))∧((l,τ++π):Lb)=(l',p.2++π'):=⟨(k,τ),l,π,h,rfl⟩
 rw [dif_pos hx]
 obtain ⟨l',π',h1,h2⟩:=hx.choose_spec
 have hl:l=l':=congrArg Prod.fst h2
 have hp : τ++π=hx.choose.2++π':=congrArg Prod.snd h2
 subst hl
 have hk:=u _ _ _ _ _ _ _ h h1 hp
 rw [← hk] at h1 ⊢
 rw [h] at h1
 obtain rfl : π=π':=congrArg Prod.snd (Option.some.inj (Option.some.inj h1))
 rw [← List.append_cancel_right hp]
theorem pA {L:List (Option Lb)} {m m':Lb} (h:lbF L m=some m'):∃ k τ l π,L[k]? = some (some (l,π))∧m=(l,τ++π)∧m'=(2 * k,τ):=by
 unfold lbF at h
 split at h
 ·rename_i hx
  obtain ⟨l',π',h1,h2⟩:=hx.choose_spec
  exact ⟨_,_,l',π',h1,h2,(Option.some.inj h).symm⟩
 ·cases h
theorem o7 {L:List (Option Lb)} {m:Lb} (h:∀ (k:Nat) l π τ,L[k]? = some (some (l,π))→m≠(l,τ++π)):lbF L m=none:=by
 unfold lbF
 rw [dif_neg]
 rintro ⟨p,l,π,h1,h2⟩
 exact h p.1 l π p.2 h1 h2
theorem pk {L:List (Option Lb)} {k l:Nat} {π:List Nat} (h:L[k]? = some (some (l,π))) (τ:List Nat):lbB L (2 * k,τ)=some (l,τ++π):=by
 unfold lbB
 show (if 2 * k % 2=0 then _ else _)=_
 rw [if_pos (by omega)]
 show (match L[2 * k / 2]? with | some (some (l,π))=>some (l,τ++π) | _=>none)=_
 rw [show 2 * k / 2=k by omega,h]
theorem kr {C:Ctx} {ow mu:List Bool} {G:Hp} {ρ:DSt} {σ:St} {H:Hp} {pd:List (D×V)} {O:Own} {L:List (Option Lb)} {ds:List D} {vs:List V} {sd:SpD} {q:D→DSt→Prop} {Q:VK} {E:XK}
 (ro:RO C ow G ρ σ H pd O) (l1:ds.length=vs.length) (l2:mu.length=ds.length) (hmu:∀ k:Nat,mu[k]? = some true↔∃ m,L[k]? = some (some m))
 (hat:∀ (k:Nat) d,ds[k]? = some d→∃ v,vs[k]? = some v∧∀ m,L[k]? = some m→match m with | some m=>Sep G H O m.1 d m.2 v | none=>Rep G d v) (l3:L.length=ds.length) (u:LbU L) (h:sd ds q)
 (k:∀ d ρ2 v G2 H2 O3,q d (mus mu ρ2)→ρ2.length=mu.length→az G G2→Rep G2 d v→(∀ a m,O a=some m→(∀ (k:Nat) l π τ,L[k]? = some (some (l,π))→m≠(l,τ++π))→O3 a=some m∧H2 a=H a) →
  (∀ (k:Nat) l π e w,L[k]? = some (some (l,π))→ρ2[k]? = some (some e)→vs[k]? = some w→Sep G2 H2 O3 l e π w) →
  (∀ ρ3:DSt,ρ3.length=σ.length→(∀ (i:Nat) d,ow[i]?≠some true→ρ3[i]? = some (some d)→ρ[i]? = some (some d))→(∀ (i:Nat) d,ow[i]? = some true→ρ3[i]? = some (some d)→∃ v,σ[i]? = some (some v)∧Sep G2 H2 O3 (2 * i) d [] v)→bg G2 H2 O3 pd→RO C ow G2 ρ3 σ H2 pd O3)→Q v H2):aQ mu false sd vs H Q E:=by
 have ri:=ro.intoP (mu:=mu) (f:=lbF L) (ds:=ds) (vs:=vs) l1 (fun j d e=>by
  obtain ⟨v,h1,h2⟩:=hat j d e
  refine ⟨v,h1,?_⟩
  by_cases c:mu[j]? = some true
  ·rw [if_pos c]
   obtain ⟨m,hm⟩:=(hmu j).mp c
   exact ⟨m.1,m.2,h2 _ hm,fun τ=>uc u hm τ⟩
  ·rw [if_neg c]
   have hj:j<L.length:=by rw [l3]; exact (List.getElem?_eq_some_iff.mp e).1
   cases hm:L[j]? with
   | none=>rw [List.getElem?_eq_none_iff] at hm; omega
   | some m =>
    cases m with
    | some m=>exact absurd ((hmu j).mpr ⟨m,hm⟩) c
    | none=>exact h2 _ hm) (fun m m' e=>by
  obtain ⟨j,τ,l,π,h1,h2,rfl⟩:=pA e
  exact ⟨j,rfl,(hmu j).mpr ⟨_,h1⟩,by have:=(List.getElem?_eq_some_iff.mp h1).1; omega⟩)
 refine ⟨_,G,ds,_,rfl,rfl,⟨_,ri⟩,h,l2,?_⟩
 intro d ρ2 σ2 v G2 H2 hq z hl hr
 unfold Ret at hr
 rw [if_neg (by decide)] at hr
 obtain ⟨⟨O2,r2⟩,p⟩:=hr
 have hib:∀ m m1 m2 m3,lbF L m=some m1→m1.1=m2.1→lbB L m2=some m3→m3.1=m.1:=fun m m1 m2 m3 e1 e2 e3=>by
  obtain ⟨j,τ,l,π,h1,rfl,rfl⟩:=pA e1
  obtain ⟨n,τ'⟩:=m2
  change 2 * j=n at e2
  subst e2
  rw [pk h1] at e3
  cases e3; rfl
 refine k d ρ2 v G2 H2 (jN (lbF L) (lbB L) O O2) hq hl z p (fun a m e hn=>ro.keepP r2 e (o7 hn)) (fun j l π e w h1 h2 h3=>?_) (fun ρ3 hlen hS hO hP=>ro.outP r2 hib hlen ro.np hS hO hP)
 have im:mu[j]? = some true:=(hmu j).mpr ⟨_,h1⟩
 obtain ⟨v',w1,w2⟩:=r2.sl j e h2
 rw [if_pos im] at w2
 have w3 : σ2[j]? = some (some w):=r2.mp j w (fe im h3)
 rw [w1] at w3; cases w3
 exact Sep.move (fun _ _ z=>z) e [] π w (fun a τ q=>⟨eN q (by rw [List.append_nil]; exact pk h1 τ),rfl⟩) w2
section
variable {X:Cx} {ow:List Bool} {k j:Nat} {f:Addr} {fd:FuncData} {ps:List Str} {mu:List Bool} {sd:SpD} {x y:Str} {st:Stmt} {ks:List AK} {es:List Expr} {mr:MA} {pos p' p0 p1 n0 n1 c0 c1:Pos} {k0 k1:Nat}
end
end L2
namespace L2
open PySem PySem.Spec PyProof.Rows
def isL (O:Own) (l:Nat) (a:Addr):Bool:=match O a with
 | some m=>m.1 == l
 | none=>false
theorem li {O:Own} {l:Nat} {a:Addr} (h:isL O l a=true):∃ π,O a=some (l,π):=by
 unfold isL at h
 cases e:O a with
 | none=>rw [e] at h; cases h
 | some m =>
  rw [e] at h
  obtain ⟨l',π⟩:=m
  have:l'=l:=by simpa using h
  exact ⟨π,by rw [this]⟩
theorem ue {O:Own} {l:Nat} {a:Addr} {π:List Nat} (h:O a=some (l,π)):isL O l a=true:=by unfold isL; rw [h]; simp
def hdC (C:Ctx) (H:Hp) (O:Own) (l:Nat):Ctx:={ C with H:=fun a=>if isL O l a=true then H a else C.H a,O:=fun a=>if isL O l a=true then none else C.O a }
def hdO (O:Own) (l:Nat):Own:=fun a=>if isL O l a=true then none else O a
def lC (O O2:Own) (l:Nat):Own:=fun a=>if isL O l a=true then O a else if isL O2 l a=true then none else O2 a
section
variable {C:Ctx} {ow:List Bool} {G G2:Hp} {ρ ρ2:DSt} {σ σ2:St} {H H2:Hp} {pd pd2:List (D×V)} {O O2:Own} {l:Nat}
theorem uB {a:Addr} {m:Nat×List Nat} (h:hdO O l a=some m):isL O l a=false∧O a=some m:=by
 unfold hdO at h
 split at h
 ·cases h
 ·rename_i c; exact ⟨by simpa using c,h⟩
theorem ou {a:Addr} {m:Nat×List Nat} (h:O a=some m) (hm:m.1≠l):hdO O l a=some m:=by
 unfold hdO
 rw [if_neg]
 ·exact h
 ·unfold isL; rw [h]; simpa using hm
theorem RO.hide (h:RO C ow G ρ σ H pd O) (hl:∀ i,l≠2 * i) (hp:∀ j,j<pd.length→l≠2 * j + 1):RO (hdC C H O l) ow G ρ σ H pd (hdO O l):=by
 refine ⟨h.len,h.gh,h.g0,?_,?_,?_,?_,h.ft,?_,h.mp,?_,?_,h.np⟩
 ·intro a o e
  rcases h.gn a o e with q | q
  ·exact .inl q
  ·refine .inr ?_
   show (if isL O l a=true then H a else C.H a)=none
   split
   ·rename_i c
    obtain ⟨π,c⟩:=li c
    have:=(h.og a _ c).1
    rw [this] at e; cases e
   ·exact q
 ·intro a m e
  obtain ⟨c,e⟩:=uB e
  obtain ⟨q1,q2,q3⟩:=h.og a m e
  refine ⟨q1,q2,?_⟩
  rcases q3 with q3 | ⟨π,q3⟩
  ·left; show (if isL O l a=true then H a else C.H a)=none; rw [c]; exact q3
  ·right; refine ⟨π,?_⟩; show (if isL O l a=true then none else C.O a)=_; rw [c]; exact q3
 ·intro a l' π e
  change (if isL O l a=true then none else C.O a)=_ at e
  split at e
  ·cases e
  ·exact h.cok a l' π e
 ·intro a o e n t
  change (if isL O l a=true then H a else C.H a)=_ at e
  change (if isL O l a=true then none else C.O a)=_ at n
  split at e
  ·exact e
  ·rename_i c; rw [if_neg c] at n; exact h.fr a o e n t
 ·intro a e
  show (if isL O l a=true then H a else C.H a)=none
  split
  ·exact e
  ·exact h.al a e
 ·intro i d e
  obtain ⟨v,h1,h2⟩:=h.sl i d e
  refine ⟨v,h1,?_⟩
  split at h2
  ·rename_i c; rw [if_pos c]; exact h2.keep (fun _ _ z=>z) fun a τ q=>⟨ou q (Ne.symm (hl i)),rfl⟩
  ·rename_i c; rw [if_neg c]; exact h2
 ·exact bg.keep (fun _ _ z=>z) (fun a j π hj q=>⟨ou q (Ne.symm (hp j hj)),rfl⟩) h.pn
theorem g_ (h:RO C ow G ρ σ H pd O) {a:Addr} (e:(hdC C H O l).H a=none):C.H a=none:=by
 change (if isL O l a=true then H a else C.H a)=none at e
 split at e
 ·exact h.al a e
 ·exact e
theorem nY (h:RO C ow G ρ σ H pd O) {a:Addr} {m:Nat} (e:Nw (hdC C H O l) a m):Nw C a m:=by
 rcases e with e | ⟨π,e⟩
 ·exact .inl (g_ h e)
 ·change (if isL O l a=true then none else C.O a)=_ at e
  split at e
  ·cases e
  ·exact .inr ⟨π,e⟩
theorem pI (h:RO C ow G ρ σ H pd O) (r:RO (hdC C H O l) ow G2 ρ2 σ2 H2 pd2 O2) {a:Addr} {o:HO} (e:C.H a=some o) (n:C.O a=none) (t:NT o):H2 a=some o:=by
 refine r.fr a o ?_ ?_ t
 ·show (if isL O l a=true then H a else C.H a)=_
  split
  ·exact h.fr a o e n t
  ·exact e
 ·show (if isL O l a=true then none else C.O a)=_
  split
  ·rfl
  ·exact n
theorem RO.unhid (h:RO C ow G ρ σ H pd O) (r:RO (hdC C H O l) ow G2 ρ2 σ2 H2 pd2 O2):RO C ow G2 ρ2 σ2 H2 pd2 O2:=by
 refine ⟨r.len,r.gh,r.g0,?_,?_,h.cok,fun a o e n t=>pI h r e n t,r.ft,fun a e=>g_ h (r.al a e),r.mp,r.sl,r.pn,r.np⟩
 ·intro a o e
  rcases r.gn a o e with q | q
  ·exact .inl q
  ·exact .inr (g_ h q)
 ·intro a m e
  obtain ⟨q1,q2,q3⟩:=r.og a m e
  exact ⟨q1,q2,nY h q3⟩
theorem l_ (h:RO C ow G ρ σ H pd O) (r:RO (hdC C H O l) ow G2 ρ2 σ2 H2 pd2 O2) {a:Addr} {m:Nat×List Nat} (e:O2 a=some m) (hm:m.1≠l):lC O O2 l a=some m:=by
 have n1 : ¬ isL O l a=true:=fun c=>by
  rcases (r.og a m e).2.2 with q | ⟨π,q⟩
  ·change (if isL O l a=true then H a else C.H a)=none at q
   rw [if_pos c] at q
   obtain ⟨π,c⟩:=li c
   obtain ⟨xs,z⟩:=(h.og a _ c).2.1
   rw [z] at q; cases q
  ·change (if isL O l a=true then none else C.O a)=_ at q
   rw [if_pos c] at q; cases q
 unfold lC
 rw [if_neg n1,if_neg]
 ·exact e
 ·unfold isL; rw [e]; simpa using hm
theorem RO.shown (h:RO C ow G ρ σ H pd O) (r:RO (hdC C H O l) ow G2 ρ2 σ2 H2 pd2 O2) (hl:∀ i,l≠2 * i) (hp:∀ j,j<pd2.length→l≠2 * j + 1) :
 RO C ow G2 ρ2 σ2 H2 pd2 (lC O O2 l)∧∀ a π,O a=some (l,π)→lC O O2 l a=some (l,π)∧H2 a=H a:=by
 have hid:∀ a π,O a=some (l,π)→lC O O2 l a=some (l,π)∧H2 a=H a∧G2 a=none:=fun a π e=>by
  have c:=ue e
  obtain ⟨q1,⟨xs,q2⟩,q3⟩:=h.og a _ e
  refine ⟨by unfold lC; rw [if_pos c]; exact e,?_,?_⟩
  ·rw [q2]
   refine r.fr a _ ?_ ?_ (WrO.nt xs)
   ·show (if isL O l a=true then H a else C.H a)=_; rw [if_pos c]; exact q2
   ·show (if isL O l a=true then none else C.O a)=_; rw [if_pos c]
  ·cases z:G2 a with
   | none=>rfl
   | some o =>
    rcases r.gn a o z with q | q
    ·rw [h.g0 a o q] at q1; cases q1
    ·change (if isL O l a=true then H a else C.H a)=none at q
     rw [if_pos c,q2] at q; cases q
 refine ⟨⟨r.len,r.gh,r.g0,?_,?_,h.cok,fun a o e n t=>pI h r e n t,r.ft,fun a e=>g_ h (r.al a e),r.mp,?_,?_,r.np⟩,fun a π e=>⟨(hid a π e).1,(hid a π e).2.1⟩⟩
 ·intro a o e
  rcases r.gn a o e with q | q
  ·exact .inl q
  ·exact .inr (g_ h q)
 ·intro a m e
  by_cases c:isL O l a=true
  ·obtain ⟨π,c'⟩:=li c
   obtain ⟨g1,g2,g3⟩:=hid a π c'
   rw [g1] at e; cases e
   obtain ⟨q1,⟨xs,q2⟩,q3⟩:=h.og a _ c'
   exact ⟨g3,⟨xs,by rw [g2]; exact q2⟩,q3⟩
  ·unfold lC at e
   rw [if_neg c] at e
   split at e
   ·cases e
   ·obtain ⟨q1,q2,q3⟩:=r.og a m e
    exact ⟨q1,q2,nY h q3⟩
 ·intro i d e
  obtain ⟨v,h1,h2⟩:=r.sl i d e
  refine ⟨v,h1,?_⟩
  split at h2
  ·rename_i c; rw [if_pos c]; exact h2.keep (fun _ _ z=>z) fun a τ q=>⟨l_ h r q (Ne.symm (hl i)),rfl⟩
  ·rename_i c; rw [if_neg c]; exact h2
 ·exact bg.keep (fun _ _ z=>z) (fun a j π hj q=>⟨l_ h r q (Ne.symm (hp j hj)),rfl⟩) r.pn
def tkO (O:Own) (l k i:Nat):Own:=fun a=>match O a with
 | some m=>if m.1=l∧m.2.getLast? = some k then some (2 * i,m.2.dropLast) else some m
 | none=>none
theorem oP {a:Addr} {k i:Nat} {τ:List Nat} (h:O a=some (l,τ++[k])):tkO O l k i a=some (2 * i,τ):=by
 unfold tkO; rw [h]
 show (if l=l∧(τ++[k]).getLast? = some k then some (2 * i,(τ++[k]).dropLast) else _)=_
 rw [if_pos ⟨rfl,by simp⟩,List.dropLast_concat]
theorem iu {a:Addr} {k i:Nat} {m:Nat×List Nat} (h:O a=some m) (hm:m.1=l→m.2.getLast?≠some k):tkO O l k i a=some m:=by
 unfold tkO; rw [h]
 show (if _ then _ else _)=_
 rw [if_neg fun z=>hm z.1 z.2]
theorem sP {a:Addr} {k i:Nat} {m:Nat×List Nat} (h:tkO O l k i a=some m):∃ m',O a=some m'∧(m=m'∨(m'.1=l∧m.1=2 * i)):=by
 unfold tkO at h
 cases e:O a with
 | none=>rw [e] at h; cases h
 | some m' =>
  rw [e] at h
  change (if _ then _ else _)=_ at h
  split at h
  ·rename_i c; cases h; exact ⟨m',rfl,.inr ⟨c.1,rfl⟩⟩
  ·cases h; exact ⟨_,rfl,.inl rfl⟩
theorem RO.take (h:RO C ow G ρ σ H [] O) {i k:Nat} {d:D} {v:V} (s:Sep G H O l d [k] v) (hi:ow[i]? = some true) (hm:∀ v,C.mu[i]?≠some (some v)) (hn:C.np=0) (hl:∀ i,l≠2 * i) :
 RO C ow G (ρ.set i (some d)) (σ.set i (some v)) H [] (tkO O l k i):=by
 refine ⟨by simp [h.len],h.gh,h.g0,h.gn,?_,h.cok,h.fr,h.ft,h.al,?_,?_,trivial,h.np⟩
 ·intro a m e
  obtain ⟨m',e1,e2⟩:=sP e
  obtain ⟨q1,q2,q3⟩:=h.og a m' e1
  refine ⟨q1,q2,?_⟩
  rcases e2 with e2 | ⟨e2,e3⟩
  ·rw [e2]; exact q3
  ·rcases q3 with q3 | ⟨π,q3⟩
   ·exact .inl q3
   ·rw [e2] at q3
    rcases h.cok a l π q3 with ⟨j,_,z,_⟩ | ⟨j,z,z2⟩
    ·exact absurd z (hl j)
    ·rw [hn] at z2; cases z2
 ·intro j u e
  have:i≠j:=fun z=>hm u (z ▸ e)
  rw [List.getElem?_set_ne this]
  exact h.mp j u e
 ·intro j e q
  rcases a_ q with ⟨rfl,z⟩ | ⟨z,q'⟩
  ·cases z
   have hl:j<σ.length:=by have:=cD q; rw [List.length_set,h.len] at this; exact this
   refine ⟨v,by rw [List.getElem?_set_self hl],?_⟩
   rw [if_pos hi]
   exact Sep.move (fun _ _ z=>z) d [k] [] v (fun a τ q=>⟨by rw [List.append_nil]; exact oP q,rfl⟩) s
  ·obtain ⟨u,h1,h2⟩:=h.sl j e q'
   refine ⟨u,by rw [List.getElem?_set_ne (Ne.symm z)]; exact h1,?_⟩
   split at h2
   ·rename_i c; rw [if_pos c]; exact h2.keep (fun _ _ z=>z) fun a τ q=>⟨iu q fun z=>absurd z.symm (hl j),rfl⟩
   ·rename_i c; rw [if_neg c]; exact h2
end
def forF (i:Nat) (mb:MS) (n:EndsD) (ds:List D) (ρ:DSt):Prop:=∃ I:Nat→DSt→Prop,I 0 ρ∧(∀ k d ρ',ds[k]? = some d→I k ρ'→mb { nx:=I (k + 1),rt:=n.rt,bk:=n.nx,ct:=I (k + 1) } (ρ'.set i (some d)))∧∀ ρ',I ds.length ρ'→n.nx ρ'
def mForF (i:Nat) (me:ME) (mb:MS):MS:=fun n ρ=>me ρ fun d ρ1=>match d with
 | .lst ds=>forF i mb n ds ρ1
 | _=>False
section
variable {X:Cx} {M:Md} {i:Nat} {pos:Pos} {m:MS} {me:ME}
theorem qs {x:Str} {npos:Pos} {e:Expr} {body:List Stmt} (hp:PassesOwn (model X.prog X.w) X.A X.env X.xe) (hc:X.calm=true) (hN:X.N.Nodup) (hi:X.N[i]? = some x) (hx:Loc X.env.scope x) (he:QM X M e me) (hb:QSs X M body m)
 (ho:M.ow[i]? = some true:=by decide) (hu:M.mu[i]?≠some true:=by decide) (hf:X.fn x=true∨X.env.scope.names.lookup x=some .local:=by first | exact .inl rfl | exact .inr rfl | assumption)
 (hs:∀ z,foldedSetIterable e X.env z=pure z:=by intro _; rfl):QS X M (.For (.Name x npos) e body [] pos) (mForF i me m):=by
 obtain ⟨te,pe,se⟩:=he; obtain ⟨tb,pb,sb⟩:=hb
 refine ⟨_,oB hp hc (l5 pe) (a9 hN hi hx hf) pb hs,fun C G ρ σ H n D hm hn r h k=>?_⟩
 refine se C G ρ σ H [] _ _ hm r h fun d ρ1 v G1 H1 hq z1 r1=>?_
 split at hq
 ·rename_i ds
  obtain ⟨O1,ro1⟩:=r1
  have sp:=ro1.pn.1
  rw [Sep] at sp
  obtain ⟨a,xs,rfl,hOa,hHa,hss⟩:=sp
  have r0:RO C M.ow G1 ρ1 σ H1 [] O1:=ro1.drop (by rw [hn]; exact Nat.zero_le _)
  refine ⟨a,rfl,⟨xs,SqL.of hHa⟩,?_⟩
  have hxl:=hss.length
  obtain ⟨I,i0,turn,fin⟩:=hq
  have odd:∀ i,(1:Nat)≠2 * i:=fun i=>by omega
  refine ⟨fun i j σ' H'=>j=ds.length - i∧i≤ds.length∧∃ G' ρ' O',az G1 G'∧RO C M.ow G' ρ' σ' H' [] O'∧O' a=some (1,[])∧H' a=some (.lst xs)∧(∀ (k:Nat) d x,i≤k→ds[k]? = some d→xs[k]? = some x→Sep G' H' O' 1 d [k] x)∧I i ρ',
   ⟨_,rfl,Nat.zero_le _,G1,ρ1,O1,az.refl _,r0,hOa,hHa,fun k d x _ e1 e2=>?_,i0⟩,?_⟩
  ·obtain ⟨u,g1,g2⟩:=hss.at e1
   rw [e2] at g1; cases g1
   simpa using g2
  ·rintro t j σ' H' ⟨rfl,ht,G',ρ',O',z,ro,hO',hH',hel,w⟩
   by_cases hlt:t<ds.length
   ·have hxt:xs[t]? = some xs[t]:=List.getElem?_eq_getElem (by omega)
    refine .inr ⟨⟨xs,xs[t],SqL.of hH',hxt⟩,fun σ2 H2=>∃ G2 ρ2 O2,az G1 G2∧RO C M.ow G2 ρ2 σ2 H2 [] O2∧O2 a=some (1,[])∧H2 a=some (.lst xs)∧(∀ (k:Nat) d x,t + 1≤k→ds[k]? = some d→xs[k]? = some x→Sep G2 H2 O2 1 d [k] x)∧I (t + 1) ρ2,fun σ2 H2 h=>⟨ds.length - (t + 1),by omega,rfl,hlt,h⟩,fun y H1' hy=>?_⟩
    obtain ⟨rfl,hy⟩:=hy
    have hy:=hy xs (SqL.of hH')
    rw [hxt] at hy; cases hy
    have hdt:ds[t]? = some ds[t]:=List.getElem?_eq_getElem hlt
    have ro2:=ro.take (i:=i) (hel t _ _ (Nat.le_refl _) hdt hxt) ho (hm.no hu) hn odd
    have ro3:=ro2.hide (l:=1) odd (fun j hj=>by cases hj)
    have back:∀ {ρ3:DSt} {σ3:St} {G3 H3:Hp},az G' G3→R (hdC C H1' (tkO O' 1 t i) 1) M.ow G3 ρ3 σ3 H3 []→I (t + 1) ρ3→∃ G2 ρ2 O2,az G1 G2∧RO C M.ow G2 ρ2 σ3 H3 [] O2∧O2 a=some (1,[])∧H3 a=some (.lst xs)∧(∀ (k:Nat) d x,t + 1≤k→ds[k]? = some d→xs[k]? = some x→Sep G2 H3 O2 1 d [k] x)∧I (t + 1) ρ2:=fun {ρ3 σ3 G3 H3} z3 r3 h3=>by
     obtain ⟨O3,r3⟩:=r3
     obtain ⟨r4,fr4⟩:=ro2.shown r3 odd (fun j hj=>by cases hj)
     have ha:=fr4 a [] (iu hO' fun _=>by simp)
     refine ⟨G3,ρ3,_,z.trans z3,r4,ha.1,by rw [ha.2]; exact hH',fun k d x hk e1 e2=>?_,h3⟩
     refine (hel k d x (by omega) e1 e2).keep z3.ts fun b τ q=>?_
     refine fr4 b _ (iu q fun _=>?_)
     show (τ++[k]).getLast?≠some t
     simp; omega
    refine sb (hdC C H1' (tkO O' 1 t i) 1) G' _ _ H1' _ _ hm hn ⟨_,ro3⟩ (turn t ds[t] ρ' hdt w) ⟨?_,?_,?_,?_⟩
    ·intro ρ3 σ3 G3 H3 h3 z3 r3; exact back z3 r3 h3
    ·intro ρ3 σ3 G3 H3 h3 z3 r3
     obtain ⟨O3,r3⟩:=r3
     exact k.nx ρ3 σ3 G3 H3 h3 (z1.trans (z.trans z3)) ⟨O3,ro2.unhid r3⟩
    ·intro ρ3 σ3 G3 H3 h3 z3 r3; exact back z3 r3 h3
    ·intro d ρ3 σ3 v G3 H3 h3 z3 r3
     refine k.rt d ρ3 σ3 v G3 H3 h3 (z1.trans (z.trans z3)) ?_
     unfold Ret at r3 ⊢
     split at r3
     ·rename_i c; rw [if_pos c]; obtain ⟨O3,r3⟩:=r3; exact ⟨O3,ro2.unhid r3⟩
     ·rename_i c; rw [if_neg c]; obtain ⟨⟨O3,r3⟩,p⟩:=r3; exact ⟨⟨O3,ro2.unhid r3⟩,p⟩
   ·have e:t=ds.length:=by omega
    subst e
    exact .inl ⟨⟨xs,SqL.of hH',by omega⟩,k.nx ρ' σ' G' H' (fin ρ' w) (z1.trans z) ⟨O',ro⟩⟩
 ·exact hq.elim
end
def okA:List Bool→List Bool→DSt→Bool
 | o :: os,m :: ms,x :: ρ=>(!o||m||x.isNone)&&okA os ms ρ
 | _,_,[]=>true
 | [],_,_=>true
 | o :: os,[],x :: ρ=>(!o||x.isNone)&&okA os [] ρ
theorem kT:∀ {ow mu:List Bool} {ρ:DSt},okA ow mu ρ=true→∀ (i:Nat) d,ow[i]? = some true→ρ[i]? = some (some d)→mu[i]? = some true
 | o :: os,m :: ms,x :: ρ,h,0,d,h1,h2=>by
  rw [okA,Bool.and_eq_true] at h
  simp at h1 h2
  subst h1; subst h2
  simpa using h.1
 | o :: os,m :: ms,x :: ρ,h,i + 1,d,h1,h2=>by
  rw [okA,Bool.and_eq_true] at h
  simpa using kT h.2 i d (by simpa using h1) (by simpa using h2)
 | _,_,[],_,i,d,_,h2=>by simp at h2
 | [],_,_ :: _,_,i,d,h1,_=>by simp at h1
 | o :: os,[],x :: ρ,h,0,d,h1,h2=>by
  rw [okA,Bool.and_eq_true] at h
  simp at h1 h2
  subst h1; subst h2
  simp at h
 | o :: os,[],x :: ρ,h,i + 1,d,h1,h2=>by
  rw [okA,Bool.and_eq_true] at h
  have:=kT h.2 i d (by simpa using h1) (by simpa using h2)
  simp at this
def ka (s a b c:Nat):Lb→Option Lb:=fun m =>
 if m.1=2 * a then some (2 * s,m.2++[0]) else if m.1=2 * b then some (2 * s,m.2++[1]) else if m.1=2 * c then some (2 * s,m.2++[2]) else if m.1=2 * s then none else some m
open Classical in
def fH (mv:List (Option V)) (s a b c:Nat):Lb→Option Lb:=fun m =>
 if m.1=2 * s then (match m.2.getLast? with
  | some 0=>some (2 * a,m.2.dropLast)
  | some 1=>some (2 * b,m.2.dropLast)
  | some 2=>some (2 * c,m.2.dropLast)
  | _=>none)
 else if m.1 % 2=0∧m.1≠2 * a∧m.1≠2 * b∧m.1≠2 * c∧(∃ v,mv[m.1 / 2]? = some (some v)) then some m else none
section
variable {mv:List (Option V)} {s a b c:Nat}
def mL (a b c:Nat):Nat→Nat
 | 0=>a
 | 1=>b
 | _=>c
theorem gv {k:Nat} {τ:List Nat} (hk:k<3):fH mv s a b c (2 * s,τ++[k])=some (2 * mL a b c k,τ):=by
 unfold fH
 rw [if_pos rfl]
 show (match (τ++[k]).getLast? with | some 0=>some (2 * a,(τ++[k]).dropLast) | some 1=>some (2 * b,(τ++[k]).dropLast) | some 2=>some (2 * c,(τ++[k]).dropLast) | _=>none)=_
 rw [List.getLast?_concat,List.dropLast_concat]
 match k,hk with
 | 0,_=>rfl
 | 1,_=>rfl
 | 2,_=>rfl
theorem mN {i:Nat} {τ:List Nat} (h0:i≠s) (h1:i≠a) (h2:i≠b) (h3:i≠c) (h:∃ v,mv[i]? = some (some v)):fH mv s a b c (2 * i,τ)=some (2 * i,τ):=by
 unfold fH
 have e : 2 * i / 2=i:=by omega
 rw [if_neg (show ¬ (2 * i=2 * s) by omega),if_pos ⟨(show 2 * i % 2=0 by omega),(show 2 * i≠2 * a by omega),(show 2 * i≠2 * b by omega),(show 2 * i≠2 * c by omega),by show ∃ v,mv[2 * i / 2]? = _; rw [e]; exact h⟩]
theorem lG {m m':Lb} (h:fH mv s a b c m=some m'):(∃ k τ,k<3∧m=(2 * s,τ++[k])∧m'=(2 * mL a b c k,τ))∨(∃ i,m=m'∧m.1=2 * i∧i≠s∧i≠a∧i≠b∧i≠c∧∃ v,mv[i]? = some (some v)):=by
 unfold fH at h
 obtain ⟨l,π⟩:=m
 split at h
 ·rename_i c0
  have c0:l=2 * s:=c0
  left
  change (match π.getLast? with | some 0=>some (2 * a,π.dropLast) | some 1=>some (2 * b,π.dropLast) | some 2=>some (2 * c,π.dropLast) | _=>none)=_ at h
  have key:∀ k,π.getLast? = some k→π=π.dropLast++[k]:=fun k e=>by
   have hne : π≠[]:=fun z=>by rw [z] at e; simp at e
   have:=List.dropLast_concat_getLast hne
   have e2 : π.getLast? = some (π.getLast hne):=by simp [List.getLast?_eq_some_getLast hne]
   rw [e2] at e
   rw [← Option.some.inj e]; exact this.symm
  split at h
  ·rename_i e; cases h; exact ⟨0,π.dropLast,by omega,by rw [c0,← key 0 e],rfl⟩
  ·rename_i e; cases h; exact ⟨1,π.dropLast,by omega,by rw [c0,← key 1 e],rfl⟩
  ·rename_i e; cases h; exact ⟨2,π.dropLast,by omega,by rw [c0,← key 2 e],rfl⟩
  ·cases h
 ·rename_i c0
  have c0 : ¬ l=2 * s:=c0
  split at h
  ·rename_i c1
   obtain ⟨h0,h1,h2,h3,h4⟩:=c1
   change l % 2=0 at h0
   change l≠2 * a at h1
   change l≠2 * b at h2
   change l≠2 * c at h3
   cases h
   exact .inr ⟨l / 2,rfl,(show l=2 * (l / 2) by omega),by omega,by omega,by omega,by omega,h4⟩
  ·cases h
theorem iU (hab:a≠b) (hac:a≠c) (hbc:b≠c) {k:Nat} {τ:List Nat} (hk:k<3):ka s a b c (2 * mL a b c k,τ)=some (2 * s,τ++[k]):=by
 unfold ka
 match k,hk with
 | 0,_=>show (if 2 * a=2 * a then _ else _)=_; rw [if_pos rfl]
 | 1,_=>show (if 2 * b=2 * a then _ else if 2 * b=2 * b then _ else _)=_; rw [if_neg (by omega),if_pos rfl]
 | 2,_=>show (if 2 * c=2 * a then _ else if 2 * c=2 * b then _ else if 2 * c=2 * c then _ else _)=_; rw [if_neg (by omega),if_neg (by omega),if_pos rfl]
theorem gb {m:Lb} (h0:m.1≠2 * s) (h1:m.1≠2 * a) (h2:m.1≠2 * b) (h3:m.1≠2 * c):ka s a b c m=some m:=by
 unfold ka; rw [if_neg h1,if_neg h2,if_neg h3,if_neg h0]
end
section
variable {C:Ctx} {ow mu:List Bool} {G G2:Hp} {ρ ρ2:DSt} {σ σ2:St} {H H2:Hp} {pd2:List (D×V)} {O O2:Own} {s a b c:Nat} {d0 d1 d2:D} {x0 x1 x2:V} {p:Addr}
abbrev ali (s a b c:Nat) (d0 d1 d2:D) (ρ:DSt):DSt:=(((ρ.set s none).set a (some d0)).set b (some d1)).set c (some d2)
abbrev b9 (a b c:Nat) (x0 x1 x2:V) (σ:St):St:=((σ.set a (some x0)).set b (some x1)).set c (some x2)
abbrev aliE (s a b c:Nat) (e0 e1 e2:D) (ρ:DSt):DSt:=(((ρ.set a none).set b none).set c none).set s (some (.tup [e0,e1,e2]))
def pJ (s a b c:Nat):Prop:=a≠s∧b≠s∧c≠s∧a≠b∧a≠c∧b≠c
instance {s a b c:Nat}:Decidable (pJ s a b c):=by unfold pJ; exact inferInstance
theorem RO.intoA (ro:RO C ow G ρ σ H [] O) (f4:pJ s a b c) (hok:okA ow mu ρ=true) (e : ρ[s]? = some (some (.tup [d0,d1,d2]))) (hs:ow[s]? = some true) (ha:ow[a]? = some true) (hb:ow[b]? = some true) (hc:ow[c]? = some true) (ma:mu[a]? = some true) (mb:mu[b]? = some true) (mc:mu[c]? = some true)
 (la:a<ρ.length) (lb:b<ρ.length) (lc:c<ρ.length) (hv : σ[s]? = some (some (.ref p))) (hG:G p=some (.tup [x0,x1,x2])) :
 RO ⟨G,H,cy (fH (dr mu (b9 a b c x0 x1 x2 σ)) s a b c) O,dr mu (b9 a b c x0 x1 x2 σ),0⟩ ow G (ali s a b c d0 d1 d2 ρ) (b9 a b c x0 x1 x2 σ) H [] (cy (fH (dr mu (b9 a b c x0 x1 x2 σ)) s a b c) O):=by
 obtain ⟨f1,f2,f3,f5,f6,f7⟩:=f4
 have hlen:=ro.len
 have sa:(b9 a b c x0 x1 x2 σ)[a]? = some (some x0):=by unfold b9; rw [List.getElem?_set_ne (Ne.symm f6),List.getElem?_set_ne (Ne.symm f5),List.getElem?_set_self (by omega)]
 have sb:(b9 a b c x0 x1 x2 σ)[b]? = some (some x1):=by unfold b9; rw [List.getElem?_set_ne (Ne.symm f7),List.getElem?_set_self (by rw [List.length_set]; omega)]
 have sc:(b9 a b c x0 x1 x2 σ)[c]? = some (some x2):=by unfold b9; rw [List.getElem?_set_self (by rw [List.length_set,List.length_set]; omega)]
 have so:∀ i,i≠a→i≠b→i≠c→(b9 a b c x0 x1 x2 σ)[i]? = σ[i]?:=fun i h1 h2 h3=>by unfold b9; rw [List.getElem?_set_ne (Ne.symm h3),List.getElem?_set_ne (Ne.symm h2),List.getElem?_set_ne (Ne.symm h1)]
 obtain ⟨v,hv',sp⟩:=ro.sl s _ e
 rw [hv] at hv'; cases hv'
 rw [if_pos hs,Sep] at sp
 obtain ⟨p',xs,ep,hG',hss⟩:=sp
 cases ep
 rw [hG] at hG'; cases hG'
 rw [Seps] at hss
 obtain ⟨y0,ys,e0,s0,hss⟩:=hss
 cases e0
 rw [Seps] at hss
 obtain ⟨y1,ys,e0,s1,hss⟩:=hss
 cases e0
 rw [Seps] at hss
 obtain ⟨y2,ys,e0,s2,hss⟩:=hss
 cases e0
 refine ⟨by simp [hlen],ro.gh,fun _ _ e=>e,fun _ _ e=>.inl e,?_,?_,fun _ _ e _ _=>e,ro.ft,fun _ e=>e,fun i v q=>(jb q).2,?_,trivial,Nat.le_refl _⟩
 ·intro z m q
  obtain ⟨l,e1,e2⟩:=cT q
  obtain ⟨q1,q2,_⟩:=ro.og z _ e1
  exact ⟨q1,q2,.inr ⟨m.2,q⟩⟩
 ·intro z l' π q
  obtain ⟨l,e1,e2⟩:=cT q
  rcases lG e2 with ⟨k,τ,hk,_,z2⟩ | ⟨i,z1,z2,_,_,_,_,z3⟩
  ·have z2:l'=2 * mL a b c k:=congrArg Prod.fst z2
   left
   match k,hk with
   | 0,_=>exact ⟨a,x0,z2,ca ma sa⟩
   | 1,_=>exact ⟨b,x1,z2,ca mb sb⟩
   | 2,_=>exact ⟨c,x2,z2,ca mc sc⟩
  ·obtain ⟨v,z3⟩:=z3
   exact .inl ⟨i,v,by rw [← z2,z1],z3⟩
 ·intro i d q
  rcases a_ q with ⟨rfl,z⟩ | ⟨n3,q⟩
  ·cases z
   exact ⟨x2,sc,by rw [if_pos hc]; exact Sep.move (fun _ _ z=>z) _ [2] [] _ (fun z τ q=>⟨by rw [List.append_nil]; exact fo q (gv (by omega)),rfl⟩) s2⟩
  rcases a_ q with ⟨rfl,z⟩ | ⟨n2,q⟩
  ·cases z
   exact ⟨x1,sb,by rw [if_pos hb]; exact Sep.move (fun _ _ z=>z) _ [1] [] _ (fun z τ q=>⟨by rw [List.append_nil]; exact fo q (gv (by omega)),rfl⟩) s1⟩
  rcases a_ q with ⟨rfl,z⟩ | ⟨n1,q⟩
  ·cases z
   exact ⟨x0,sa,by rw [if_pos ha]; exact Sep.move (fun _ _ z=>z) _ [0] [] _ (fun z τ q=>⟨by rw [List.append_nil]; exact fo q (gv (by omega)),rfl⟩) s0⟩
  rcases a_ q with ⟨rfl,z⟩ | ⟨n0,q⟩
  ·cases z
  obtain ⟨v,h1,h2⟩:=ro.sl i d q
  refine ⟨v,by rw [so i n1 n2 n3]; exact h1,?_⟩
  split at h2
  ·rename_i co
   rw [if_pos co]
   exact h2.keep (fun _ _ z=>z) fun z τ q'=>⟨fo q' (mN n0 n1 n2 n3 ⟨v,ca (kT hok i d co q) (by rw [so i n1 n2 n3]; exact h1)⟩),rfl⟩
  ·rename_i co; rw [if_neg co]; exact h2
theorem RO.outA (ro:RO C ow G ρ σ H [] O) (f4:pJ s a b c) (hs:ow[s]? = some true) (ha:ow[a]? = some true) (hb:ow[b]? = some true) (hc:ow[c]? = some true) (ma:mu[a]? = some true) (mb:mu[b]? = some true) (mc:mu[c]? = some true) (ms:mu[s]? = some true)
 (la:a<ρ.length) (lb:b<ρ.length) (lc:c<ρ.length) (hv : σ[s]? = some (some (.ref p))) (hG:G p=some (.tup [x0,x1,x2])) (hn:C.np=0) (hC:∀ (i:Nat) v,C.mu[i]? = some (some v)→mu[i]? = some true∧i≠a∧i≠b∧i≠c)
 (ri:RO ⟨G,H,cy (fH (dr mu (b9 a b c x0 x1 x2 σ)) s a b c) O,dr mu (b9 a b c x0 x1 x2 σ),0⟩ ow G2 ρ2 σ2 H2 pd2 O2) {e0 e1 e2:D} (h0 : ρ2[a]? = some (some e0)) (h1 : ρ2[b]? = some (some e1)) (h2 : ρ2[c]? = some (some e2)) :
 R C ow G2 (aliE s a b c e0 e1 e2 ρ2) σ2 H2 pd2:=by
 obtain ⟨f1,f2,f3,f5,f6,f7⟩:=f4
 have hlen:=ro.len
 have sa:(b9 a b c x0 x1 x2 σ)[a]? = some (some x0):=by unfold b9; rw [List.getElem?_set_ne (Ne.symm f6),List.getElem?_set_ne (Ne.symm f5),List.getElem?_set_self (by omega)]
 have sb:(b9 a b c x0 x1 x2 σ)[b]? = some (some x1):=by unfold b9; rw [List.getElem?_set_ne (Ne.symm f7),List.getElem?_set_self (by rw [List.length_set]; omega)]
 have sc:(b9 a b c x0 x1 x2 σ)[c]? = some (some x2):=by unfold b9; rw [List.getElem?_set_self (by rw [List.length_set,List.length_set]; omega)]
 have so:∀ i,i≠a→i≠b→i≠c→(b9 a b c x0 x1 x2 σ)[i]? = σ[i]?:=fun i h1 h2 h3=>by unfold b9; rw [List.getElem?_set_ne (Ne.symm h3),List.getElem?_set_ne (Ne.symm h2),List.getElem?_set_ne (Ne.symm h1)]
 have m0:=ri.mp a x0 (ca ma sa)
 have m1:=ri.mp b x1 (ca mb sb)
 have m2:=ri.mp c x2 (ca mc sc)
 have m3:=ri.mp s (.ref p) (ca ms (by rw [so s (Ne.symm f1) (Ne.symm f2) (Ne.symm f3)]; exact hv))
 have hib:∀ m m1 m2 m3,fH (dr mu (b9 a b c x0 x1 x2 σ)) s a b c m=some m1→m1.1=m2.1→ka s a b c m2=some m3→m3.1=m.1:=fun m m1 m2 m3 g1 g2 g3=>by
  obtain ⟨l2,π2⟩:=m2
  rcases lG g1 with ⟨k,τ,hk,rfl,rfl⟩ | ⟨i,rfl,z2,n0,n1,n2,n3,_⟩
  ·change 2 * mL a b c k=l2 at g2
   subst g2
   rw [iU f5 f6 f7 hk] at g3
   cases g3; rfl
  ·change m.1=l2 at g2
   rw [gb (show l2≠2 * s by omega) (show l2≠2 * a by omega) (show l2≠2 * b by omega) (show l2≠2 * c by omega)] at g3
   cases g3; exact g2.symm
 have ts:bF G G2:=(az.ts ri.g0)
 refine ⟨jN (fH (dr mu (b9 a b c x0 x1 x2 σ)) s a b c) (ka s a b c) O O2,by simp only [aliE,List.length_set]; exact ri.len,ri.gh,fun a o e=>ri.g0 a o (ro.g0 a o e),?_,?_,ro.cok,?_,ri.ft,fun a e=>ro.al a (ri.al a e),?_,?_,?_,by rw [hn]; exact Nat.zero_le _⟩
 ·intro z o e
  rcases ri.gn z o e with q | q
  ·exact ro.gn z o q
  ·exact .inr (ro.al z q)
 ·intro z m e
  change (match O2 z with | some m=>_ | none=>_)=_ at e
  cases q:O2 z with
  | some m' =>
   rw [q] at e
   change ka s a b c m'=some m at e
   obtain ⟨g1,g2,g3⟩:=ri.og z m' q
   refine ⟨g1,g2,?_⟩
   rcases g3 with g3 | ⟨π',g3⟩
   ·exact .inl (ro.al z g3)
   ·obtain ⟨m0,g4,g5⟩:=cT g3
    have:=hib m0 _ m' m g5 rfl e
    rw [this]
    exact (ro.og z _ g4).2.2
  | none =>
   rw [q] at e
   change (match cy _ O z with | some _=>none | none=>O z)=_ at e
   cases q2:cy (fH (dr mu (b9 a b c x0 x1 x2 σ)) s a b c) O z with
   | some _=>rw [q2] at e; cases e
   | none =>
    rw [q2] at e
    change O z=some m at e
    obtain ⟨g1,⟨xs,g2⟩,g3⟩:=ro.og z m e
    refine ⟨?_,⟨xs,ri.fr z _ g2 q2 (WrO.nt xs)⟩,g3⟩
    cases zz:G2 z with
    | none=>rfl
    | some o =>
     rcases ri.gn z o zz with w | w
     ·change G z=_ at w; rw [g1] at w; cases w
     ·change H z=_ at w; rw [g2] at w; cases w
 ·intro z o e n t
  have q:=ro.fr z o e n t
  refine ri.fr z o q ?_ t
  show cy _ O z=none
  cases w:cy (fH (dr mu (b9 a b c x0 x1 x2 σ)) s a b c) O z with
  | none=>rfl
  | some m =>
   obtain ⟨l,z1,_⟩:=cT w
   obtain ⟨_,_,z3⟩:=ro.og z _ z1
   rcases z3 with z3 | ⟨_,z3⟩
   ·rw [z3] at e; cases e
   ·rw [z3] at n; cases n
 ·intro i v e
  obtain ⟨g1,g2,g3,g4⟩:=hC i v e
  exact ri.mp i v (ca g1 (by rw [so i g2 g3 g4]; exact ro.mp i v e))
 ·intro i d q
  rcases a_ q with ⟨rfl,z⟩ | ⟨n0,q⟩
  ·cases z
   refine ⟨.ref p,m3,?_⟩
   rw [if_pos hs,Sep]
   have part:∀ {j k:Nat} {e:D} {x:V},k<3→j=mL a b c k→ow[j]? = some true→ρ2[j]? = some (some e)→σ2[j]? = some (some x)→Sep G2 H2 (jN (fH (dr mu (b9 a b c x0 x1 x2 σ)) i a b c) (ka i a b c) O O2) (2 * i) e [k] x:=fun {j k e x} hk hj oj r2 s2=>by
    obtain ⟨w,w1,w2⟩:=ri.sl j e r2
    rw [s2] at w1; cases w1
    rw [if_pos oj] at w2
    subst hj
    exact Sep.move (fun _ _ z=>z) e [] [k] x (fun z τ q=>⟨eN q (by rw [List.append_nil]; exact iU f5 f6 f7 hk),rfl⟩) w2
   refine ⟨p,[x0,x1,x2],rfl,ts _ _ hG,?_⟩
   rw [Seps]
   refine ⟨x0,_,rfl,part (by omega) rfl ha h0 m0,?_⟩
   rw [Seps]
   refine ⟨x1,_,rfl,part (by omega) rfl hb h1 m1,?_⟩
   rw [Seps]
   refine ⟨x2,_,rfl,part (by omega) rfl hc h2 m2,?_⟩
   rw [Seps]
  rcases a_ q with ⟨rfl,z⟩ | ⟨n3,q⟩
  ·cases z
  rcases a_ q with ⟨rfl,z⟩ | ⟨n2,q⟩
  ·cases z
  rcases a_ q with ⟨rfl,z⟩ | ⟨n1,q⟩
  ·cases z
  obtain ⟨v,w1,w2⟩:=ri.sl i d q
  refine ⟨v,w1,?_⟩
  split at w2
  ·rename_i co
   rw [if_pos co]
   exact w2.keep (fun _ _ z=>z) fun z τ q'=>⟨eN q' (gb (show 2 * i≠2 * s by omega) (show 2 * i≠2 * a by omega) (show 2 * i≠2 * b by omega) (show 2 * i≠2 * c by omega)),rfl⟩
  ·rename_i co; rw [if_neg co]; exact w2
 ·exact bg.keep (fun _ _ z=>z) (fun z j π hj q=>⟨eN q (gb (fun h=>a8 h.symm) (fun h=>a8 h.symm) (fun h=>a8 h.symm) (fun h=>a8 h.symm)),rfl⟩) ri.pn
end
def clP (s a b c:Nat) (ρ:DSt) (k:DSt→Prop):Prop:=∃ e0 e1 e2,ρ[a]? = some (some e0)∧ρ[b]? = some (some e1)∧ρ[c]? = some (some e2)∧k (aliE s a b c e0 e1 e2 ρ)
def clA (s a b c:Nat) (n:EndsD):EndsD:={ nx:=fun ρ=>clP s a b c ρ n.nx,rt:=fun d ρ=>clP s a b c ρ (n.rt d),bk:=fun ρ=>clP s a b c ρ n.bk,ct:=fun ρ=>clP s a b c ρ n.ct }
def tN (s a b c:Nat) (ow mu:List Bool) (m:MS):MS:=fun n ρ=>okA ow mu ρ=true∧c<ρ.length∧b<ρ.length∧a<ρ.length∧∃ d0 d1 d2,ρ[s]? = some (some (.tup [d0,d1,d2]))∧m (clA s a b c n) (ali s a b c d0 d1 d2 ρ)
section
variable {X:Cx} {M:Md} {rest:List Stmt} {m:MS}
theorem mF (s a b c:Nat) (mu:List Bool) {x y1 y2 y3:Str} {px p1 p2 p3 pt pos:Pos} {kt:Nat} (hc:X.calm=true) (hN:X.N.Nodup) (hx:X.N[s]? = some x) (h1:X.N[a]? = some y1) (h2:X.N[b]? = some y2) (h3:X.N[c]? = some y3)
 (l1:Loc X.env.scope y1) (l2:Loc X.env.scope y2) (l3:Loc X.env.scope y3) (hr:QSs X ⟨mu,M.ow,M.fr⟩ rest m)
 (f4:pJ s a b c:=by decide) (os:M.ow[s]? = some true:=by decide) (oa:M.ow[a]? = some true:=by decide) (ob:M.ow[b]? = some true:=by decide) (oc:M.ow[c]? = some true:=by decide)
 (ms:mu[s]? = some true:=by decide) (ma:mu[a]? = some true:=by decide) (mb:mu[b]? = some true:=by decide) (mc:mu[c]? = some true:=by decide) (hsub:nI M.mu mu=true:=by decide)
 (na:M.mu[a]?≠some true:=by decide) (nb:M.mu[b]?≠some true:=by decide) (nc:M.mu[c]?≠some true:=by decide)
 (hv:Vis X.env.scope x:=by first | exact Or.inl rfl | exact Or.inr (Or.inl rfl) | exact Or.inr (Or.inr rfl)) (hd:(x == ("__debug__":Str))=false:=by decide) (hcd:(x == ("__classdict__":Str))=false:=by decide)
 (g1:X.fn y1=true∨X.env.scope.names.lookup y1=some .local:=by first | exact .inl rfl | exact .inr rfl | assumption) (g2:X.fn y2=true∨X.env.scope.names.lookup y2=some .local:=by first | exact .inl rfl | exact .inr rfl | assumption) (g3:X.fn y3=true∨X.env.scope.names.lookup y3=some .local:=by first | exact .inl rfl | exact .inr rfl | assumption)
 (hn:(assignEach [.Name y1 p1,.Name y2 p2,.Name y3 p3] X.env).length=3:=by rfl) (hst:(assignEach [.Name y1 p1,.Name y2 p2,.Name y3 p3] X.env).findIdx? (·.1)=none:=by rfl)
 (e1:(assignEach (.Name y1 p1 :: [.Name y2 p2,.Name y3 p3]) X.env).map (·.2)=assign (.Name y1 p1) X.env :: (assignEach [.Name y2 p2,.Name y3 p3] X.env).map (·.2):=by rfl)
 (e2:(assignEach (.Name y2 p2 :: [.Name y3 p3]) X.env).map (·.2)=assign (.Name y2 p2) X.env :: (assignEach [.Name y3 p3] X.env).map (·.2):=by rfl)
 (e3:(assignEach (.Name y3 p3 :: []) X.env).map (·.2)=assign (.Name y3 p3) X.env :: (assignEach [] X.env).map (·.2):=by rfl)
 (hs:swapsWithSole [.Tuple [.Name y1 p1,.Name y2 p2,.Name y3 p3] kt pt] (.Name x px) pos.line X.env=pure false:=by rfl) (hw:swappedStores [.Tuple [.Name y1 p1,.Name y2 p2,.Name y3 p3] kt pt] (.Name x px) X.env=pure none:=by rfl) :
 QSs X M (.Assign [.Tuple [.Name y1 p1,.Name y2 p2,.Name y3 p3] kt pt] (.Name x px) pos :: rest) (tN s a b c M.ow mu m):=by
 obtain ⟨tr,pr,sr⟩:=hr
 refine ⟨_,km (jG (bB hx hv hd hcd) (jC hc (cp (a9 hN h1 l1 g1) (cp (a9 hN h2 l2 g2) (cp (a9 hN h3 l3 g3) gR e3) e2) e1) hn hst) hs hw) pr,fun C G ρ σ H n D hm hn0 r h k=>?_⟩
 obtain ⟨hok,lc,lb,la,d0,d1,d2,e,h⟩:=h
 obtain ⟨O,ro⟩:=r
 obtain ⟨v,hv1,sp⟩:=ro.sl s _ e
 rw [if_pos os,Sep] at sp
 obtain ⟨p,xs,rfl,hG,hss⟩:=sp
 have hl:=hss.length
 obtain ⟨x0,x1,x2,rfl⟩:∃ x0 x1 x2,xs=[x0,x1,x2]:=by
  match xs,hl with
  | [x0,x1,x2],_=>exact ⟨x0,x1,x2,rfl⟩
 refine ⟨.ref p,hv1,p,_,rfl,SqT.of (ro.gh _ _ hG),rfl,x0,_,rfl,x1,_,rfl,x2,_,rfl,rfl,?_⟩
 have ri:=ro.intoA (mu:=mu) f4 hok e os oa ob oc ma mb mc la lb lc hv1 hG
 have hC:∀ (i:Nat) v,C.mu[i]? = some (some v)→mu[i]? = some true∧i≠a∧i≠b∧i≠c:=fun i v q=>by
  have:=hm i v q
  exact ⟨lX hsub i this,fun z=>na (z ▸ this),fun z=>nb (z ▸ this),fun z=>nc (z ▸ this)⟩
 refine sr _ G _ _ H _ D (fun i v q=>(jb q).1) rfl ⟨_,ri⟩ h ⟨?_,?_,?_,?_⟩
 ·rintro ρ3 σ3 G3 H3 ⟨e0,e1,e2,q0,q1,q2,q⟩ z ⟨O3,r3⟩
  exact k.nx _ σ3 G3 H3 q z (ro.outA f4 os oa ob oc ma mb mc ms la lb lc hv1 hG hn0 hC r3 q0 q1 q2)
 ·rintro ρ3 σ3 G3 H3 ⟨e0,e1,e2,q0,q1,q2,q⟩ z ⟨O3,r3⟩
  exact k.bk _ σ3 G3 H3 q z (ro.outA f4 os oa ob oc ma mb mc ms la lb lc hv1 hG hn0 hC r3 q0 q1 q2)
 ·rintro ρ3 σ3 G3 H3 ⟨e0,e1,e2,q0,q1,q2,q⟩ z ⟨O3,r3⟩
  exact k.ct _ σ3 G3 H3 q z (ro.outA f4 os oa ob oc ma mb mc ms la lb lc hv1 hG hn0 hC r3 q0 q1 q2)
 ·rintro d ρ3 σ3 v G3 H3 ⟨e0,e1,e2,q0,q1,q2,q⟩ z r3
  refine k.rt d _ σ3 v G3 H3 q z ?_
  unfold Ret at r3 ⊢
  split at r3
  ·rename_i cc; rw [if_pos cc]; obtain ⟨O3,r3⟩:=r3
   exact ro.outA f4 os oa ob oc ma mb mc ms la lb lc hv1 hG hn0 hC r3 q0 q1 q2
  ·rename_i cc; rw [if_neg cc]; obtain ⟨⟨O3,r3⟩,pp⟩:=r3
   exact ⟨ro.outA f4 os oa ob oc ma mb mc ms la lb lc hv1 hG hn0 hC r3 q0 q1 q2,pp⟩
end
end L2
namespace L2
open PySem PySem.Spec PyProof.Rows
def fW (js:List Nat) (O:Own) (H:Hp) (O':Own) (H':Hp):Prop:=∀ a j π,j∈js→O a=some (2 * j,π)→O' a=some (2 * j,π)∧H' a=H a
theorem fW.refl {js:List Nat} {O:Own} {H:Hp}:fW js O H O H:=fun _ _ _ _ e=>⟨e,rfl⟩
theorem fW.trans {js:List Nat} {O O1 O2:Own} {H H1 H2:Hp} (h:fW js O H O1 H1) (h2:fW js O1 H1 O2 H2):fW js O H O2 H2:=fun a j π hj e=>by
 obtain ⟨e1,q1⟩:=h a j π hj e
 obtain ⟨e2,q2⟩:=h2 a j π hj e1
 exact ⟨e2,q2.trans q1⟩
def SK (ow:List Bool) (js:List Nat) (t:TE) (m:ME):Prop:=∀ (C:Ctx) (G:Hp) (ρ:DSt) (σ:St) (H:Hp) (pd:List (D×V)) (O:Own) (q:D→DSt→Prop) (Q:VK),RO C ow G ρ σ H pd O→m ρ q →
 (∀ d ρ' v G' H' O',q d ρ'→az G G'→Kp ow ρ ρ'→RO C ow G' ρ' σ H' pd O'→Rep G' d v→fW js O H O' H'→Q v H')→t σ H Q
structure QK (X:Cx) (ow:List Bool) (js:List Nat) (e:Expr) (m:ME):Prop where
 ex:∃ t,PE X e t∧SK ow js t m
section
variable {X:Cx} {ow:List Bool} {js:List Nat} {pos:Pos}
theorem s9 (i:Nat) {x:Str} (hs:ow[i]?≠some true:=by decide) (hN:X.N[i]? = some x:=by rfl) (hv:Vis X.env.scope x:=by first | exact Or.inl rfl | exact Or.inr (Or.inl rfl) | exact Or.inr (Or.inr rfl)) (hd:(x == ("__debug__":Str))=false:=by decide)
 (hcd:(x == ("__classdict__":Str))=false:=by decide):QK X ow js (.Name x pos) (mVar i):=⟨_,bB hN hv hd hcd,fun C G ρ σ H pd O q Q ro h k=>by
 unfold mVar at h
 split at h
 ·rename_i d e
  obtain ⟨v,h1,h2⟩:=ro.sl i d e
  rw [if_neg hs] at h2
  exact ⟨v,h1,k d ρ v G H O h (az.refl _) Kp.refl ro h2 fW.refl⟩
 ·exact h.elim⟩
theorem qk_bl {i j}:QK X ow js (.Constant (.bool i) j pos) (mC (.bl i)):=⟨_,rG,fun C G ρ σ H pd O q Q ro h k=>k _ ρ _ G H O h (az.refl _) Kp.refl ro (b6 _) fW.refl⟩
def mK2 (i j:Nat) (sd:SpD):ME:=fun ρ q=>∃ d0 d1,ρ[i]? = some (some d0)∧ρ[j]? = some (some d1)∧sd [d0,d1] fun d os=>∃ e,os=[some e]∧q d (ρ.set i (some e))
theorem nA (i j:Nat) {k n:Nat} {f:Addr} {fd:FuncData} {ps:List Str} {sd:SpD} {g x y:Str} {st:Stmt} {p0 p1 p':Pos} (F:FnOk X.prog X.w X.K X.mg X.base CX0 k f fd ps (aQ [true,false] false sd)) (hr:Room n X.A) (t:FT X.K X.mg g st ps f fd) (hj:k≤n:=by decide) (hg:Gl X g:=by rfl)
 (hi:i ∉ js:=by decide) (ho:ow[i]? = some true:=by decide) (hs:ow[j]?≠some true:=by decide) (hN:X.N[i]? = some x:=by rfl) (hv:Vis X.env.scope x:=by first | exact Or.inl rfl | exact Or.inr (Or.inl rfl) | exact Or.inr (Or.inr rfl)) (hd:(x == ("__debug__":Str))=false:=by decide) (hcd:(x == ("__classdict__":Str))=false:=by decide)
 (hN':X.N[j]? = some y:=by rfl) (hv':Vis X.env.scope y:=by first | exact Or.inl rfl | exact Or.inr (Or.inl rfl) | exact Or.inr (Or.inr rfl)) (hd':(y == ("__debug__":Str))=false:=by decide) (hcd':(y == ("__classdict__":Str))=false:=by decide)
 (hdb:(g == ("__debug__":Str))=false:=by decide)
 (he:starEach (.Name x p0 :: [.Name y p1]) X.env=(false,eval (.Name x p0) X.env) :: starEach [.Name y p1] X.env:=by rfl)
 (he1:starEach (.Name y p1 :: []) X.env=(false,eval (.Name y p1) X.env) :: starEach [] X.env:=by rfl)
 (hpl:(backTo pos (starEach [.Name y p1] X.env)).any (·.1)=false:=by rfl) :
 QK X ow js (.Call (.Name g p') [.Name x p0,.Name y p1] [] pos) (mK2 i j sd):=by
 refine ⟨_,g6 F (hr.mono hj) hg t.m t.F.kp t.b .nil ic (a7 (bB hN hv hd hcd) (a7 (bB hN' hv' hd' hcd') dS he1) he) hdb he hpl,fun C G ρ σ H pd O q Q ro h kk=>?_⟩
 obtain ⟨d0,d1,e0,e1,h⟩:=h
 obtain ⟨v0,h0,s0⟩:=ro.sl i d0 e0
 obtain ⟨v1,h1,s1⟩:=ro.sl j d1 e1
 rw [if_pos ho] at s0
 rw [if_neg hs] at s1
 refine ⟨v0,h0,v1,h1,?_⟩
 show aQ [true,false] false sd [v0,v1] H Q E0
 have u:LbU [some ((2 * i,[]):Lb),none]:=fun k k' l π π' τ τ' g1 g2 _=>by
  match k,k',g1,g2 with
  | 0,0,_,_=>rfl
  | 0,1,_,g2=>cases g2
  | 0,n + 2,_,g2=>simp at g2
  | 1,_,g1,_=>cases g1
  | n + 2,_,g1,_=>simp at g1
 refine kr (L:=[some (2 * i,[]),none]) ro rfl rfl ?_ ?_ rfl u h ?_
 ·intro k
  match k with
  | 0=>exact ⟨fun _=>⟨_,rfl⟩,fun _=>rfl⟩
  | 1=>exact ⟨fun z=>(by cases z),fun ⟨_,z⟩=>(by cases z)⟩
  | n + 2=>exact ⟨fun z=>(by simp at z),fun ⟨_,z⟩=>(by simp at z)⟩
 ·intro k d hd
  match k,hd with
  | 0,hd=>cases hd; exact ⟨v0,rfl,fun m hm=>by cases hm; exact s0⟩
  | 1,hd=>cases hd; exact ⟨v1,rfl,fun m hm=>by cases hm; exact s1⟩
  | n + 2,hd=>simp at hd
 ·intro d ρ2 v G2 H2 O3 hq hl z p frame args close
  obtain ⟨e,hos,hq⟩:=hq
  obtain ⟨y0,y1,rfl⟩:∃ y0 y1,ρ2=[y0,y1]:=by
   match ρ2,hl with
   | [y0,y1],_=>exact ⟨y0,y1,rfl⟩
  have hos : [y0]=[some e]:=hos
  cases hos
  have q0:=args 0 (2 * i) [] e v0 rfl rfl rfl
  have fr:∀ a l τ,O a=some (l,τ)→l≠2 * i→O3 a=some (l,τ)∧H2 a=H a:=fun a l τ e n1=>frame a _ e fun k l' π τ' hk he=>by
   have hl':l=l':=congrArg Prod.fst he
   subst hl'
   match k,hk with
   | 0,hk=>cases hk; exact n1 rfl
   | 1,hk=>cases hk
   | n + 2,hk=>simp at hk
  refine kk d _ v G2 H2 O3 hq z (fun j hj=>?_) (close _ ?_ ?_ ?_ ?_) p fun a j π hj e=>fr a _ _ e (fun zz=>hi (by rw [show i=j by omega]; exact hj))
  ·exact List.getElem?_set_ne (fun zz=>hj (by rw [← zz]; exact ho))
  ·rw [List.length_set]; exact ro.len
  ·intro j d' c hd'
   rw [List.getElem?_set_ne (fun zz=>c (by rw [← zz]; exact ho))] at hd'; exact hd'
  ·intro j d' c hd'
   rcases a_ hd' with ⟨rfl,zz⟩ | ⟨hji,hd'⟩
   ·cases zz; exact ⟨v0,h0,q0⟩
   ·obtain ⟨w,g1,g2⟩:=ro.sl j d' hd'
    rw [if_pos c] at g2
    exact ⟨w,g1,g2.keep (az.ts z) fun a τ q=>fr a _ _ q (by omega)⟩
  ·exact bg.keep (az.ts z) (fun a j π hj q=>fr a _ _ q (fun zz=>a8 zz.symm)) ro.pn
theorem RO.part {C:Ctx} {G:Hp} {ρ:DSt} {σ:St} {H:Hp} {pd:List (D×V)} {O:Own} {i:Nat} {es:List D} (ro:RO C ow G ρ σ H pd O) (ho:ow[i]? = some true) (e : ρ[i]? = some (some (.lst es))) :
 ∃ a xs,σ[i]? = some (some (.ref a))∧O a=some (2 * i,[])∧H a=some (.lst xs)∧xs.length=es.length∧Seps G H O (2 * i) es 0 [] xs:=by
 obtain ⟨v,h1,s⟩:=ro.sl i _ e
 rw [if_pos ho,Sep] at s
 obtain ⟨a,xs,rfl,q1,q2,q3⟩:=s
 exact ⟨a,xs,h1,q1,q2,q3.length,q3⟩
theorem jB {G H G2 H2:Hp} {O O3:Own} {l k:Nat} {e:D} {w:V} (hG:bF G G2) (hs:Sep G2 H2 O3 l e [k] w):∀ {es:List D} {xs:List V} {n:Nat},(∀ a τ j,j≠k→O a=some (l,τ++[j])→O3 a=some (l,τ++[j])∧H2 a=H a)→Seps G H O l es n [] xs→(n≤k→xs[k - n]? = some w)→Seps G2 H2 O3 l (if n≤k then es.set (k - n) e else es) n [] xs
 | [],xs,n,_,h,_=>by
  have:(if n≤k then ([]:List D).set (k - n) e else [])=[]:=by split <;> simp
  rw [this]
  rw [Seps] at h ⊢; exact h
 | d :: es,xs,n,fr,h,hw=>by
  rw [Seps] at h
  obtain ⟨v,vs,rfl,h1,h2⟩:=h
  have ih:=jB (n:=n + 1) hG hs fr h2 fun hn=>by
   have:=hw (by omega)
   rw [show k - n=(k - (n + 1)) + 1 by omega] at this
   simpa using this
  by_cases hn:n≤k
  ·rw [if_pos hn]
   by_cases hk:k=n
   ·subst hk
    rw [if_neg (by omega)] at ih
    rw [Nat.sub_self,List.set_cons_zero,Seps]
    have:=hw (Nat.le_refl _)
    rw [Nat.sub_self] at this
    have:v=w:=by simpa using this
    subst this
    exact ⟨v,vs,rfl,hs,ih⟩
   ·rw [if_pos (by omega)] at ih
    rw [show k - n=(k - (n + 1)) + 1 by omega,List.set_cons_succ,Seps]
    exact ⟨v,vs,rfl,h1.keep hG fun a τ q=>fr a τ n (fun z=>hk z.symm) q,ih⟩
  ·rw [if_neg hn]
   rw [if_neg (by omega)] at ih
   rw [Seps]
   exact ⟨v,vs,rfl,h1.keep hG fun a τ q=>fr a τ n (by omega) q,ih⟩
def tQ (i t j u:Nat) (m1 m2 m3:ME) (sd:SpD):ME:=fun ρ q=>∃ es n k,ρ[i]? = some (some (.lst es))∧ρ[t]? = some (some (.int n))∧ixN es.length n=some k∧m1 ρ fun d1 ρ1 =>
 ∃ fs n' k',ρ1[j]? = some (some (.lst fs))∧ρ1[u]? = some (some (.int n'))∧ixN fs.length n'=some k'∧m2 ρ1 fun d2 ρ2=>m3 ρ2 fun d3 ρ3 =>
 ∃ es' fs' d0 d4,ρ3[i]? = some (some (.lst es'))∧es'[k]? = some d0∧ρ3[j]? = some (some (.lst fs'))∧fs'[k']? = some d4∧sd [d0,d1,d4,d2,d3] fun d os=>∃ e0 e4,os=[some e0,some e4]∧q d ((ρ3.set i (some (.lst (es'.set k e0)))).set j (some (.lst (fs'.set k' e4))))
theorem rE {α:Type} {xs:List α} {n:Int} {k:Nat} (h:ixN xs.length n=some k):∃ v,xs[k]? = some v∧atI xs n=some v:=by
 have:=(gT h).2.1
 exact ⟨xs[k],List.getElem?_eq_getElem this,by unfold atI; rw [h]; exact List.getElem?_eq_getElem this⟩
theorem oo (i t j u:Nat) {k n:Nat} {f:Addr} {fd:FuncData} {ps:List Str} {sd:SpD} {g x1 x2 x3 x4:Str} {st:Stmt} {p' p1 p2 p3 p4 q1 q2:Pos} {a1 a2 a3:Expr} {m1 m2 m3:ME} (F:FnOk X.prog X.w X.K X.mg X.base CX0 k f fd ps (aQ [true,false,true,false,false] false sd)) (hr:Room n X.A) (ft:FT X.K X.mg g st ps f fd)
 (k1:QK X ow [i,j] a1 m1) (k2:QK X ow [i,j] a2 m2) (k3:QK X ow [i,j] a3 m3) (hj:k≤n:=by decide) (hg:Gl X g:=by rfl) (hij:i≠j:=by decide) (hoi:ow[i]? = some true:=by decide) (hoj:ow[j]? = some true:=by decide) (hst:ow[t]?≠some true:=by decide) (hsu:ow[u]?≠some true:=by decide)
 (N1:X.N[i]? = some x1:=by rfl) (v1:Vis X.env.scope x1:=by first | exact Or.inl rfl | exact Or.inr (Or.inl rfl) | exact Or.inr (Or.inr rfl)) (b1:(x1 == ("__debug__":Str))=false:=by decide) (c1:(x1 == ("__classdict__":Str))=false:=by decide)
 (N2:X.N[t]? = some x2:=by rfl) (v2:Vis X.env.scope x2:=by first | exact Or.inl rfl | exact Or.inr (Or.inl rfl) | exact Or.inr (Or.inr rfl)) (b2:(x2 == ("__debug__":Str))=false:=by decide) (c2:(x2 == ("__classdict__":Str))=false:=by decide)
 (N3:X.N[j]? = some x3:=by rfl) (v3:Vis X.env.scope x3:=by first | exact Or.inl rfl | exact Or.inr (Or.inl rfl) | exact Or.inr (Or.inr rfl)) (b3:(x3 == ("__debug__":Str))=false:=by decide) (c3:(x3 == ("__classdict__":Str))=false:=by decide)
 (N4:X.N[u]? = some x4:=by rfl) (v4:Vis X.env.scope x4:=by first | exact Or.inl rfl | exact Or.inr (Or.inl rfl) | exact Or.inr (Or.inr rfl)) (b4:(x4 == ("__debug__":Str))=false:=by decide) (c4:(x4 == ("__classdict__":Str))=false:=by decide)
 (hdb:(g == ("__debug__":Str))=false:=by decide) (s1:fL (.Name x2 p2):=by intro _ _; rfl) (s2:fL (.Name x4 p4):=by intro _ _; rfl)
 (h1:starEach (.Subscript (.Name x1 p1) (.Name x2 p2) q1 :: [a1,.Subscript (.Name x3 p3) (.Name x4 p4) q2,a2,a3]) X.env=(false,eval (.Subscript (.Name x1 p1) (.Name x2 p2) q1) X.env) :: starEach [a1,.Subscript (.Name x3 p3) (.Name x4 p4) q2,a2,a3] X.env:=by rfl)
 (h2:starEach (a1 :: [.Subscript (.Name x3 p3) (.Name x4 p4) q2,a2,a3]) X.env=(false,eval a1 X.env) :: starEach [.Subscript (.Name x3 p3) (.Name x4 p4) q2,a2,a3] X.env:=by rfl)
 (h3:starEach (.Subscript (.Name x3 p3) (.Name x4 p4) q2 :: [a2,a3]) X.env=(false,eval (.Subscript (.Name x3 p3) (.Name x4 p4) q2) X.env) :: starEach [a2,a3] X.env:=by rfl)
 (h4:starEach (a2 :: [a3]) X.env=(false,eval a2 X.env) :: starEach [a3] X.env:=by rfl) (h5:starEach (a3 :: []) X.env=(false,eval a3 X.env) :: starEach [] X.env:=by rfl)
 (hpl:(backTo pos (starEach [a1,.Subscript (.Name x3 p3) (.Name x4 p4) q2,a2,a3] X.env)).any (·.1)=false:=by rfl) :
 QE X ow (.Call (.Name g p') [.Subscript (.Name x1 p1) (.Name x2 p2) q1,a1,.Subscript (.Name x3 p3) (.Name x4 p4) q2,a2,a3] [] pos) (tQ i t j u m1 m2 m3 sd):=by
 obtain ⟨t1,pe1,se1⟩:=k1; obtain ⟨t2,pe2,se2⟩:=k2; obtain ⟨t3,pe3,se3⟩:=k3
 refine ⟨_,g6 F (hr.mono hj) hg ft.m ft.F.kp ft.b .nil ic (a7 (lJ jn (bB N1 v1 b1 c1) (bB N2 v2 b2 c2) s1) (a7 pe1 (a7 (lJ jn (bB N3 v3 b3 c3) (bB N4 v4 b4 c4) s2) (a7 pe2 (a7 pe3 dS h5) h4) h3) h2) h1) hdb h1 hpl,fun C G ρ σ H pd q Q r hm kk=>?_⟩
 obtain ⟨O,ro⟩:=r
 obtain ⟨es,n0,kI,e1,e2,hix,hm⟩:=hm
 obtain ⟨a,xs,g1,g2,g3,g4,g5⟩:=ro.part hoi e1
 obtain ⟨vt,gt,rt⟩:=ro.sl t _ e2
 rw [if_neg hst] at rt
 obtain rfl:=aA rt
 rw [← g4] at hix
 obtain ⟨w0,gw0,aw0⟩:=rE hix
 refine ⟨.ref a,g1,.int n0,gt,a,xs,n0,w0,rfl,rfl,SqL.of g3,aw0,?_⟩
 refine se1 C G ρ σ H pd O _ _ ro hm fun d1 ρ1 y1 G1 H1 O1 hm z1 kp1 ro1 r1 ke1=>?_
 obtain ⟨fs,n1,kJ,e3,e4,hjx,hm⟩:=hm
 obtain ⟨b,ys,f1,f2,f3,f4,f5⟩:=ro1.part hoj e3
 obtain ⟨vu,gu,ru⟩:=ro1.sl u _ e4
 rw [if_neg hsu] at ru
 obtain rfl:=aA ru
 rw [← f4] at hjx
 obtain ⟨w4,gw4,aw4⟩:=rE hjx
 refine ⟨.ref b,f1,.int n1,gu,b,ys,n1,w4,rfl,rfl,SqL.of f3,aw4,?_⟩
 refine se2 C G1 ρ1 σ H1 pd O1 _ _ ro1 hm fun d2 ρ2 y2 G2 H2 O2 hm z2 kp2 ro2 r2 ke2=>?_
 refine se3 C G2 ρ2 σ H2 pd O2 _ _ ro2 hm fun d3 ρ3 y3 G3 H3 O3 hm z3 kp3 ro3 r3 ke3=>?_
 obtain ⟨es',fs',d0,d4,e5,e6,e7,e8,hm⟩:=hm
 show aQ [true,false,true,false,false] false sd [w0,y1,w4,y2,y3] H3 Q E0
 have kA:=((ke1.trans ke2).trans ke3) a i [] (by simp) g2
 have kB:=(ke2.trans ke3) b j [] (by simp) f2
 obtain ⟨a',xs',A1,A2,A3,A4,A5⟩:=ro3.part hoi e5
 rw [g1] at A1; cases A1
 rw [kA.2,g3] at A3; cases A3
 obtain ⟨b',ys',B1,B2,B3,B4,B5⟩:=ro3.part hoj e7
 rw [f1] at B1; cases B1
 rw [kB.2,f3] at B3; cases B3
 have S0:Sep G3 H3 O3 (2 * i) d0 [kI] w0:=by
  obtain ⟨w,h,s⟩:=A5.at e6
  rw [gw0] at h; cases h
  simpa using s
 have S4:Sep G3 H3 O3 (2 * j) d4 [kJ] w4:=by
  obtain ⟨w,h,s⟩:=B5.at e8
  rw [gw4] at h; cases h
  simpa using s
 have hL:∀ {k l:Nat} {π:List Nat},[some ((2 * i,[kI]):Lb),none,some ((2 * j,[kJ]):Lb),none,none][k]? = some (some (l,π))→(k=0∧l=2 * i∧π=[kI])∨(k=2∧l=2 * j∧π=[kJ]):=fun {k l π} h=>by
  match k,h with
  | 0,h=>cases h; exact .inl ⟨rfl,rfl,rfl⟩
  | 1,h=>cases h
  | 2,h=>cases h; exact .inr ⟨rfl,rfl,rfl⟩
  | 3,h=>cases h
  | 4,h=>cases h
  | n + 5,h=>simp at h
 have uq:LbU [some ((2 * i,[kI]):Lb),none,some ((2 * j,[kJ]):Lb),none,none]:=fun k k' l π π' τ τ' g1 g2 _=>by
  rcases hL g1 with ⟨rfl,z1,_⟩ | ⟨rfl,z1,_⟩ <;> rcases hL g2 with ⟨rfl,z2,_⟩ | ⟨rfl,z2,_⟩ <;> first | rfl | (exfalso; exact hij (by omega))
 refine kr (L:=[some (2 * i,[kI]),none,some (2 * j,[kJ]),none,none]) ro3 rfl rfl ?_ ?_ rfl uq hm ?_
 ·intro k
  match k with
  | 0=>exact ⟨fun _=>⟨_,rfl⟩,fun _=>rfl⟩
  | 1=>exact ⟨fun z=>(by cases z),fun ⟨_,z⟩=>(by cases z)⟩
  | 2=>exact ⟨fun _=>⟨_,rfl⟩,fun _=>rfl⟩
  | 3=>exact ⟨fun z=>(by cases z),fun ⟨_,z⟩=>(by cases z)⟩
  | 4=>exact ⟨fun z=>(by cases z),fun ⟨_,z⟩=>(by cases z)⟩
  | n + 5=>exact ⟨fun z=>(by simp at z),fun ⟨_,z⟩=>(by simp at z)⟩
 ·intro k d hd
  match k,hd with
  | 0,hd=>cases hd; exact ⟨w0,rfl,fun m hm=>by cases hm; exact S0⟩
  | 1,hd=>cases hd; exact ⟨y1,rfl,fun m hm=>by cases hm; exact Rep.mono (z2.trans z3) _ _ r1⟩
  | 2,hd=>cases hd; exact ⟨w4,rfl,fun m hm=>by cases hm; exact S4⟩
  | 3,hd=>cases hd; exact ⟨y2,rfl,fun m hm=>by cases hm; exact Rep.mono z3 _ _ r2⟩
  | 4,hd=>cases hd; exact ⟨y3,rfl,fun m hm=>by cases hm; exact r3⟩
  | n + 5,hd=>simp at hd
 ·intro d ρ4 v G4 H4 O4 hq hl z p frame args close
  obtain ⟨e0,e4',hos,hq⟩:=hq
  obtain ⟨u0,u1,u2,u3,u4,rfl⟩:∃ u0 u1 u2 u3 u4,ρ4=[u0,u1,u2,u3,u4]:=by
   match ρ4,hl with
   | [u0,u1,u2,u3,u4],_=>exact ⟨_,_,_,_,_,rfl⟩
  have hos : [u0,u2]=[some e0,some e4']:=hos
  cases hos
  have q0:=args 0 (2 * i) [kI] e0 w0 rfl rfl rfl
  have q4:=args 2 (2 * j) [kJ] e4' w4 rfl rfl rfl
  have fr:∀ a l τ,O3 a=some (l,τ)→l≠2 * i→l≠2 * j→O4 a=some (l,τ)∧H4 a=H3 a:=fun a l τ e n1 n2=>frame a _ e fun k l' π τ' hk he=>by
   have hl':l=l':=congrArg Prod.fst he
   subst hl'
   rcases hL hk with ⟨_,z1,_⟩ | ⟨_,z1,_⟩
   ·exact n1 z1
   ·exact n2 z1
  have last:∀ {a b:Nat} {τ τ':List Nat},τ++[a]=τ'++[b]→a=b:=fun {a b τ τ'} h=>by
   have:=congrArg List.getLast? h
   simpa using this
  have frI:∀ a τ m,m≠kI→O3 a=some (2 * i,τ++[m])→O4 a=some (2 * i,τ++[m])∧H4 a=H3 a:=fun a τ m hm e=>frame a _ e fun k l' π τ' hk he=>by
   have hl' : 2 * i=l':=congrArg Prod.fst he
   have hp' : τ++[m]=τ'++π:=congrArg Prod.snd he
   rcases hL hk with ⟨_,z1,z2⟩ | ⟨_,z1,_⟩
   ·rw [z2] at hp'; exact hm (last hp')
   ·exact hij (by omega)
  have frJ:∀ a τ m,m≠kJ→O3 a=some (2 * j,τ++[m])→O4 a=some (2 * j,τ++[m])∧H4 a=H3 a:=fun a τ m hm e=>frame a _ e fun k l' π τ' hk he=>by
   have hl' : 2 * j=l':=congrArg Prod.fst he
   have hp' : τ++[m]=τ'++π:=congrArg Prod.snd he
   rcases hL hk with ⟨_,z1,_⟩ | ⟨_,z1,z2⟩
   ·exact hij (by omega)
   ·rw [z2] at hp'; exact hm (last hp')
  have fA:O4 a=some (2 * i,[])∧H4 a=H3 a:=frame a _ A2 fun k l' π τ' hk he=>by
   have hp' : []=τ'++π:=congrArg Prod.snd he
   rcases hL hk with ⟨_,_,z2⟩ | ⟨_,_,z2⟩ <;> (rw [z2] at hp'; simp at hp')
  have fB:O4 b=some (2 * j,[])∧H4 b=H3 b:=frame b _ B2 fun k l' π τ' hk he=>by
   have hp' : []=τ'++π:=congrArg Prod.snd he
   rcases hL hk with ⟨_,_,z2⟩ | ⟨_,_,z2⟩ <;> (rw [z2] at hp'; simp at hp')
  refine kk d _ v G4 H4 hq (z1.trans (z2.trans (z3.trans z))) (kp1.trans (kp2.trans (kp3.trans fun m hm=>?_))) ⟨O4,close _ ?_ ?_ ?_ ?_⟩ p
  ·rw [List.getElem?_set_ne (fun zz=>hm (by rw [← zz]; exact hoj)),List.getElem?_set_ne (fun zz=>hm (by rw [← zz]; exact hoi))]
  ·rw [List.length_set,List.length_set]; exact ro3.len
  ·intro m d' c hd'
   rw [List.getElem?_set_ne (fun zz=>c (by rw [← zz]; exact hoj)),List.getElem?_set_ne (fun zz=>c (by rw [← zz]; exact hoi))] at hd'
   exact hd'
  ·intro m d' c hd'
   rcases a_ hd' with ⟨rfl,zz⟩ | ⟨hmj,hd'⟩
   ·cases zz
    refine ⟨.ref b,f1,?_⟩
    rw [Sep]
    refine ⟨b,ys,rfl,fB.1,by rw [fB.2,kB.2]; exact f3,?_⟩
    have:=jB (n:=0) (az.ts z) q4 (fun a τ m h e=>frJ a τ m h e) B5 (fun _=>gw4)
    rw [if_pos (Nat.zero_le _)] at this
    exact this
   ·rcases a_ hd' with ⟨rfl,zz⟩ | ⟨hmi,hd'⟩
    ·cases zz
     refine ⟨.ref a,g1,?_⟩
     rw [Sep]
     refine ⟨a,xs,rfl,fA.1,by rw [fA.2,kA.2]; exact g3,?_⟩
     have:=jB (n:=0) (az.ts z) q0 (fun a τ m h e=>frI a τ m h e) A5 (fun _=>gw0)
     rw [if_pos (Nat.zero_le _)] at this
     exact this
    ·obtain ⟨w,g1,g2⟩:=ro3.sl m d' hd'
     rw [if_pos c] at g2
     exact ⟨w,g1,g2.keep (az.ts z) fun a τ q=>fr a _ _ q (by omega) (by omega)⟩
  ·exact bg.keep (az.ts z) (fun a m π hm q=>fr a _ _ q (fun zz=>a8 zz.symm) (fun zz=>a8 zz.symm)) ro3.pn
end
end L2
namespace K69
open PySem L2
def top (i:Nat):Stmt:=PySem.Challenge.pw_treeasks_k69_gates_by_sizes.main.body.getD i (.Pass ⟨0,0,0,0⟩)
abbrev oM:Stmt:=top 9
abbrev s_q8:Stmt:=top 10
abbrev s_q0:Stmt:=top 14
abbrev s_q6:Stmt:=top 15
abbrev nQ:Stmt:=top 16
abbrev nz:Stmt:=top 17
abbrev pO:Stmt:=top 22
abbrev s_q3:Stmt:=top 23
abbrev s_q4:Stmt:=top 25
abbrev nZ:Stmt:=top 26
abbrev s_q7:Stmt:=top 27
abbrev pE:Stmt:=top 28
abbrev s_q5:Stmt:=top 30
abbrev oK:Stmt:=top 31
abbrev ph:Stmt:=top 32
abbrev pD:Stmt:=top 33
abbrev pV:Stmt:=top 34
abbrev pQ:Stmt:=top 35
abbrev s_q1:Stmt:=top 37
abbrev cq:Stmt:=cw (top 39) 0
abbrev bN:Stmt:=cw (top 39) 1
abbrev bx:Stmt:=cw (top 39) 2
abbrev e_:Stmt:=cw (top 39) 3
abbrev eV:Stmt:=cw (top 39) 4
abbrev fi:Stmt:=cw (top 39) 5
abbrev eX:Stmt:=cw (top 39) 6
abbrev cL:Stmt:=cw (top 39) 7
abbrev dM:Stmt:=cw (top 39) 8
abbrev o5:Stmt:=top 41
abbrev oI:Stmt:=top 42
abbrev oS:Stmt:=top 43
abbrev s_q9:Stmt:=top 44
abbrev pY:Stmt:=top 45
abbrev nV:Stmt:=top 46
abbrev oY:Stmt:=top 47
abbrev nO:Stmt:=top 48
abbrev pG:Stmt:=top 49
abbrev nD:Stmt:=top 50
abbrev s_q2:Stmt:=top 51
abbrev nF:Stmt:=top 52
abbrev pq:Stmt:=top 53
abbrev oq:Stmt:=top 54
set_option genInjectivity false in
structure Adr where
 f_q15:Addr
 d_q15:FuncData
 f_q8:Addr
 d_q8:FuncData
 f_q0:Addr
 d_q0:FuncData
 f_q6:Addr
 d_q6:FuncData
 f_q14:Addr
 d_q14:FuncData
 f_q13:Addr
 d_q13:FuncData
 f_q26:Addr
 d_q26:FuncData
 f_q3:Addr
 d_q3:FuncData
 f_q4:Addr
 d_q4:FuncData
 f_q34:Addr
 d_q34:FuncData
 f_q7:Addr
 d_q7:FuncData
 f_q33:Addr
 d_q33:FuncData
 f_q5:Addr
 d_q5:FuncData
 f_q32:Addr
 d_q32:FuncData
 f_q10:Addr
 d_q10:FuncData
 f_q22:Addr
 d_q22:FuncData
 f_q11:Addr
 d_q11:FuncData
 f_q37:Addr
 d_q37:FuncData
 f_q1:Addr
 d_q1:FuncData
 f_Gate___init__:Addr
 d_Gate___init__:FuncData
 f_Gate_is_too_wide:Addr
 d_Gate_is_too_wide:FuncData
 f_Gate_look_at_coming:Addr
 d_Gate_look_at_coming:FuncData
 f_q38_come:Addr
 d_q38_come:FuncData
 f_q38_load:Addr
 d_q38_load:FuncData
 f_q38_asks:Addr
 d_q38_asks:FuncData
 f_q38_kept:Addr
 d_q38_kept:FuncData
 f_Gate_is_dear:Addr
 d_Gate_is_dear:FuncData
 f_q38_prices:Addr
 d_q38_prices:FuncData
 f_q30:Addr
 d_q30:FuncData
 f_q31:Addr
 d_q31:FuncData
 f_q16:Addr
 d_q16:FuncData
 f_q9:Addr
 d_q9:FuncData
 f_q21:Addr
 d_q21:FuncData
 f_q28:Addr
 d_q28:FuncData
 f_q39:Addr
 d_q39:FuncData
 f_q36:Addr
 d_q36:FuncData
 f_q29:Addr
 d_q29:FuncData
 f_q17:Addr
 d_q17:FuncData
 f_q2:Addr
 d_q2:FuncData
 f_q27:Addr
 d_q27:FuncData
 f_q35:Addr
 d_q35:FuncData
 f_law:Addr
 d_law:FuncData
 c_q38:Addr
set_option genInjectivity false in
structure Txt (K:PySem.W.Frag) (mg:Str→Option Value) (A:Adr):Prop where
 t_q15:FT K mg "is_whole" oM ["thing"] A.f_q15 A.d_q15
 t_q8:FT K mg "is_between" s_q8 ["thing","least","most"] A.f_q8 A.d_q8
 t_q0:FT K mg "has_two_lists" s_q0 ["thing"] A.f_q0 A.d_q0
 t_q6:FT K mg "look_at_tree" s_q6 ["thing"] A.f_q6 A.d_q6
 t_q14:FT K mg "is_place" nQ ["tree","thing"] A.f_q14 A.d_q14
 t_q13:FT K mg "are_ends" nz ["tree","one","other"] A.f_q13 A.d_q13
 t_q26:FT K mg "is_ask" pO ["tree","thing"] A.f_q26 A.d_q26
 t_q3:FT K mg "look_at_asks" s_q3 ["tree","thing"] A.f_q3 A.d_q3
 t_q4:FT K mg "look_at_ends" s_q4 ["tree","one","other"] A.f_q4 A.d_q4
 t_q34:FT K mg "climb" nZ ["tree","one","other"] A.f_q34 A.d_q34
 t_q7:FT K mg "way_between" s_q7 ["tree","one","other"] A.f_q7 A.d_q7
 t_q33:FT K mg "way_of" pE ["tree","ask"] A.f_q33 A.d_q33
 t_q5:FT K mg "look_at_keep" s_q5 ["tree","asks","thing"] A.f_q5 A.d_q5
 t_q32:FT K mg "lay_on" oK ["ask","way","load"] A.f_q32 A.d_q32
 t_q10:FT K mg "load_with" ph ["tree","ask","load"] A.f_q10 A.d_q10
 t_q22:FT K mg "over_on" pD ["tree","ask","way","load"] A.f_q22 A.d_q22
 t_q11:FT K mg "over_with" pV ["tree","ask","load"] A.f_q11 A.d_q11
 t_q37:FT K mg "loads" pQ ["tree","asks","keep"] A.f_q37 A.d_q37
 t_q1:FT K mg "is_above_half" s_q1 ["tree","ask"] A.f_q1 A.d_q1
 t_Gate___init__:FM K A.c_q38 "__init__" "Gate.__init__" cq ["self","tree","by_sizes"] A.f_Gate___init__ A.d_Gate___init__
 t_Gate_is_too_wide:FM K A.c_q38 "is_too_wide" "Gate.is_too_wide" bN ["self","ask"] A.f_Gate_is_too_wide A.d_Gate_is_too_wide
 t_Gate_look_at_coming:FM K A.c_q38 "look_at_coming" "Gate.look_at_coming" bx ["self","ask"] A.f_Gate_look_at_coming A.d_Gate_look_at_coming
 t_q38_come:FM K A.c_q38 "come" "Gate.come" e_ ["self","ask"] A.f_q38_come A.d_q38_come
 t_q38_load:FM K A.c_q38 "load" "Gate.load" eV ["self"] A.f_q38_load A.d_q38_load
 t_q38_asks:FM K A.c_q38 "asks" "Gate.asks" fi ["self"] A.f_q38_asks A.d_q38_asks
 t_q38_kept:FM K A.c_q38 "kept" "Gate.kept" eX ["self"] A.f_q38_kept A.d_q38_kept
 t_Gate_is_dear:FM K A.c_q38 "is_dear" "Gate.is_dear" cL ["self","load","room"] A.f_Gate_is_dear A.d_Gate_is_dear
 t_q38_prices:FM K A.c_q38 "prices" "Gate.prices" dM ["self"] A.f_q38_prices A.d_q38_prices
 t_q30:FT K mg "_law_pool" o5 ["_law_script","_law_k"] A.f_q30 A.d_q30
 t_q31:FT K mg "_law_take" oI ["_law_pool_here","_law_many"] A.f_q31 A.d_q31
 t_q16:FT K mg "_law_number" oS ["_law_pool_here","_law_most"] A.f_q16 A.d_q16
 t_q9:FT K mg "_law_parents" s_q9 ["_law_pool_here","_law_most"] A.f_q9 A.d_q9
 t_q21:FT K mg "_law_rooms" pY ["_law_pool_here","_law_many","_law_least"] A.f_q21 A.d_q21
 t_q28:FT K mg "_law_ends" nV ["_law_pool_here","_law_many"] A.f_q28 A.d_q28
 t_q39:FT K mg "_law_up" oY ["_law_parents_here","_law_place"] A.f_q39 A.d_q39
 t_q36:FT K mg "_law_way" nO ["_law_parents_here","_law_ask_here"] A.f_q36 A.d_q36
 t_q29:FT K mg "_law_fits" pG ["_law_tree","_law_taken","_law_way_here","_law_size"] A.f_q29 A.d_q29
 t_q17:FT K mg "_law_prices" nD ["_law_tree","_law_taken","_law_sized"] A.f_q17 A.d_q17
 t_q2:FT K mg "_law_state_right" s_q2 ["_law_gate","_law_tree","_law_state","_law_sized"] A.f_q2 A.d_q2
 t_q27:FT K mg "_law_came" nF ["_law_gate","_law_tree","_law_state","_law_ask_here","_law_sized"] A.f_q27 A.d_q27
 t_q35:FT K mg "_law_ask" pq ["_law_pool_here","_law_tree"] A.f_q35 A.d_q35
 t_law:FT K mg "law" oq ["_law_script"] A.f_law A.d_law
 m_q38:mg "Gate" = some (.ref A.c_q38)
 k_q38:Cls K A.c_q38
 M_q38:Mk K A.c_q38 A.f_Gate___init__
 na_q38_tree:bD K A.c_q38 "tree"
 na_Gate_by_sizes:bD K A.c_q38 "by_sizes"
 na_q38_came:bD K A.c_q38 "came"
 na_q38_held:bD K A.c_q38 "held"
 z_any:mg "any" = none
 z_bool:mg "bool" = none
 z_enumerate:mg "enumerate" = none
 z_int:mg "int" = none
 z_isinstance:mg "isinstance" = none
 z_len:mg "len" = none
 z_list:mg "list" = none
 z_max:mg "max" = none
 z_min:mg "min" = none
 z_range:mg "range" = none
 z_sorted:mg "sorted" = none
 z_tuple:mg "tuple" = none
 z_zip:mg "zip" = none
 c_MOST_TIES:∃ t,mg "MOST_TIES" = some (.int 23 t)
 c_MOST_ROOM:∃ t,mg "MOST_ROOM" = some (.int 1000000 t)
 c_MOST_ASKS:∃ t,mg "MOST_ASKS" = some (.int 30 t)
 c_MOST_SIZE:∃ t,mg "MOST_SIZE" = some (.int 1000000 t)
 c_MOST_WORTH:∃ t,mg "MOST_WORTH" = some (.int 1000000000000 t)
theorem tq:FnScope ["thing"] ["thing"] (ah oM):=aP
theorem sc_q8:FnScope ["thing","least","most"] ["thing","least","most"] (ah s_q8):=aP
theorem sc_q0:FnScope ["thing","parents","rooms"] ["thing"] (ah s_q0):=aP
theorem sc_q6:FnScope ["thing","parents","rooms","number","parent","room"] ["thing"] (ah s_q6):=aP
theorem sq:FnScope ["tree","thing"] ["tree","thing"] (ah nQ):=aP
theorem su:FnScope ["tree","one","other"] ["tree","one","other"] (ah nz):=aP
theorem sf:FnScope ["tree","thing","one","other","size","worth"] ["tree","thing"] (ah pO):=aP
theorem sc_q3:FnScope ["tree","thing","number","ask"] ["tree","thing"] (ah s_q3):=aP
theorem sc_q4:FnScope ["tree","one","other"] ["tree","one","other"] (ah s_q4):=aP
theorem sI:FnScope ["tree","one","other","way","low"] ["tree","one","other"] (ah nZ):=aP
theorem sc_q7:FnScope ["tree","one","other","way","meeting"] ["tree","one","other"] (ah s_q7):=aP
theorem tZ:FnScope ["tree","ask"] ["tree","ask"] (ah pE):=aP
theorem sc_q5:FnScope ["tree","asks","thing","least","place","number"] ["tree","asks","thing"] (ah s_q5):=aP
theorem sw:FnScope ["ask","way","load","tie"] ["ask","way","load"] (ah oK):=aP
theorem sS:FnScope ["tree","ask","load","found"] ["tree","ask","load"] (ah ph):=aP
theorem sE:FnScope ["tree","ask","way","load"] ["tree","ask","way","load"] (ah pD):=aP
theorem tG:FnScope ["tree","ask","load"] ["tree","ask","load"] (ah pV):=aP
theorem tT:FnScope ["tree","asks","keep","found","number"] ["tree","asks","keep"] (ah pQ):=aP
theorem sc_q1:FnScope ["tree","ask"] ["tree","ask"] (ah s_q1):=aP
theorem gi:FnScope ["self","tree","by_sizes"] ["self","tree","by_sizes"] (ah cq):=aP
theorem eR:FnScope ["self","ask"] ["self","ask"] (ah bN):=aP
theorem dN:FnScope ["self","ask","number"] ["self","ask"] (ah bx):=aP
theorem ku:FnScope ["self","ask","one","other","size","worth","fits"] ["self","ask"] (ah e_):=aP
theorem jJ:FnScope ["self"] ["self"] (ah eV):=aP
theorem j7:FnScope ["self"] ["self"] (ah fi):=aP
theorem jS:FnScope ["self"] ["self"] (ah eX):=aP
theorem gK:FnScope ["self","load","room"] ["self","load","room"] (ah cL):=aP
theorem iC:FnScope ["self"] ["self"] (ah dM):=aP
theorem uw:FnScope ["_law_script","_law_k","_law_cell","_law_seed"] ["_law_script","_law_k"] (ah o5):=aP
theorem tz:FnScope ["_law_pool_here","_law_many","_law_found"] ["_law_pool_here","_law_many"] (ah oI):=aP
theorem sm:FnScope ["_law_pool_here","_law_most","_law_way_here"] ["_law_pool_here","_law_most"] (ah oS):=aP
theorem sc_q9:FnScope ["_law_pool_here","_law_most","_law_shape","_law_parents_here","_law_place","_law_up_here"] ["_law_pool_here","_law_most"] (ah s_q9):=aP
theorem tS:FnScope ["_law_pool_here","_law_many","_law_least","_law_most"] ["_law_pool_here","_law_many","_law_least"] (ah pY):=aP
theorem uo:FnScope ["_law_pool_here","_law_many","_law_one"] ["_law_pool_here","_law_many"] (ah nV):=aP
theorem sk:FnScope ["_law_parents_here","_law_place","_law_found"] ["_law_parents_here","_law_place"] (ah oY):=aP
theorem tW:FnScope ["_law_parents_here","_law_ask_here","_law_one","_law_other","_law_found"] ["_law_parents_here","_law_ask_here"] (ah nO):=aP
theorem sC:FnScope ["_law_tree","_law_taken","_law_way_here","_law_size"] ["_law_tree","_law_taken","_law_way_here","_law_size"] (ah pG):=aP
theorem tR:FnScope ["_law_tree","_law_taken","_law_sized","_law_found","_law_k","_law_full"] ["_law_tree","_law_taken","_law_sized"] (ah nD):=aP
theorem sc_q2:FnScope ["_law_gate","_law_tree","_law_state","_law_sized","_law_taken","_law_came_here","_law_kept_ones","_law_told_list"] ["_law_gate","_law_tree","_law_state","_law_sized"] (ah s_q2):=aP
theorem tX:FnScope ["_law_gate","_law_tree","_law_state","_law_ask_here","_law_sized","_law_taken","_law_came_here","_law_kept_ones","_law_way_here","_law_due","_law_found","_law_tie"] ["_law_gate","_law_tree","_law_state","_law_ask_here","_law_sized"] (ah nF):=aP
theorem ud:FnScope ["_law_pool_here","_law_tree","_law_one","_law_other","_law_half","_law_size"] ["_law_pool_here","_law_tree"] (ah pq):=aP
theorem sL:FnScope ["_law_script","_law_parents_here","_law_tree","_law_handed","_law_gates","_law_states","_law_k","_law_pool_here","_law_at"] ["_law_script"] (ah oq):=aP
section
variable {P:Program} {w:World} {K:PySem.W.Frag} {mg:Str→Option Value} {base:Heap} {A:Adr}
theorem r_ (T:Txt K mg A):FnOk P w K mg base CX0 1 A.f_q15 A.d_q15 ["thing"] (aQ [false] false (qc)):=by
 have S:=tq
 refine fnD T.t_q15.F S ⟨[false],[false],false⟩ _ ?hl rfl rfl fun cdv Ar outer s H E hr=>⟨_,(af (aK (eC (cH rfl T.z_isinstance aN (aa 0) (bV (v:=.ty "int") rfl T.z_int pW rfl)) (gj (s8 (cH rfl T.z_isinstance aN (aa 0) (bV (v:=.ty "bool") rfl T.z_bool jA rfl))))))),fun ds q h=>?_⟩
 case hl=>intro ds q h; obtain ⟨d,rfl,_⟩:=h; rfl
 obtain ⟨d,rfl,hs,q0⟩:=h
 cases d <;> first | exact q0 | cases hs
theorem iN (T:Txt K mg A):FnOk P w K mg base CX0 2 A.f_q8 A.d_q8 ["thing","least","most"] (aQ [false,false,false] false (mJ)):=by
 have S:=sc_q8
 refine fnD T.t_q8.F S ⟨[false,false,false],[false,false,false],false⟩ _ ?hl rfl rfl fun cdv Ar outer s H E hr=>⟨_,(af (aK (eC (ar (r_ T) hr T.t_q15 (ap (aa 0) ao)) (gj (kf l9 l9 dB dB (aa 1) (aa 0) (aa 2)))))),fun ds q h=>?_⟩
 case hl=>intro ds q h; obtain ⟨d,lo,hi,rfl,_⟩:=h; rfl
 obtain ⟨d,lo,hi,rfl,hs,q0⟩:=h
 refine ⟨d,rfl,hs,?_⟩
 cases d
 case int i =>
  refine (d9 (c:=decide (lo≤i)=true) (fun c=>?_) (fun c=>?_))
  ·have:btw lo hi (.int i)=decide (i≤hi):=by show (decide (lo≤i)&&decide (i≤hi))=_; rw [c,Bool.true_and]
   rw [this] at q0; exact q0
  ·have:btw lo hi (.int i)=false:=by show (decide (lo≤i)&&decide (i≤hi))=_; rw [Bool.eq_false_iff.mpr c,Bool.false_and]
   rw [this] at q0; exact q0
 all_goals first | exact q0 | cases hs
theorem ok_q0 (T:Txt K mg A):FnOk P w K mg base CX0 1 A.f_q0 A.d_q0 ["thing"] (aQ [false] false (tm)):=by
 have S:=sc_q0
 refine fnD T.t_q0.F S ⟨[false],[false,false,false],false⟩ _ ?hl rfl rfl fun cdv Ar outer s H E hr=>⟨_,(ad (aY (QW.qt (h7 (bw (aV (cH rfl T.z_isinstance aN (aa 0) (bV (v:=.ty "tuple") rfl T.z_tuple j_ rfl)))) (fh (aX (cE hr.units) dNe (aF aD dz rfl T.z_len bq (ae (aa 0) aj)) ac (aL _))))) (af (aK ci)) aG)
  (ad (gk (aa 0) (cW rfl (aJ (aH (i:=1) S.nd rfl (Or.inl rfl)) (aJ (aH (i:=2) S.nd rfl (Or.inl rfl)) cb)) (aq (aq ba))))
  (ad (aY (QW.qt (h7 (bw (aV (cH rfl T.z_isinstance aN (aa 1) (bV (v:=.ty "list") rfl T.z_list bM rfl)))) (fh (bw (aV (cH rfl T.z_isinstance aN (aa 2) (bV (v:=.ty "list") rfl T.z_list bM rfl))))))) (af (aK ci)) aG)
  (af (aK (eC (cK (cC hr.units) dEq (aF aD dz rfl T.z_len bq (ae (aa 1) aj)) (aF aD dz rfl T.z_len bq (ae (aa 2) aj)) (aL _)) (gj (kf l9 l9 dB dB ac (aF aD dz rfl T.z_len bq (ae (aa 1) aj)) (db (i:=23) rfl T.c_MOST_TIES))))))))),fun ds q h=>?_⟩
 case hl=>intro ds q h; obtain ⟨ps,rs,rfl,_⟩:=h; rfl
 obtain ⟨ps,rs,rfl,hT,q0⟩:=h
 have l1:((ps.map D.int).length:Int)=ps.length:=by rw [List.length_map]
 have l2:((rs.map D.int).length:Int)=rs.length:=by rw [List.length_map]
 have h1:=hT.len
 have h2:=hT.lo
 have h3:=hT.hi
 refine (d9 (c:=decide (((ps.map D.int).length:Int)=((rs.map D.int).length:Int))=true) (fun c=>?_) (fun c=>?_))
 ·refine (d9 (c:=decide ((1:Int)≤((ps.map D.int).length:Int))=true) (fun c=>?_) (fun c=>?_))
  ·show q (.bl (decide (((ps.map D.int).length:Int)≤23))) []
   rw [decide_eq_true (by omega)]; exact q0
  ·exact absurd (decide_eq_true (by omega)) c
 ·exact absurd (decide_eq_true (by omega)) c
theorem oG (T:Txt K mg A):FnOk P w K mg base CX0 3 A.f_q6 A.d_q6 ["thing"] (aQ [false] false (sX)):=by
 have S:=sc_q6
 refine fnD T.t_q6.F S ⟨[false],[false,false,false,false,false,false],false⟩ _ ?hl rfl rfl fun cdv Ar outer s H E hr=>⟨_,(ad (aY (bw (aV (ar (ok_q0 T) hr T.t_q0 (ap (aa 0) ao)))) (af bA) aG)
  (ad (gk (aa 0) (cW rfl (aJ (aH (i:=1) S.nd rfl (Or.inl rfl)) (aJ (aH (i:=2) S.nd rfl (Or.inl rfl)) cb)) (aq (aq ba))))
  (ad (cF PassesOwn.never rfl (gX rfl T.z_enumerate (ae (aa 1) aj)) (cW rfl (aJ (aH (i:=3) S.nd rfl (Or.inl rfl)) (aJ (aH (i:=4) S.nd rfl (Or.inl rfl)) cb)) (aq (aq ba))) (af (aY (bw (aV (ar (iN T) hr T.t_q8 (ap (aa 4) (ap ac (ap (aa 3) ao)))))) (af bA) aG)))
  (af (cF PassesOwn.never rfl (gX rfl T.z_enumerate (ae (aa 2) aj)) (cW rfl (aJ (aH (i:=3) S.nd rfl (Or.inl rfl)) (aJ (aH (i:=5) S.nd rfl (Or.inl rfl)) cb)) (aq (aq ba))) (af (aY (bw (aV (ar (iN T) hr T.t_q8 (ap (aa 5) (ap ac (ap (db (i:=1000000) rfl T.c_MOST_ROOM) ao)))))) (af bA) aG))))))),fun ds q h=>?_⟩
 case hl=>intro ds q h; obtain ⟨ps,rs,rfl,_⟩:=h; rfl
 obtain ⟨ps,rs,rfl,hT,q0⟩:=h
 refine ⟨ps,rs,rfl,hT,?_⟩
 refine ⟨fun _ ρ=>∃ v1 v2 v3,ρ=[some (aR ps rs),some (ai ps),some (ai rs),v1,v2,v3],⟨_,_,_,rfl⟩,?_,?_⟩
 ·rintro i d ρ hd ⟨v1,v2,v3,rfl⟩
  obtain ⟨d',h1,rfl⟩:=fP hd
  obtain ⟨z,hz,rfl⟩:=d8 h1
  have hb:=hT.par i z hz
  refine ⟨.int z,0,(i:Int),rfl,rfl,?_⟩
  rw [dL hb.1 hb.2]
  exact ⟨_,_,_,rfl⟩
 ·rintro ρ ⟨v1,v2,v3,rfl⟩
  refine ⟨fun _ ρ=>∃ v1 v2 v3,ρ=[some (aR ps rs),some (ai ps),some (ai rs),v1,v2,v3],⟨_,_,_,rfl⟩,?_,?_⟩
  ·rintro i d ρ hd ⟨v1,v2,v3,rfl⟩
   obtain ⟨d',h1,rfl⟩:=fP hd
   obtain ⟨z,hz,rfl⟩:=d8 h1
   have hb:=hT.room i z hz
   refine ⟨.int z,1,1000000,rfl,rfl,?_⟩
   rw [dL hb.1 hb.2]
   exact ⟨_,_,_,rfl⟩
  ·rintro ρ ⟨v1,v2,v3,rfl⟩
   exact q0
theorem pN (T:Txt K mg A):FnOk P w K mg base CX0 3 A.f_q14 A.d_q14 ["tree","thing"] (aQ [false,false] false (qQ)):=by
 have S:=sq
 refine fnD T.t_q14.F S ⟨[false,false],[false,false],false⟩ _ ?hl rfl rfl fun cdv Ar outer s H E hr=>⟨_,(af (aK (ar (iN T) hr T.t_q8 (ap (aa 1) (ap ac (ap (aF aD dz rfl T.z_len bq (ae (aE av dIx (aa 0) ac (fun _ _=>rfl)) aj)) ao)))))),fun ds q h=>?_⟩
 case hl=>intro ds q h; obtain ⟨ps,rs,d,rfl,_⟩:=h; rfl
 obtain ⟨ps,rs,d,rfl,hs,q0⟩:=h
 refine ⟨d,0,((ps.map D.int).length:Int),rfl,hs,?_⟩
 rw [List.length_map]; exact q0
theorem n_ (T:Txt K mg A):FnOk P w K mg base CX0 4 A.f_q13 A.d_q13 ["tree","one","other"] (aQ [false,false,false] false (s_)):=by
 have S:=su
 refine fnD T.t_q13.F S ⟨[false,false,false],[false,false,false],false⟩ _ ?hl rfl rfl fun cdv Ar outer s H E hr=>⟨_,(af (aK (eC (ar (pN T) hr T.t_q14 (ap (aa 0) (ap (aa 1) ao))) (eC (ar (pN T) hr T.t_q14 (ap (aa 0) (ap (aa 2) ao))) (gj (cK (cE hr.units) dNe (aa 1) (aa 2) (aL _))))))),fun ds q h=>?_⟩
 case hl=>intro ds q h; obtain ⟨ps,rs,a,b,rfl,_⟩:=h; rfl
 obtain ⟨ps,rs,a,b,rfl,he,q0⟩:=h
 refine ⟨ps,rs,.int a,rfl,rfl,?_⟩
 rw [dL he.a0 he.a1]
 refine ⟨ps,rs,.int b,rfl,rfl,?_⟩
 rw [dL he.b0 he.b1]
 have:(!decide (a=b))=true:=by simp [he.ne]
 show q (.bl (!decide (a=b))) []
 rw [this]; exact q0
theorem pF (T:Txt K mg A):FnOk P w K mg base CX0 5 A.f_q26 A.d_q26 ["tree","thing"] (aQ [false,false] false (qh)):=by
 have S:=sf
 refine fnD T.t_q26.F S ⟨[false,false],[false,false,false,false,false,false],false⟩ _ ?hl rfl rfl fun cdv Ar outer s H E hr=>⟨_,(ad (aY (QW.qt (h7 (bw (aV (cH rfl T.z_isinstance aN (aa 1) (bV (v:=.ty "tuple") rfl T.z_tuple j_ rfl)))) (fh (aX (cE hr.units) dNe (aF aD dz rfl T.z_len bq (ae (aa 1) aj)) ac (aL _))))) (af (aK ci)) aG)
  (ad (gk (aa 1) (cW rfl (aJ (aH (i:=2) S.nd rfl (Or.inl rfl)) (aJ (aH (i:=3) S.nd rfl (Or.inl rfl)) (aJ (aH (i:=4) S.nd rfl (Or.inl rfl)) (aJ (aH (i:=5) S.nd rfl (Or.inl rfl)) cb)))) (aq (aq (aq (aq ba))))))
  (af (aK (eC (ar (n_ T) hr T.t_q13 (ap (aa 0) (ap (aa 2) (ap (aa 3) ao)))) (eC (ar (iN T) hr T.t_q8 (ap (aa 4) (ap ac (ap (db (i:=1000000) rfl T.c_MOST_SIZE) ao)))) (gj (ar (iN T) hr T.t_q8 (ap (aa 5) (ap ac (ap (db (i:=1000000000000) rfl T.c_MOST_WORTH) ao))))))))))),fun ds q h=>?_⟩
 case hl=>intro ds q h; obtain ⟨ps,rs,a,rfl,_⟩:=h; rfl
 obtain ⟨ps,rs,a,rfl,ha,q0⟩:=h
 refine ⟨ps,rs,a.one,a.other,rfl,ha.ends,?_⟩
 refine ⟨.int a.size,1,1000000,rfl,rfl,?_⟩
 rw [dL ha.s0 ha.s1]
 refine ⟨.int a.worth,1,1000000000000,rfl,rfl,?_⟩
 rw [dL ha.w0 ha.w1]
 exact q0
theorem ok_q3 (T:Txt K mg A):FnOk P w K mg base CX0 6 A.f_q3 A.d_q3 ["tree","thing"] (aQ [false,false] false (lD)):=by
 have S:=sc_q3
 refine fnD T.t_q3.F S ⟨[false,false],[false,false,false,false],false⟩ _ ?hl rfl rfl fun cdv Ar outer s H E hr=>⟨_,(ad (cV (ar (oG T) hr T.t_q6 (ap (aa 0) ao)))
  (ad (aY (QW.qt (h7 (bw (aV (cH rfl T.z_isinstance aN (aa 1) (bV (v:=.ty "list") rfl T.z_list bM rfl)))) (fh (aX gJ dB (aF aD dz rfl T.z_len bq (ae (aa 1) aj)) (db (i:=30) rfl T.c_MOST_ASKS) (aL _))))) (af bA) aG)
  (af (cF PassesOwn.never rfl (gX rfl T.z_enumerate (ae (aa 1) aj)) (cW rfl (aJ (aH (i:=2) S.nd rfl (Or.inl rfl)) (aJ (aH (i:=3) S.nd rfl (Or.inl rfl)) cb)) (aq (aq ba))) (af (aY (bw (aV (ar (pF T) hr T.t_q26 (ap (aa 0) (ap (aa 3) ao))))) (af bA) aG)))))),fun ds q h=>?_⟩
 case hl=>intro ds q h; obtain ⟨ps,rs,as,rfl,_⟩:=h; rfl
 obtain ⟨ps,rs,as,rfl,hT,ha,q0⟩:=h
 refine ⟨ps,rs,rfl,hT,?_⟩
 refine (d9 (c:=decide ((30:Int)<((as.map bv).length:Int))=true) (fun c=>?_) (fun c=>?_))
 ·have:=ha.len; rw [bT] at c; simp at c; omega
 refine ⟨fun _ ρ=>∃ v1 v2,ρ=[some (aR ps rs),some (bu as),v1,v2],⟨_,_,rfl⟩,?_,?_⟩
 ·rintro i d ρ hd ⟨v1,v2,rfl⟩
  obtain ⟨d',h1,rfl⟩:=fP hd
  obtain ⟨z,hz,rfl⟩:=qM h1
  refine ⟨ps,rs,z,rfl,ha.ok z (List.mem_of_getElem? hz),?_⟩
  exact ⟨_,_,rfl⟩
 ·rintro ρ ⟨v1,v2,rfl⟩
  exact q0
theorem ok_q4 (T:Txt K mg A):FnOk P w K mg base CX0 5 A.f_q4 A.d_q4 ["tree","one","other"] (aQ [false,false,false] false (lg)):=by
 have S:=sc_q4
 refine fnD T.t_q4.F S ⟨[false,false,false],[false,false,false],false⟩ _ ?hl rfl rfl fun cdv Ar outer s H E hr=>⟨_,(ad (cV (ar (oG T) hr T.t_q6 (ap (aa 0) ao)))
  (af (aY (bw (aV (ar (n_ T) hr T.t_q13 (ap (aa 0) (ap (aa 1) (ap (aa 2) ao)))))) (af bA) aG))),fun ds q h=>?_⟩
 case hl=>intro ds q h; obtain ⟨ps,rs,a,b,rfl,_⟩:=h; rfl
 obtain ⟨ps,rs,a,b,rfl,hT,he,q0⟩:=h
 refine ⟨ps,rs,rfl,hT,?_⟩
 exact ⟨ps,rs,a,b,rfl,he,q0⟩
theorem uf (T:Txt K mg A):FnOk P w K mg base CX0 1 A.f_q34 A.d_q34 ["tree","one","other"] (aQ [false,false,false] true (qZ)):=by
 have S:=sI
 refine fnD T.t_q34.F S ⟨[false,false,false],[false,false,false,true,false],true⟩ _ ?hl rfl rfl fun cdv Ar outer s H E hr=>⟨_,(ad (cR (i:=3) S.nd rfl (Or.inl rfl) (cO aj))
  (ad (jL PassesOwn.never (aX (cE hr.units) dNe (aa 1) (aa 2) (aL _)) (ad (aT (i:=4) S.nd rfl (Or.inl rfl) (aF (i9 rfl) dMax rfl T.z_max o_ (ae (aa 1) (ae (aa 2) aj))))
  (ad (b8 (i:=3) rfl (QE.qf (aa 4)))
  (af (sT (i:=1) (j:=2) rfl S.nd rfl rfl (by decide) rfl rfl (aF (de rfl) nE rfl T.z_min gx (ae (aa 1) (ae (aa 2) aj))) (aE av dIx (aE av dIx (aa 0) ac (fun _ _=>rfl)) (aB bz dI (aa 4) ac) (fun _ _=>rfl)) rfl)))))
  (af (bd (ix (aS (QF.qm (QF.bor [3] (j6 fq pK rfl T.z_sorted iI (ae (aa 3) aj)))) (aS (QF.qm (QE.qf (aa 1))) cQ))))))),fun ds q h=>?_⟩
 case hl=>intro ds q h; obtain ⟨ps,rs,a,b,rfl,_⟩:=h; rfl
 obtain ⟨ps,rs,a,b,rfl,hT,a0,a1,b0,b1,q0⟩:=h
 refine ⟨rfl,?_⟩
 refine ⟨fun k ρ=>∃ a' b' acc v,ρ=[some (aR ps rs),some (.int a'),some (.int b'),some (ai acc),v]∧0≤a'∧a'≤ps.length∧0≤b'∧b'≤ps.length∧k=(a' + b').toNat∧acc.length + (a' + b').toNat≤46∧(∀ w m,Climb ps a' b' w m→Climb ps a b (acc++w) m),⟨_,a,b,[],_,rfl,a0,a1,b0,b1,rfl,by have:=hT.hi; simp; omega,fun w m h=>h⟩,?_⟩
 rintro k ρ ⟨a',b',acc,v,rfl,a0',a1',b0',b1',rfl,hl,hc⟩
 have hi:=hT.hi
 refine (d9 (c:=(!decide (a'=b'))=true) (fun c=>?_) (fun c=>?_))
 ·have hne:a'≠b':=by simpa using c
  have key:∀ (low hig:Int),low=(if b' > a' then b' else a')→hig=(if b'<a' then b' else a')→0<low∧low≤ps.length∧0≤hig∧hig≤ps.length∧low + hig=a' + b'∧(∀ w m,Climb ps hig (dH ps low) w m→Climb ps a' b' (low :: w) m):=by
   intro low hig e1 e2
   by_cases hlt:b'<a'
   ·rw [if_neg (by omega)] at e1; rw [if_pos hlt] at e2; subst e1; subst e2
    exact ⟨by omega,a1',b0',b1',by omega,fun w m h=>.left hlt h⟩
   ·rw [if_pos (by omega)] at e1; rw [if_neg hlt] at e2; subst e1; subst e2
    exact ⟨by omega,b1',a0',a1',by omega,fun w m h=>.right (by omega) h⟩
  obtain ⟨L,hL⟩:∃ L,L=(if b' > a' then b' else a'):=⟨_,rfl⟩
  obtain ⟨J,hJ⟩:∃ J,J=(if b'<a' then b' else a'):=⟨_,rfl⟩
  obtain ⟨k1,k2,k3,k4,k5,k6⟩:=key L J hL hJ
  clear key
  have hp:=hT.up k1 k2
  refine ⟨rfl,?_⟩
  refine ⟨by show (acc.map D.int).length<1000; rw [List.length_map]; clear hL hJ; omega,?_⟩
  refine a6 (bc (by rw [← hL]; clear hL hJ; omega) (by rw [← hL]; clear hL hJ; omega)) ?_
  refine ⟨(J + dH ps L).toNat,by clear hL hJ; omega,J,dH ps L,acc++[L],some (.int L),?_,k3,k4,hp.1,by clear hL hJ; omega,rfl,by rw [List.length_append]; show acc.length + 1 + _≤46; clear hL hJ; omega,fun w m h=>by rw [List.append_assoc]; exact hc _ _ (k6 _ _ h)⟩
  show [some (aR ps rs),some (.int (if b'<a' then b' else a')),some (.int (dH ps (if b' > a' then b' else a'))),some (D.lst (acc.map D.int++[D.int (if b' > a' then b' else a')])),some (.int (if b' > a' then b' else a'))]=_
  rw [← hL,← hJ,ai,List.map_append]; rfl
 ·have:a'=b':=by simpa using c
  subst this
  have hw:=hc [] a' (.same a')
  rw [List.append_nil] at hw
  have hln:=hw.len hT a0 b0 a1 b1
  refine ⟨acc,rfl,by omega,aZ _,rfl,?_⟩
  exact q0 acc a' hw
theorem ok_q7 (T:Txt K mg A):FnOk P w K mg base CX0 6 A.f_q7 A.d_q7 ["tree","one","other"] (aQ [false,false,false] true (sdWay)):=by
 have S:=sc_q7
 refine fnD T.t_q7.F S ⟨[false,false,false],[false,false,false,true,false],true⟩ _ ?hl rfl rfl fun cdv Ar outer s H E hr=>⟨_,(ad (cV (ar (ok_q4 T) hr T.t_q4 (ap (aa 0) (ap (aa 1) (ap (aa 2) ao)))))
  (ad (qD rfl (QF.qm (aO (uf T) hr T.t_q34 (ap (aa 0) (ap (aa 1) (ap (aa 2) ao))))) (qN (i:=3) S.nd rfl (Or.inl rfl) (tu (i:=4) S.nd rfl (Or.inl rfl) qJ)) (aq (aq ba)))
  (af (bd (eL 3))))),fun ds q h=>?_⟩
 case hl=>intro ds q h; obtain ⟨ps,rs,a,b,rfl,_⟩:=h; rfl
 obtain ⟨ps,rs,a,b,rfl,hT,he,q0⟩:=h
 refine ⟨ps,rs,a,b,rfl,hT,he,?_⟩
 refine ⟨ps,rs,a,b,rfl,hT,he.a0,he.a1,he.b0,he.b1,fun w m hw=>?_⟩
 exact q0 w m hw
theorem k7 (T:Txt K mg A):FnOk P w K mg base CX0 7 A.f_q33 A.d_q33 ["tree","ask"] (aQ [false,false] true (qx)):=by
 have S:=tZ
 refine fnD T.t_q33.F S ⟨[false,false],[false,false],true⟩ _ ?hl rfl rfl fun cdv Ar outer s H E hr=>⟨_,(af (bd (QF.qm (aO (ok_q7 T) hr T.t_q7 (ap (aa 0) (ap (aE av dIx (aa 1) ac (fun _ _=>rfl)) (ap (aE av dIx (aa 1) ac (fun _ _=>rfl)) ao))))))),fun ds q h=>?_⟩
 case hl=>intro ds q h; obtain ⟨ps,rs,a,rfl,_⟩:=h; rfl
 obtain ⟨ps,rs,a,rfl,hT,he,q0⟩:=h
 refine ⟨ps,rs,a.one,a.other,rfl,hT,he,fun w m hw=>?_⟩
 rw [(hw.way hT he.a0 he.b0 he.a1 he.b1).1]
 exact q0
theorem ok_q5 (T:Txt K mg A):FnOk P w K mg base CX0 7 A.f_q5 A.d_q5 ["tree","asks","thing"] (aQ [false,false,false] false (lm)):=by
 have S:=sc_q5
 refine fnD T.t_q5.F S ⟨[false,false,false],[false,false,false,false,false,false],false⟩ _ ?hl rfl rfl fun cdv Ar outer s H E hr=>⟨_,(ad (cV (ar (ok_q3 T) hr T.t_q3 (ap (aa 0) (ap (aa 1) ao))))
  (ad (aY (bw (aV (cH rfl T.z_isinstance aN (aa 2) (bV (v:=.ty "list") rfl T.z_list bM rfl)))) (af bA) aG)
  (ad (aT (i:=3) S.nd rfl (Or.inl rfl) ac)
  (af (cF PassesOwn.never rfl (gX rfl T.z_enumerate (ae (aa 2) aj)) (cW rfl (aJ (aH (i:=4) S.nd rfl (Or.inl rfl)) (aJ (aH (i:=5) S.nd rfl (Or.inl rfl)) cb)) (aq (aq ba))) (ad (aY (bw (aV (ar (iN T) hr T.t_q8 (ap (aa 5) (ap (aa 3) (ap (aB bz dI (aF aD dz rfl T.z_len bq (ae (aa 1) aj)) ac) ao)))))) (af bA) aG)
  (af (aT (i:=3) S.nd rfl (Or.inl rfl) (aB bo dI (aa 5) ac))))))))),fun ds q h=>?_⟩
 case hl=>intro ds q h; obtain ⟨ps,rs,as,ks,rfl,_⟩:=h; rfl
 obtain ⟨ps,rs,as,ks,rfl,hT,ha,hk,q0⟩:=h
 refine ⟨ps,rs,as,rfl,hT,ha,?_⟩
 refine ⟨fun i ρ=>∃ (l:Int) (v1 v2:Option D),ρ=[some (aR ps rs),some (bu as),some (ai ks),some (.int l),v1,v2]∧0≤l∧∀ (j:Nat) (x:Int),i≤j→ks[j]? = some x→l≤x,⟨0,_,_,rfl,Int.le_refl 0,fun j x _ e=>(hk.lo x (List.mem_of_getElem? e)).1⟩,?_,?_⟩
 ·rintro i d ρ hd ⟨l,v1,v2,rfl,l0,hl⟩
  obtain ⟨d',h1,rfl⟩:=fP hd
  obtain ⟨z,hz,rfl⟩:=d8 h1
  have hz1:=hk.lo z (List.mem_of_getElem? hz)
  refine ⟨.int z,l,((as.map bv).length:Int) - 1,rfl,rfl,?_⟩
  rw [dL (hl i z (Nat.le_refl _) hz) (by rw [bT]; omega)]
  refine ⟨z + 1,_,_,rfl,by omega,fun j x hj e=>?_⟩
  have hlt:=List.getElem?_eq_some_iff.mp hz
  have hlt2:=List.getElem?_eq_some_iff.mp e
  have:=List.pairwise_iff_getElem.mp hk.up i j hlt.1 hlt2.1 (by omega)
  rw [hlt.2,hlt2.2] at this
  omega
 ·rintro ρ ⟨l,v1,v2,rfl,_,_⟩
  exact q0
def rf:SpD:=fun ds q=>∃ a w l,ds=[bv a,ai w,ai l]∧(∀ t∈w,0<t∧t≤(l.length:Int))∧q .non [some (ai (cY l w a.size))]
theorem sy (T:Txt K mg A):FnOk P w K mg base CX0 1 A.f_q32 A.d_q32 ["ask","way","load"] (aQ [false,false,true] false (rf)):=by
 have S:=sw
 refine fnD T.t_q32.F S ⟨[false,false,true],[false,false,true,false],false⟩ _ ?hl rfl rfl fun cdv Ar outer s H E hr=>⟨_,(af (cF PassesOwn.never rfl (bS (aa 1)) (aH (i:=3) S.nd rfl (Or.inl rfl)) (af (qH (i:=2) rfl (aE av dIx (aa 0) ac (fun _ _=>rfl)) (aB bz dI (aa 3) ac))))),fun ds q h=>?_⟩
 case hl=>intro ds q h; obtain ⟨a,w,l,rfl,_⟩:=h; rfl
 obtain ⟨a,w,l,rfl,hw,q0⟩:=h
 refine ⟨fun i ρ=>∃ v,ρ=[some (bv a),some (ai w),some (ai (cY l (w.take i) a.size)),v],⟨_,rfl⟩,?_,?_⟩
 ·rintro i d ρ hd ⟨v,rfl⟩
  obtain ⟨z,hz,rfl⟩:=d8 hd
  have hm:=hw z (List.mem_of_getElem? hz)
  have hlen:(cY l (w.take i) a.size).length=l.length:=fQ _ _ _
  refine ⟨by omega,?_⟩
  rw [bc (by omega) (by omega)]
  show (match ixN ((cY l (w.take i) a.size).map D.int).length (z - 1) with | some _=>_ | none=>False)
  rw [aw,jw (by omega) (by omega)]
  refine ⟨some (.int z),?_⟩
  rw [List.take_add_one,hz]
  show _=[_,_,some (ai (cY l (_++[z]) a.size)),_]
  rw [iT,iB,← iX]; rfl
 ·rintro ρ ⟨v,rfl⟩
  rw [aw,List.take_length]
  exact q0
theorem r6 (T:Txt K mg A):FnOk P w K mg base CX0 8 A.f_q10 A.d_q10 ["tree","ask","load"] (aQ [false,false,false] true (lj)):=by
 have S:=sS
 refine fnD T.t_q10.F S ⟨[false,false,false],[false,false,false,true],true⟩ _ ?hl rfl rfl fun cdv Ar outer s H E hr=>⟨_,(ad (cR (i:=3) S.nd rfl (Or.inl rfl) (b5 br hE rfl T.z_list bM (ae (aa 2) aj)))
  (ad (cV (ar (sy T) hr T.t_q32 (ap (aa 1) (ap (QF.qe (aO (k7 T) hr T.t_q33 (ap (aa 0) (ap (aa 1) ao)))) (dF 3 ao)))))
  (af (bd (eL 3))))),fun ds q h=>?_⟩
 case hl=>intro ds q h; obtain ⟨ps,rs,a,l,rfl,_⟩:=h; rfl
 obtain ⟨ps,rs,a,l,rfl,hT,he,hl,q0⟩:=h
 refine ⟨aZ _,?_⟩
 refine ⟨ps,rs,a,rfl,hT,he,?_⟩
 refine ⟨a,aM ps a,l,rfl,fun t ht=>?_,q0⟩
 have hm:=cA hT he ht
 rw [hl]; exact ⟨by omega,by omega⟩
theorem tE (T:Txt K mg A):FnOk P w K mg base CX0 9 A.f_q37 A.d_q37 ["tree","asks","keep"] (aQ [false,false,false] true (p_)):=by
 have S:=tT
 refine fnD T.t_q37.F S ⟨[false,false,false],[false,false,false,true,false],true⟩ _ ?hl rfl rfl fun cdv Ar outer s H E hr=>⟨_,(ad (cV (ar (ok_q5 T) hr T.t_q5 (ap (aa 0) (ap (aa 1) (ap (aa 2) ao)))))
  (ad (cR (i:=3) S.nd rfl (Or.inl rfl) (ny k9 dRep (em (ae ac aj)) (aF aD dz rfl T.z_len bq (ae (aE av dIx (aa 0) ac (fun _ _=>rfl)) aj))))
  (ad (cF PassesOwn.never rfl (bS (aa 2)) (aH (i:=4) S.nd rfl (Or.inl rfl)) (af (cR (i:=3) S.nd rfl (Or.inl rfl) (QF.bor [3] (aO (r6 T) hr T.t_q10 (ap (aa 0) (ap (aE av dIx (aa 1) (aa 4) (fun _ _=>rfl)) (ap (aa 3) ao))))))))
  (af (bd (eL 3)))))),fun ds q h=>?_⟩
 case hl=>intro ds q h; obtain ⟨ps,rs,as,ks,rfl,_⟩:=h; rfl
 obtain ⟨ps,rs,as,ks,rfl,hT,ha,hk,q0⟩:=h
 have hi:=hT.hi
 refine ⟨ps,rs,as,ks,rfl,hT,ha,hk,?_⟩
 refine ⟨⟨by rw [aw]; omega,by rw [aw]; omega,by rw [aw]; simp; omega⟩,?_⟩
 rw [aw,kd,show Int.toNat ((ps.length:Nat):Int)=ps.length by omega,iW]
 refine ⟨aZ _,?_⟩
 refine ⟨fun i ρ=>∃ v,ρ=[some (aR ps rs),some (bu as),some (ai ks),some (ai (ay ps as (ks.take i))),v],⟨_,rfl⟩,?_,?_⟩
 ·rintro i d ρ hd ⟨v,rfl⟩
  obtain ⟨z,hz,rfl⟩:=d8 hd
  have hz1:=hk.lo z (List.mem_of_getElem? hz)
  refine a6 (p6 hz1.1 hz1.2) ?_
  have hmem:=ky (as:=as) (k:=z.toNat) (by omega)
  refine ⟨ps,rs,as.getD z.toNat lB,ay ps as (ks.take i),rfl,hT,(ha.ok _ hmem).ends,bO _ _ _,?_⟩
  refine ⟨some (.int z),?_⟩
  rw [List.take_add_one,hz]
  show _=[_,_,_,some (ai (ay ps as (_++[z]))),_]
  rw [dZ]; rfl
 ·rintro ρ ⟨v,rfl⟩
  rw [aw,List.take_length]
  exact q0
end
end K69
namespace K69
open PySem L2
section
variable {P:Program} {w:World} {K:PySem.W.Frag} {mg:Str→Option Value} {base:Heap} {A:Adr}
theorem ok_q1 (T:Txt K mg A):FnOk P w K mg base CX0 8 A.f_q1 A.d_q1 ["tree","ask"] (aQ [false,false] false (uC)):=by
 have S:=sc_q1
 refine fnD T.t_q1.F S ⟨[false,false],[false,false],false⟩ _ ?hl rfl rfl fun cdv Ar outer s H E hr=>⟨_,(af (aK (aF (ni rfl) dAny rfl T.z_any tM (ae (eK ["tie"] [1,0] ⟨rfl,rfl,by decide +kernel,rfl,rfl,(by first | exact trivial | exact ⟨rfl,trivial⟩ | exact ⟨rfl,rfl,trivial⟩ | exact ⟨rfl,rfl,rfl,trivial⟩ | exact ⟨rfl,rfl,rfl,rfl,trivial⟩),rfl⟩ rfl (bS (QF.qe (aO (k7 T) hr T.t_q33 (ap (aa 0) (ap (aa 1) ao))))) (ce 0) (fun _ _ _ _=>⟨(a9 (i:=0) (show List.Nodup (["tie","ask","tree"]:List Str) by decide +kernel) rfl (Or.inl rfl)),fG,(cK gJ dB (aB dA dIC ac (aE av dIx (aa 1) ac (fun _ _=>rfl))) (aE av dIx (aE av dIx (aa 2) ac (fun _ _=>rfl)) (aB bz dI (aa 0) ac) (fun _ _=>rfl)) (aL _))⟩)) aj)))),fun ds q h=>?_⟩
 case hl=>intro ds q h; obtain ⟨ps,rs,a,rfl,_⟩:=h; rfl
 obtain ⟨ps,rs,a,rfl,hT,ha,q0⟩:=h
 have hlr:=hT.len
 refine ⟨ps,rs,a,rfl,hT,ha.ends,?_⟩
 refine ⟨by rw [aw]; exact Nat.le_trans (eM hT ha.ends) (by decide),?_⟩
 refine gg (rB rs a.size) ?_ ?_
 ·intro d hd k hk
  obtain ⟨t,ht,rfl⟩:=cf hd
  have hm:=cA hT ha.ends ht
  refine ⟨Or.inl ⟨by decide,by decide⟩,?_⟩
  refine a6 (bc (by omega) (by omega)) ?_
  exact hk
 ·rw [mj]
  refine ⟨_,rfl,?_⟩
  have e:((aM ps a).map fun t=>decide (rs.getD (t - 1).toNat 0<2 * a.size)).any id=iO ps rs a:=by rw [List.any_map]; rfl
  rw [e]; exact q0
abbrev gKs:List Str:=["tree","by_sizes","came","held"]
def bQ (Cc:Addr) (ps rs:List Int) (b:Bool) (cs:List Ask) (hs:List Int):D:=.obj Cc gKs [aR ps rs,.bl b,bu cs,ai hs]
def qW (Cc:Addr):SpD:=fun ds q=>∃ ps rs b,ds=[.obj Cc [] [],aR ps rs,.bl b]∧Tree ps rs∧q .non [some (bQ Cc ps rs b [] [])]
theorem dg (T:Txt K mg A):FnOk P w K mg base CX0 4 A.f_Gate___init__ A.d_Gate___init__ ["self","tree","by_sizes"] (aQ [true,false,false] false ((qW A.c_q38))):=by
 have S:=gi
 refine fnD T.t_Gate___init__.F S ⟨[true,false,false],[true,false,false],false⟩ _ ?hl rfl rfl fun cdv Ar outer s H E hr=>⟨_,(ad (cV (ar (oG T) hr T.t_q6 (ap (aa 1) ao)))
  (ad (gZ T.k_q38 T.na_q38_tree (i:=0) rfl (ix (aS (QF.qm (b5 br hE rfl T.z_list bM (ae (aE av dIx (aa 1) ac (fun _ _=>rfl)) aj))) (aS (QF.qm (b5 br hE rfl T.z_list bM (ae (aE av dIx (aa 1) ac (fun _ _=>rfl)) aj))) cQ))))
  (ad (gZ T.k_q38 T.na_Gate_by_sizes (i:=0) rfl (QF.qm (QE.qf (aa 2))))
  (ad (gZ T.k_q38 T.na_q38_came (i:=0) rfl (QF.qm (cO aj)))
  (af (gZ T.k_q38 T.na_q38_held (i:=0) rfl (QF.qm (cO aj)))))))),fun ds q h=>?_⟩
 case hl=>intro ds q h; obtain ⟨ps,rs,b,rfl,_⟩:=h; rfl
 obtain ⟨ps,rs,b,rfl,hT,q0⟩:=h
 have h1:=hT.len
 have h3:=hT.hi
 refine ⟨ps,rs,rfl,hT,?_⟩
 refine ⟨aZ _,aZ _,?_⟩
 refine ⟨⟨rfl,by decide +kernel,by decide⟩,?_⟩
 refine ⟨rfl,⟨rfl,by decide +kernel,by decide⟩,?_⟩
 refine ⟨rfl,⟨rfl,by decide +kernel,by decide⟩,?_⟩
 refine ⟨rfl,⟨rfl,by decide +kernel,by decide⟩,?_⟩
 exact q0
def qG (Cc:Addr):SpD:=fun ds q=>∃ ps rs b cs hs a,ds=[bQ Cc ps rs b cs hs,bv a]∧Tree ps rs∧AskOk ps a∧q (.bl (fD ps rs b a)) []
theorem eO (T:Txt K mg A):FnOk P w K mg base CX0 9 A.f_Gate_is_too_wide A.d_Gate_is_too_wide ["self","ask"] (aQ [false,false] false ((qG A.c_q38))):=by
 have S:=eR
 refine fnD T.t_Gate_is_too_wide.F S ⟨[false,false],[false,false],false⟩ _ ?hl rfl rfl fun cdv Ar outer s H E hr=>⟨_,(af (aK (fM (aV (bU T.k_q38 T.na_Gate_by_sizes (aa 0))) (ar (ok_q1 T) hr T.t_q1 (ap (bU T.k_q38 T.na_q38_tree (aa 0)) (ap (aa 1) ao))) (cK (cE hr.units) dNe (aE av dIx (aa 1) ac (fun _ _=>rfl)) ac (aL _))))),fun ds q h=>?_⟩
 case hl=>intro ds q h; obtain ⟨ps,rs,b,cs,hs,a,rfl,_⟩:=h; rfl
 obtain ⟨ps,rs,b,cs,hs,a,rfl,hT,ha,q0⟩:=h
 cases b with
 | true =>
  refine ⟨rfl,_,rfl,?_⟩
  refine ⟨rfl,_,rfl,?_⟩
  exact ⟨ps,rs,a,rfl,hT,ha,q0⟩
 | false =>
  refine ⟨rfl,_,rfl,?_⟩
  exact q0
theorem t6 (T:Txt K mg A):FnOk P w K mg base CX0 1 A.f_q22 A.d_q22 ["tree","ask","way","load"] (aQ [false,false,false,false] true (nL)):=by
 have S:=sE
 refine fnD T.t_q22.F S ⟨[false,false,false,false],[false,false,false,false],true⟩ _ ?hl rfl rfl fun cdv Ar outer s H E hr=>⟨_,(af (bd (QF.qm (lY ["tie"] [3,1,0] ⟨rfl,rfl,by decide +kernel,rfl,rfl,(by first | exact trivial | exact ⟨rfl,trivial⟩ | exact ⟨rfl,rfl,trivial⟩ | exact ⟨rfl,rfl,rfl,trivial⟩ | exact ⟨rfl,rfl,rfl,rfl,trivial⟩),rfl⟩ rfl (bS (aa 2)) (ce 0) (fun _ _ _ _=>⟨(a9 (i:=0) (show List.Nodup (["tie","load","ask","tree"]:List Str) by decide +kernel) rfl (Or.inl rfl)),(fU (aX gJ dB (aB bo dI (aE av dIx (aa 1) (aB bz dI (aa 0) ac) (fun _ _=>rfl)) (aE av dIx (aa 2) ac (fun _ _=>rfl))) (aE av dIx (aE av dIx (aa 3) ac (fun _ _=>rfl)) (aB bz dI (aa 0) ac) (fun _ _=>rfl)) (aL _))),(aa 0)⟩))))),fun ds q h=>?_⟩
 case hl=>intro ds q h; obtain ⟨ps,rs,a,w,l,rfl,_⟩:=h; rfl
 obtain ⟨ps,rs,a,w,l,rfl,hT,hw,hwl,hl,q0⟩:=h
 have hlr:=hT.len
 refine ⟨by rw [aw]; omega,?_⟩
 refine d6 (fY rs a.size l) ?_ ?_
 ·intro d hd k hk
  obtain ⟨t,ht,rfl⟩:=cf hd
  have hm:=hw t ht
  refine a6 (bc (by omega) (by omega)) ?_
  refine a6 (bc (by omega) (by omega)) ?_
  have e:fY rs a.size l (.int t)=if decide (rs.getD (t - 1).toNat 0<l.getD (t - 1).toNat 0 + a.size)=true then some (.int t) else none:=rfl
  rw [e] at hk
  show if decide (rs.getD (t - 1).toNat 0<l.getD (t - 1).toNat 0 + a.size)=true then k (some (.int t)) else k none
  by_cases h:decide (rs.getD (t - 1).toNat 0<l.getD (t - 1).toNat 0 + a.size)=true
  ·rw [if_pos h] at hk ⊢; exact hk
  ·rw [if_neg h] at hk ⊢; exact hk
 ·rw [e9]
  exact ⟨aZ _,q0⟩
theorem sW (T:Txt K mg A):FnOk P w K mg base CX0 8 A.f_q11 A.d_q11 ["tree","ask","load"] (aQ [false,false,false] true (k_)):=by
 have S:=tG
 refine fnD T.t_q11.F S ⟨[false,false,false],[false,false,false],true⟩ _ ?hl rfl rfl fun cdv Ar outer s H E hr=>⟨_,(af (bd (QF.qm (aO (t6 T) hr T.t_q22 (ap (aa 0) (ap (aa 1) (ap (QF.qe (aO (k7 T) hr T.t_q33 (ap (aa 0) (ap (aa 1) ao)))) (ap (aa 2) ao)))))))),fun ds q h=>?_⟩
 case hl=>intro ds q h; obtain ⟨ps,rs,a,l,rfl,_⟩:=h; rfl
 obtain ⟨ps,rs,a,l,rfl,hT,he,hl,q0⟩:=h
 refine ⟨ps,rs,a,rfl,hT,he,?_⟩
 exact ⟨ps,rs,a,aM ps a,l,rfl,hT,fun t ht=>cA hT he ht,Nat.le_trans (eM hT he) (by decide),hl,q0⟩
def p8 (Cc:Addr):SpD:=fun ds q=>∃ ps rs b cs hs a,ds=[bQ Cc ps rs b cs hs,bv a]∧Tree ps rs∧AskOk ps a∧fD ps rs b a=false∧cs.length<30∧q .non []
theorem dO (T:Txt K mg A):FnOk P w K mg base CX0 10 A.f_Gate_look_at_coming A.d_Gate_look_at_coming ["self","ask"] (aQ [false,false] false ((p8 A.c_q38))):=by
 have S:=dN
 refine fnD T.t_Gate_look_at_coming.F S ⟨[false,false],[false,false,false],false⟩ _ ?hl rfl rfl fun cdv Ar outer s H E hr=>⟨_,(ad (aT (i:=2) S.nd rfl (Or.inl rfl) (aF aD dz rfl T.z_len bq (ae (bU T.k_q38 T.na_q38_came (aa 0)) aj)))
  (ad (aY (bw (aV (ar (pF T) hr T.t_q26 (ap (bU T.k_q38 T.na_q38_tree (aa 0)) (ap (aa 1) ao))))) (af bA) aG)
  (ad (aY (aV (gW (eO T) hr T.k_q38 T.t_Gate_is_too_wide (qm_s (aa 0) (ap (aa 1) ao)))) (af bA) aG)
  (af (aY (aX op_ge dB (aa 2) (db (i:=30) rfl T.c_MOST_ASKS) (aL _)) (af bA) aG))))),fun ds q h=>?_⟩
 case hl=>intro ds q h; obtain ⟨ps,rs,b,cs,hs,a,rfl,_⟩:=h; rfl
 obtain ⟨ps,rs,b,cs,hs,a,rfl,hT,ha,hw,hl,q0⟩:=h
 refine ⟨rfl,_,rfl,?_⟩
 refine ⟨rfl,_,rfl,?_⟩
 refine ⟨ps,rs,a,rfl,ha,?_⟩
 refine ⟨⟨rfl,by decide +kernel⟩,?_⟩
 refine ⟨ps,rs,b,cs,hs,a,rfl,hT,ha,?_⟩
 rw [hw]
 refine (d9 (c:=decide (((cs.map bv).length:Int) ≥ 30)=true) (fun c=>?_) (fun c=>?_))
 ·exact absurd (of_decide_eq_true c) (by rw [bT]; omega)
 ·exact q0
def qy (Cc:Addr):SpD:=fun ds q=>∃ ps rs b cs hs,ds=[bQ Cc ps rs b cs hs]∧Tree ps rs∧AsksOk ps cs∧KeepOk cs.length hs∧q (ai (ay ps cs hs)) []
theorem gC (T:Txt K mg A):FnOk P w K mg base CX0 10 A.f_q38_load A.d_q38_load ["self"] (aQ [false] true ((qy A.c_q38))):=by
 have S:=jJ
 refine fnD T.t_q38_load.F S ⟨[false],[false],true⟩ _ ?hl rfl rfl fun cdv Ar outer s H E hr=>⟨_,(af (bd (QF.qm (aO (tE T) hr T.t_q37 (ap (bU T.k_q38 T.na_q38_tree (aa 0)) (ap (bU T.k_q38 T.na_q38_came (aa 0)) (ap (bU T.k_q38 T.na_q38_held (aa 0)) ao))))))),fun ds q h=>?_⟩
 case hl=>intro ds q h; obtain ⟨ps,rs,b,cs,hs,rfl,_⟩:=h; rfl
 obtain ⟨ps,rs,b,cs,hs,rfl,hT,ha,hk,q0⟩:=h
 refine ⟨rfl,_,rfl,?_⟩
 refine ⟨rfl,_,rfl,?_⟩
 refine ⟨rfl,_,rfl,?_⟩
 exact ⟨ps,rs,cs,hs,rfl,hT,ha,hk,q0⟩
def qz (Cc:Addr):SpD:=fun ds q=>∃ ps rs b cs hs a,ds=[bQ Cc ps rs b cs hs,bv a]∧Tree ps rs∧AskOk ps a∧fD ps rs b a=false∧cs.length<30∧AsksOk ps cs∧KeepOk cs.length hs ∧
 q (.bl (bR ps rs cs hs a)) [some (bQ Cc ps rs b (cs++[bX b a]) (bH ps rs cs hs a))]
theorem jK (T:Txt K mg A):FnOk P w K mg base CX0 11 A.f_q38_come A.d_q38_come ["self","ask"] (aQ [true,false] false ((qz A.c_q38))):=by
 have S:=ku
 refine fnD T.t_q38_come.F S ⟨[true,false],[true,false,false,false,false,false,false],false⟩ _ ?hl rfl rfl fun cdv Ar outer s H E hr=>⟨_,(ad (cV (QE.bor [0] (gW (dO T) hr T.k_q38 T.t_Gate_look_at_coming (qm_s (aa 0) (ap (aa 1) ao)))))
  (ad (gk (aa 1) (cW rfl (aJ (aH (i:=2) S.nd rfl (Or.inl rfl)) (aJ (aH (i:=3) S.nd rfl (Or.inl rfl)) (aJ (aH (i:=4) S.nd rfl (Or.inl rfl)) (aJ (aH (i:=5) S.nd rfl (Or.inl rfl)) cb)))) (aq (aq (aq (aq ba))))))
  (ad (aT (i:=6) S.nd rfl (Or.inl rfl) (QE.bor [0] (qS (QF.qe (aO (sW T) hr T.t_q11 (ap (bU T.k_q38 T.na_q38_tree (aa 0)) (ap (aa 1) (ap (QF.qe (bt (gC T) hr T.k_q38 T.t_q38_load (dU (aa 0)))) ao))))))))
  (ad (ik (aY (aV (aa 6)) (af (jz (i:=0) (oz T.k_q38 T.na_q38_held je) (aF aD dz rfl T.z_len bq (ae (bU T.k_q38 T.na_q38_came (aa 0)) aj)))) aG))
  (ad (jz (i:=0) (oz T.k_q38 T.na_q38_came je) (cX (ae (aa 2) (ae (aa 3) (ae (aa 4) (ae (fM (aV (bU T.k_q38 T.na_Gate_by_sizes (aa 0))) (aa 4) ac) aj))))))
  (af (aK (aa 6)))))))),fun ds q h=>?_⟩
 case hl=>intro ds q h; obtain ⟨ps,rs,b,cs,hs,a,rfl,_⟩:=h; rfl
 obtain ⟨ps,rs,b,cs,hs,a,rfl,hT,ha,hw,hl,hA,hk,q0⟩:=h
 have hkl:=hk.len
 refine ⟨⟨rfl,by decide +kernel⟩,?_⟩
 refine ⟨ps,rs,b,cs,hs,a,rfl,hT,ha,hw,hl,?_⟩
 refine ⟨rfl,?_⟩
 refine ⟨rfl,_,rfl,?_⟩
 refine ⟨⟨rfl,by decide +kernel⟩,?_⟩
 refine ⟨ps,rs,b,cs,hs,rfl,hT,hA,hk,?_⟩
 refine ⟨ps,rs,a,ay ps cs hs,rfl,hT,ha.ends,bO ps cs hs,?_⟩
 have ef:((cm rs a.size (aM ps a) (ay ps cs hs)).map D.int).isEmpty=bR ps rs cs hs a:=by
  unfold bR; cases cm rs a.size (aM ps a) (ay ps cs hs) <;> rfl
 refine ⟨rfl,?_⟩
 refine ⟨fun ρ=>ρ=[some (bQ A.c_q38 ps rs b cs (bH ps rs cs hs a)),some (bv a),some (.int a.one),some (.int a.other),some (.int a.size),some (.int a.worth),some (.bl (bR ps rs cs hs a))],?_,?_⟩
 ·refine (d9 (c:=((cm rs a.size (aM ps a) (ay ps cs hs)).map D.int).isEmpty=true) (fun c=>?_) (fun c=>?_))
  ·have c':=c
   rw [ef] at c'
   refine ⟨_,rfl,rfl,3,_,(show mZ "held" gKs=some 3 by decide +kernel),rfl,_,_,rfl,rfl,?_⟩
   refine ⟨rfl,_,rfl,?_⟩
   refine ⟨rfl,by rw [aw]; omega,?_⟩
   have e2:bH ps rs cs hs a=hs++[(cs.length:Int)]:=if_pos c'
   rw [e2,← ef,bT]
   unfold bQ
   rw [← eJ]; rfl
  ·have c':=c
   rw [ef] at c'
   have e2:bH ps rs cs hs a=hs:=if_neg c'
   rw [e2,← ef]; rfl
 ·rintro ρ rfl
  refine ⟨_,rfl,rfl,2,_,(show mZ "came" gKs=some 2 by decide +kernel),rfl,_,_,rfl,rfl,?_⟩
  cases b with
  | true =>
   refine ⟨rfl,_,rfl,?_⟩
   refine ⟨rfl,by rw [bT]; omega,?_⟩
   have key:q (.bl (bR ps rs cs hs a)) [some (.obj A.c_q38 gKs [aR ps rs,.bl true,.lst (cs.map bv++[bv (bX true a)]),ai (bH ps rs cs hs a)])]:=by rw [gq]; exact q0
   exact key
  | false =>
   refine ⟨rfl,_,rfl,?_⟩
   refine ⟨rfl,by rw [bT]; omega,?_⟩
   have key:q (.bl (bR ps rs cs hs a)) [some (.obj A.c_q38 gKs [aR ps rs,.bl false,.lst (cs.map bv++[bv (bX false a)]),ai (bH ps rs cs hs a)])]:=by rw [gq]; exact q0
   exact key
def ra (Cc:Addr):SpD:=fun ds q=>∃ ps rs b cs hs,ds=[bQ Cc ps rs b cs hs]∧q (bu cs) []
theorem eu (T:Txt K mg A):FnOk P w K mg base CX0 1 A.f_q38_asks A.d_q38_asks ["self"] (aQ [false] true ((ra A.c_q38))):=by
 have S:=j7
 refine fnD T.t_q38_asks.F S ⟨[false],[false],true⟩ _ ?hl rfl rfl fun cdv Ar outer s H E hr=>⟨_,(af (bd (QF.qm (b5 br hE rfl T.z_list bM (ae (bU T.k_q38 T.na_q38_came (aa 0)) aj))))),fun ds q h=>?_⟩
 case hl=>intro ds q h; obtain ⟨ps,rs,b,cs,hs,rfl,_⟩:=h; rfl
 obtain ⟨ps,rs,b,cs,hs,rfl,q0⟩:=h
 refine ⟨rfl,_,rfl,?_⟩
 exact ⟨m_ _,q0⟩
def rm (Cc:Addr):SpD:=fun ds q=>∃ ps rs b cs hs,ds=[bQ Cc ps rs b cs hs]∧q (ai hs) []
theorem cS (T:Txt K mg A):FnOk P w K mg base CX0 1 A.f_q38_kept A.d_q38_kept ["self"] (aQ [false] true ((rm A.c_q38))):=by
 have S:=jS
 refine fnD T.t_q38_kept.F S ⟨[false],[false],true⟩ _ ?hl rfl rfl fun cdv Ar outer s H E hr=>⟨_,(af (bd (QF.qm (b5 br hE rfl T.z_list bM (ae (bU T.k_q38 T.na_q38_held (aa 0)) aj))))),fun ds q h=>?_⟩
 case hl=>intro ds q h; obtain ⟨ps,rs,b,cs,hs,rfl,_⟩:=h; rfl
 obtain ⟨ps,rs,b,cs,hs,rfl,q0⟩:=h
 refine ⟨rfl,_,rfl,?_⟩
 exact ⟨aZ _,q0⟩
def qB (Cc:Addr):SpD:=fun ds q=>∃ ps rs b cs hs l r,ds=[bQ Cc ps rs b cs hs,.int l,.int r]∧q (.bl (dW b l r)) []
theorem gL (T:Txt K mg A):FnOk P w K mg base CX0 1 A.f_Gate_is_dear A.d_Gate_is_dear ["self","load","room"] (aQ [false,false,false] false ((qB A.c_q38))):=by
 have S:=gK
 refine fnD T.t_Gate_is_dear.F S ⟨[false,false,false],[false,false,false],false⟩ _ ?hl rfl rfl fun cdv Ar outer s H E hr=>⟨_,(af (aK (fM (aV (bU T.k_q38 T.na_Gate_by_sizes (aa 0))) (cK gJ dB (aB dA dIC ac (aa 1)) (aa 2) (aL _)) (cK (cC hr.units) dEq (aa 1) (aa 2) (aL _))))),fun ds q h=>?_⟩
 case hl=>intro ds q h; obtain ⟨ps,rs,b,cs,hs,l,r,rfl,_⟩:=h; rfl
 obtain ⟨ps,rs,b,cs,hs,l,r,rfl,q0⟩:=h
 cases b with
 | true =>
  refine ⟨rfl,_,rfl,?_⟩
  exact ⟨Or.inl ⟨by decide,by decide⟩,q0⟩
 | false =>
  refine ⟨rfl,_,rfl,?_⟩
  exact q0
def gPrF (b:Bool):D→D
 | .tup [.int l,.int r]=>dQ (gPr b l r)
 | _=>.non
theorem jM (b:Bool):∀ (ls rs:List Int),(kc (ls.map D.int) (rs.map D.int)).map (gPrF b)=(List.zipWith (gPr b) ls rs).map dQ
 | [],_=>rfl
 | _ :: _,[]=>rfl
 | l :: ls,r :: rs=>by
  have ih:=jM b ls rs
  show dQ (gPr b l r) :: (kc (ls.map D.int) (rs.map D.int)).map (gPrF b)=_
  rw [ih]; rfl
def nq (Cc:Addr):SpD:=fun ds q=>∃ ps rs b cs hs,ds=[bQ Cc ps rs b cs hs]∧Tree ps rs∧AsksOk ps cs∧KeepOk cs.length hs∧q (dQs (gPrs ps rs b cs hs)) []
theorem dQ1:dQ 1 = .tup [.int 1,.int 1]:=rfl
theorem dQ0:dQ 0 = .tup [.int 0,.int 1]:=rfl
theorem cZ (T:Txt K mg A):FnOk P w K mg base CX0 11 A.f_q38_prices A.d_q38_prices ["self"] (aQ [false] true ((nq A.c_q38))):=by
 have S:=iC
 refine fnD T.t_q38_prices.F S ⟨[false],[false],true⟩ _ ?hl rfl rfl fun cdv Ar outer s H E hr=>⟨_,(af (bd (QF.qm (lY ["load","room"] [0] ⟨rfl,rfl,by decide +kernel,rfl,rfl,(by first | exact trivial | exact ⟨rfl,trivial⟩ | exact ⟨rfl,rfl,trivial⟩ | exact ⟨rfl,rfl,rfl,trivial⟩ | exact ⟨rfl,rfl,rfl,rfl,trivial⟩),rfl⟩ rfl (tj rfl T.z_zip (ae (QF.qe (bt (gC T) hr T.k_q38 T.t_q38_load (dU (aa 0)))) (ae (aE av dIx (bU T.k_q38 T.na_q38_tree (aa 0)) ac (fun _ _=>rfl)) aj))) (sR (jI (ce 0) (jI (ce 1) rn)) (aq (aq ba))) (fun _ _ _ _=>⟨(jC rfl (cp (a9 (i:=0) (show List.Nodup (["load","room","self"]:List Str) by decide +kernel) rfl (Or.inl rfl)) (cp (a9 (i:=1) (show List.Nodup (["load","room","self"]:List Str) by decide +kernel) rfl (Or.inl rfl)) gR))),fG,(fM (aV (gW (gL T) hr T.k_q38 T.t_Gate_is_dear (qm_s (aa 2) (ap (aa 0) (ap (aa 1) ao))))) (cX (ae ac (ae ac aj))) (cX (ae ac (ae ac aj))))⟩))))),fun ds q h=>?_⟩
 case hl=>intro ds q h; obtain ⟨ps,rs,b,cs,hs,rfl,_⟩:=h; rfl
 obtain ⟨ps,rs,b,cs,hs,rfl,hT,hA,hk,q0⟩:=h
 have hlr:=hT.len
 have hlo:=hT.hi
 have hll:=bO ps cs hs
 refine ⟨⟨rfl,by decide +kernel⟩,?_⟩
 refine ⟨ps,rs,b,cs,hs,rfl,hT,hA,hk,?_⟩
 refine ⟨rfl,_,rfl,?_⟩
 refine ⟨by unfold kc; rw [List.length_zipWith,List.length_map,List.length_map]; omega,?_⟩
 refine gg (gPrF b) ?_ ?_
 ·intro d hd k hk2
  obtain ⟨i,hi⟩:=List.getElem?_of_mem hd
  obtain ⟨u,v,hu,hv,rfl⟩:=lR hi
  obtain ⟨l,hl,rfl⟩:=d8 hu
  obtain ⟨r,hr,rfl⟩:=d8 hv
  refine ⟨⟨rfl,by decide +kernel⟩,?_⟩
  refine ⟨ps,rs,b,cs,hs,l,r,rfl,?_⟩
  have hk3:k (dQ (gPr b l r)):=hk2
  unfold gPr at hk3
  cases hc:dW b l r with
  | true=>rw [hc,if_pos rfl,dQ1] at hk3; exact hk3
  | false=>rw [hc,if_neg (by decide),dQ0] at hk3; exact hk3
 rw [jM]
 exact ⟨ke _,q0⟩
end
end K69
namespace K69
open PySem L2
section
variable {P:Program} {w:World} {K:PySem.W.Frag} {mg:Str→Option Value} {base:Heap} {A:Adr}
theorem jx (T:Txt K mg A):FnOk P w K mg base CX0 1 A.f_q30 A.d_q30 ["_law_script","_law_k"] (aQ [false,false] true (ul K)):=by
 have S:=uw
 refine fnD T.t_q30.F S ⟨[false,false],[false,false,false,false],true⟩ _ ?hl rfl rfl fun cdv Ar outer s H E hr=>⟨_,(ad (aT (i:=2) S.nd rfl (Or.inl rfl) ac)
  (ad (ik (aY (aX rC dB (aa 1) (aF aD dz rfl T.z_len bq (ae (aa 0) aj)) (aL _)) (af (aT (i:=2) S.nd rfl (Or.inl rfl) (aE av dIx (aa 0) (aa 1) (fun _ _=>rfl)))) aG))
  (ad (aT (i:=3) S.nd rfl (Or.inl rfl) (aB cN dIC (aB dA dIC (aB bo dI (aB bo dI (aB cN dIC (aa 2) ac) (aB dA dIC (aB dA dIC ac (aa 1)) (aa 1))) ac) ac) ac))
  (ad (aY (aX rC dB (aa 2) (aB gr dIC ac ac) (aL _)) (af (aT (i:=2) S.nd rfl (Or.inl rfl) ac)) aG)
  (af (bd (QF.qm (cO (ae (aa 2) (ae (aa 3) aj)))))))))),fun ds q h=>?_⟩
 case hl=>intro ds q h; obtain ⟨φ,ns,k,rfl,_⟩:=h; rfl
 obtain ⟨φ,ns,k,rfl,hφ,h0,h1,q0⟩:=h
 refine ⟨fun ρ=>∃ z:Int,ρ=[some (.scr φ ns),some (.int k),some (.int z),none],?_,?_⟩
 ·refine ⟨hφ,?_⟩
  refine (d9 (c:=decide (k<(ns.length:Int))=true) (fun c=>?_) (fun c=>⟨0,rfl⟩))
  have c':k<ns.length:=by simpa using c
  refine ⟨hφ,?_⟩
  show (match atI ns k with | some n=>_ | none=>False)
  rw [sY h0 c']; exact ⟨_,rfl⟩
 rintro ρ ⟨z,rfl⟩
 refine ⟨(show (0:Int)<1000000007 by decide),Or.inl ⟨by decide,by decide⟩,Or.inr ⟨by omega,by omega⟩,Or.inr ⟨by decide,by decide⟩,(show (0:Int)<2147483647 by decide),?_⟩
 refine ⟨⟨by decide,by decide,by decide⟩,?_⟩
 refine (d9 (c:=decide (z<10 ^ 18)=true) (fun c=>?_) (fun c=>?_))
 ·exact ⟨rfl,q0 _ _ (Int.le_refl 0)⟩
 ·have c':(10:Int) ^ 18≤z:=by simpa using c
  exact ⟨rfl,q0 _ _ (by omega)⟩
theorem bP (T:Txt K mg A):FnOk P w K mg base CX0 1 A.f_q31 A.d_q31 ["_law_pool_here","_law_many"] (aQ [true,false] false (sV)):=by
 have S:=tz
 refine fnD T.t_q31.F S ⟨[true,false],[true,false,false],false⟩ _ ?hl rfl rfl fun cdv Ar outer s H E hr=>⟨_,(ad (aY (QT.bor [0] (aX gJ dB (aE av dIx (aa 0) ac (fun _ _=>rfl)) ac (aL _))) (ad (aT (i:=2) S.nd rfl (Or.inl rfl) (QE.bor [0] (aB cN dIC (aE av dIx (aa 0) ac (fun _ _=>rfl)) (aa 1))))
  (ad (jp (i:=0) rfl (QF.bor [0] (QE.qf (aB o4 dIC (aE av dIx (aa 0) ac (fun _ _=>rfl)) (aa 1)))) ac)
  (af (aK (aa 2))))) aG)
  (ad (jp (i:=0) rfl (QF.bor [0] (QE.qf (aB cN dIC (aB bo dI (aB dA dIC (aE av dIx (aa 0) ac (fun _ _=>rfl)) ac) ac) ac))) ac)
  (af (aK (QE.bor [0] (aB cN dIC (aB lN dIC (aB cN dIC (aB dA dIC (aE av dIx (aa 0) ac (fun _ _=>rfl)) (aE av dIx (aa 0) ac (fun _ _=>rfl))) ac) ac) (aa 1))))))),fun ds q h=>?_⟩
 case hl=>intro ds q h; obtain ⟨c,m,many,rfl,_⟩:=h; rfl
 obtain ⟨c,m,many,rfl,h0,hm,hs,q0⟩:=h
 refine (d9 (c:=decide (0<c)=true) (fun c1=>?_) (fun c1=>?_))
 ·refine ⟨hm,rfl,?_⟩
  refine ⟨⟨hm,hs⟩,rfl,?_⟩
  exact q0 _ (c / many) m (Int.emod_nonneg _ (Int.ne_of_gt hm)) (Int.emod_lt_of_pos _ hm) (Int.ediv_nonneg h0 (Int.le_of_lt hm))
 ·refine ⟨Or.inr ⟨by decide,by decide⟩,(show (0:Int)<2147483647 by decide),rfl,?_⟩
  have a1:=Int.emod_nonneg (m * 48271 + 11) (show (2147483647:Int)≠0 by decide)
  have a2:=Int.emod_lt_of_pos (m * 48271 + 11) (show (0:Int)<2147483647 by decide)
  refine ⟨Or.inl ⟨by omega,by omega⟩,(show (0:Int)<2147483629 by decide),⟨by decide,by decide⟩,hm,?_⟩
  exact ⟨rfl,q0 _ c _ (Int.emod_nonneg _ (Int.ne_of_gt hm)) (Int.emod_lt_of_pos _ hm) h0⟩
theorem lq (T:Txt K mg A):FnOk P w K mg base CX0 2 A.f_q16 A.d_q16 ["_law_pool_here","_law_most"] (aQ [true,false] false (ot)):=by
 have S:=sm
 refine fnD T.t_q16.F S ⟨[true,false],[true,false,false],false⟩ _ ?hl rfl rfl fun cdv Ar outer s H E hr=>⟨_,(ad (aT (i:=2) S.nd rfl (Or.inl rfl) (ar (bP T) hr T.t_q31 (dF 0 (ap ac ao))))
  (ad (aY (aX (cC hr.units) dEq (aa 2) ac (aL _)) (af (aK (aB bo dI ac (ar (bP T) hr T.t_q31 (dF 0 (ap (aF (de rfl) nE rfl T.z_min gx (ae (aa 1) (ae ac aj))) ao)))))) aG)
  (ad (aY (aX (cC hr.units) dEq (aa 2) ac (aL _)) (af (aK (aB bo dI ac (ar (bP T) hr T.t_q31 (dF 0 (ap (aF (de rfl) nE rfl T.z_min gx (ae (aa 1) (ae ac aj))) ao)))))) aG)
  (ad (aY (aX (cC hr.units) dEq (aa 2) ac (aL _)) (af (aK (aB bz dI (aa 1) (ar (bP T) hr T.t_q31 (dF 0 (ap (aF (de rfl) nE rfl T.z_min gx (ae (aa 1) (ae ac aj))) ao)))))) aG)
  (af (aK (aB bo dI ac (aB cN dIC (aB bo dI (aB dA dIC (ar (bP T) hr T.t_q31 (dF 0 (ap (aB gr dIC ac ac) ao))) (aB gr dIC ac ac)) (ar (bP T) hr T.t_q31 (dF 0 (ap (aB gr dIC ac ac) ao)))) (aa 1))))))))),fun ds q h=>?_⟩
 case hl=>intro ds q h; obtain ⟨c,m,most,rfl,_⟩:=h; rfl
 obtain ⟨c,m,most,rfl,h0,hm0,hm1,q0⟩:=h
 refine ⟨c,m,4,rfl,h0,by decide,cG (n:=4) (by decide) (by decide +kernel),fun w0 c1 m1 w00 w01 h1=>?_⟩
 have hmin:∀ j:Int,1≤j→∃ z:Int,(if j<most then j else most)=z∧1≤z∧z≤most:=fun j hj=>by
  by_cases h:j<most
  ·exact ⟨j,by rw [if_pos h],hj,by omega⟩
  ·exact ⟨most,by rw [if_neg h],hm0,Int.le_refl _⟩
 refine (d9 (c:=decide (w0=0)=true) (fun c=>?_) (fun c=>?_))
 ·obtain ⟨z,ez,z0,z1⟩:=hmin 3 (by decide)
  refine ⟨c1,m1,z,by rw [← ez],h1,by omega,cG (n:=1000000000000) (by omega) (by decide +kernel),fun u c2 m2 u0 u1 h2=>?_⟩
  exact q0 _ c2 m2 (by omega) (by omega) h2
 refine (d9 (c:=decide (w0=1)=true) (fun c=>?_) (fun c=>?_))
 ·obtain ⟨z,ez,z0,z1⟩:=hmin 12 (by decide)
  refine ⟨c1,m1,z,by rw [← ez],h1,by omega,cG (n:=1000000000000) (by omega) (by decide +kernel),fun u c2 m2 u0 u1 h2=>?_⟩
  exact q0 _ c2 m2 (by omega) (by omega) h2
 refine (d9 (c:=decide (w0=2)=true) (fun c=>?_) (fun c=>?_))
 ·obtain ⟨z,ez,z0,z1⟩:=hmin 3 (by decide)
  refine ⟨c1,m1,z,by rw [← ez],h1,by omega,cG (n:=1000000000000) (by omega) (by decide +kernel),fun u c2 m2 u0 u1 h2=>?_⟩
  exact q0 _ c2 m2 (by omega) (by omega) h2
 refine ⟨⟨by decide,by decide,by decide⟩,?_⟩
 refine ⟨c1,m1,1000000,rfl,h1,by decide,cG (n:=1000000) (by decide) (by decide +kernel),fun u c2 m2 u0 u1 h2=>?_⟩
 refine ⟨⟨by decide,by decide,by decide⟩,Or.inr ⟨by decide,by decide⟩,?_⟩
 refine ⟨⟨by decide,by decide,by decide⟩,?_⟩
 refine ⟨c2,m2,1000000,rfl,h2,by decide,cG (n:=1000000) (by decide) (by decide +kernel),fun u' c3 m3 u0' u1' h3=>?_⟩
 refine ⟨(show (0:Int)<most by omega),?_⟩
 have e1:∀ z:Int,1≤1 + z % most:=fun z=>by have:=Int.emod_nonneg z (show most≠0 by omega); omega
 have e2:∀ z:Int,1 + z % most≤most:=fun z=>by have:=Int.emod_lt_of_pos z (show 0<most by omega); omega
 exact q0 _ c3 m3 (e1 _) (e2 _) h3
theorem ok_q9 (T:Txt K mg A):FnOk P w K mg base CX0 2 A.f_q9 A.d_q9 ["_law_pool_here","_law_most"] (aQ [true,false] true (ng)):=by
 have S:=sc_q9
 refine fnD T.t_q9.F S ⟨[true,false],[true,false,false,true,false,false],true⟩ _ ?hl rfl rfl fun cdv Ar outer s H E hr=>⟨_,(ad (aT (i:=2) S.nd rfl (Or.inl rfl) (ar (bP T) hr T.t_q31 (dF 0 (ap ac ao))))
  (ad (cR (i:=3) S.nd rfl (Or.inl rfl) (cO aj))
  (ad (cF PassesOwn.never rfl (i3 rfl T.z_range (ae ac (ae (aB bo dI ac (ar (bP T) hr T.t_q31 (dF 0 (ap (aa 1) ao)))) aj))) (aH (i:=4) S.nd rfl (Or.inl rfl)) (ad (aT (i:=5) S.nd rfl (Or.inl rfl) (ar (bP T) hr T.t_q31 (dF 0 (ap (aa 4) ao))))
  (af (b8 (i:=3) rfl (QE.qf (aE av dIx (em (ae (aa 5) (ae (aB bz dI (aa 4) ac) (ae ac (ae (aF (i9 rfl) dMax rfl T.z_max o_ (ae ac (ae (aB bz dI (aB bz dI (aa 4) ac) (aB cN dIC (aa 5) ac)) aj))) aj))))) (aa 2) (fun _ _=>rfl)))))))
  (af (bd (eL 3)))))),fun ds q h=>?_⟩
 case hl=>intro ds q h; obtain ⟨c,m,most,rfl,_⟩:=h; rfl
 obtain ⟨c,m,most,rfl,h0,hm0,hm1,q0⟩:=h
 refine ⟨c,m,4,rfl,h0,by decide,cG (n:=4) (by decide) (by decide +kernel),fun w0 c1 m1 w00 w01 h1=>?_⟩
 refine ⟨rfl,?_⟩
 refine ⟨c1,m1,most,rfl,h1,by omega,cG (n:=23) (by omega) (by decide +kernel),fun n c2 m2 n0 n1 h2=>?_⟩
 refine ⟨⟨by omega,by omega,by omega⟩,?_⟩
 refine ⟨fun i ρ=>∃ (ps:List Int) (c m:Int) (v4 v5:Option D),ρ=[some (ai [c,m]),some (.int most),some (.int w0),some (ai ps),v4,v5]∧0≤c∧ps.length=i∧(∀ (j:Nat) (x:Int),ps[j]? = some x→0≤x∧x≤j),⟨[],c2,m2,_,_,rfl,h2,rfl,(fun j x h=>by simp at h)⟩,?_,?_⟩
 ·rintro i d ρ hd ⟨ps,c3,m3,v4,v5,rfl,h3,lp,hpar⟩
  obtain ⟨hi,rfl⟩:=fK hd
  have hi2:i<23:=by omega
  refine ⟨c3,m3,1 + (i:Int),rfl,h3,by omega,cG (n:=23) (by omega) (by decide +kernel),fun r c4 m4 r0 r1 h4=>?_⟩
  refine ⟨(show (0:Int)<3 by decide),?_⟩
  have e1:=Int.emod_nonneg r (show (3:Int)≠0 by decide)
  obtain ⟨y,hy,y1,y2⟩:∃ y:Int,atI [D.int r,D.int (1 + (i:Int) - 1),D.int 0,D.int (if (0:Int)<1 + (i:Int) - 1 - r % 3 then 1 + (i:Int) - 1 - r % 3 else 0)] w0=some (.int y)∧0≤y∧y≤i:=by
   have:w0=0∨w0=1∨w0=2∨w0=3:=by omega
   rcases this with rfl | rfl | rfl | rfl
   ·exact ⟨_,rfl,by omega,by omega⟩
   ·exact ⟨_,rfl,by omega,by omega⟩
   ·exact ⟨_,rfl,by omega,by omega⟩
   ·exact ⟨_,rfl,by split <;> omega,by split <;> omega⟩
  refine a6 hy ?_
  refine ⟨rfl,by rw [aw]; omega,?_⟩
  refine ⟨ps++[y],c4,m4,some (.int (1 + (i:Int))),some (.int r),?_,h4,by rw [List.length_append,lp]; rfl,lF hpar ⟨y1,by omega⟩⟩
  rw [← eJ]; rfl
 ·rintro ρ ⟨ps,c3,m3,v4,v5,rfl,h3,lp,hpar⟩
  rw [eg] at lp
  exact q0 ps c3 m3 ⟨by omega,by omega,hpar⟩ (by omega) h3
theorem tV (T:Txt K mg A):FnOk P w K mg base CX0 3 A.f_q21 A.d_q21 ["_law_pool_here","_law_many","_law_least"] (aQ [true,false,false] true (q8)):=by
 have S:=tS
 refine fnD T.t_q21.F S ⟨[true,false,false],[true,false,false,false],true⟩ _ ?hl rfl rfl fun cdv Ar outer s H E hr=>⟨_,(ad (aT (i:=3) S.nd rfl (Or.inr rfl) (aE av dIx (em (ae ac (ae ac (ae (aB gr dIC ac ac) aj)))) (ar (bP T) hr T.t_q31 (dF 0 (ap ac ao))) (fun _ _=>rfl)))
  (af (bd (QF.qm (oF ["_law_k"] [2,0,3] 0 2 ⟨rfl,rfl,by decide +kernel,rfl,rfl,(by first | exact trivial | exact ⟨rfl,trivial⟩ | exact ⟨rfl,rfl,trivial⟩ | exact ⟨rfl,rfl,rfl,trivial⟩ | exact ⟨rfl,rfl,rfl,rfl,trivial⟩),rfl⟩ rfl (gf rfl T.z_range (ae (aa 1) aj)) (o0 0) (fun _ _ _ _=>⟨(a9 (i:=0) (show List.Nodup (["_law_k","_law_least","_law_pool_here","_law_most"]:List Str) by decide +kernel) rfl (Or.inl rfl)),fG,(aB bo dI (aB bz dI (aa 1) ac) (ar (lq T) hr T.t_q16 (dF 2 (ap (aB bo dI (aB bz dI (aa 3) (aa 1)) ac) ao))))⟩)))))),fun ds q h=>?_⟩
 case hl=>intro ds q h; obtain ⟨c,m,n,least,rfl,_⟩:=h; rfl
 obtain ⟨c,m,n,least,rfl,h0,n0,n1,l0,l1,q0⟩:=h
 refine ⟨⟨by decide,by decide,by decide⟩,?_⟩
 refine ⟨c,m,3,rfl,h0,by decide,cG (n:=3) (by decide) (by decide +kernel),fun r c1 m1 r0 r1 h1=>?_⟩
 obtain ⟨z,hz,z1,z2⟩:∃ z:Int,atI [D.int 3,D.int 60,D.int (10 ^ Int.toNat 6)] r=some (.int z)∧3≤z∧z≤1000000:=by
  have:r=0∨r=1∨r=2:=by omega
  rcases this with rfl | rfl | rfl
  all_goals exact ⟨_,rfl,by decide,by decide⟩
 refine a6 hz ?_
 refine ⟨⟨by omega,by omega⟩,?_⟩
 refine ⟨by rw [eg]; omega,?_⟩
 refine ⟨fun i es d=>∃ (rs:List Int) (c m:Int),es=rs.map D.int∧d=ai [c,m]∧0≤c∧rs.length=i∧(∀ (j:Nat) (x:Int),rs[j]? = some x→least≤x∧x≤1000000),⟨[],c1,m1,rfl,rfl,h1,rfl,(fun j x h=>by simp at h)⟩,?_,?_⟩
 ·rintro j x es d hx ⟨rs,c5,m5,rfl,rfl,h5,lr,hroom⟩
  refine ⟨c5,m5,z - least + 1,rfl,h5,by omega,by omega,fun u c6 m6 u0 u1 h6=>?_⟩
  exact ⟨rs++[least - 1 + u],c6,m6,(List.map_append (l₂:=[least - 1 + u])).symm,rfl,h6,by rw [List.length_append,lr]; rfl,lF hroom ⟨by omega,by omega⟩⟩
 ·rintro es d ⟨rs,c5,m5,rfl,rfl,h5,lr,hroom⟩
  rw [eg] at lr
  refine ⟨aZ _,?_⟩
  exact q0 rs c5 m5 ⟨by omega,hroom⟩ h5
theorem tP (T:Txt K mg A):FnOk P w K mg base CX0 2 A.f_q28 A.d_q28 ["_law_pool_here","_law_many"] (aQ [true,false] false (rd)):=by
 have S:=uo
 refine fnD T.t_q28.F S ⟨[true,false],[true,false,false],false⟩ _ ?hl rfl rfl fun cdv Ar outer s H E hr=>⟨_,(ad (aT (i:=2) S.nd rfl (Or.inl rfl) (ar (bP T) hr T.t_q31 (dF 0 (ap (aB bo dI (aa 1) ac) ao))))
  (af (aK (cX (ae (aa 2) (ae (aB cN dIC (aB bo dI (aB bo dI (aa 2) ac) (ar (bP T) hr T.t_q31 (dF 0 (ap (aa 1) ao)))) (aB bo dI (aa 1) ac)) aj)))))),fun ds q h=>?_⟩
 case hl=>intro ds q h; obtain ⟨c,m,n,rfl,_⟩:=h; rfl
 obtain ⟨c,m,n,rfl,h0,n0,n1,q0⟩:=h
 refine ⟨c,m,(n:Int) + 1,rfl,h0,by omega,cG (n:=24) (by omega) (by decide +kernel),fun a c1 m1 a0 a1 h1=>?_⟩
 refine ⟨c1,m1,(n:Int),rfl,h1,by omega,cG (n:=24) (by omega) (by decide +kernel),fun r c2 m2 r0 r1 h2=>?_⟩
 refine ⟨(show (0:Int)<(n:Int) + 1 by omega),?_⟩
 have he:=kR (ps:=List.replicate n 0) (a:=a) (r:=r) a0 (by rw [List.length_replicate]; omega) r0 (by rw [List.length_replicate]; omega)
 rw [List.length_replicate,show 1 + (n:Int)=(n:Int) + 1 by omega] at he
 have hb1:=he.b1
 rw [List.length_replicate] at hb1
 exact q0 _ _ c2 m2 he.a0 (by omega) he.b0 hb1 he.ne h2
theorem oR (T:Txt K mg A):FnOk P w K mg base CX0 1 A.f_q39 A.d_q39 ["_law_parents_here","_law_place"] (aQ [false,false] true (sdUpP)):=by
 have S:=sk
 refine fnD T.t_q39.F S ⟨[false,false],[false,false,true],true⟩ _ ?hl rfl rfl fun cdv Ar outer s H E hr=>⟨_,(ad (cR (i:=2) S.nd rfl (Or.inl rfl) (cO aj))
  (ad (jL PassesOwn.never (aX gJ dB (aa 1) ac (aL _)) (ad (b8 (i:=2) rfl (QE.qf (aa 1)))
  (af (aT (i:=1) S.nd rfl (Or.inl rfl) (aE av dIx (aa 0) (aB bz dI (aa 1) ac) (fun _ _=>rfl))))))
  (af (bd (eL 2))))),fun ds q h=>?_⟩
 case hl=>intro ds q h; obtain ⟨ps,rs,k,rfl,_⟩:=h; rfl
 obtain ⟨ps,rs,k,rfl,hT,h0,h1,q0⟩:=h
 have hi:=hT.hi
 refine ⟨rfl,?_⟩
 refine ⟨fun j ρ=>∃ (k':Int) (acc:List Int),ρ=[some (ai ps),some (.int k'),some (ai acc)]∧0≤k'∧k'≤ps.length∧j=k'.toNat∧acc.length + k'.toNat≤24∧(∀ u,Up ps k' u→Up ps k (acc++u)),⟨_,k,[],rfl,h0,h1,rfl,by show 0 + k.toNat≤24; omega,fun u h=>h⟩,?_⟩
 rintro j ρ ⟨k',acc,rfl,h0',h1',rfl,hl,hu⟩
 refine (d9 (c:=decide (0<k')=true) (fun c=>?_) (fun c=>?_))
 ·have hk : 0<k':=by simpa using c
  have hp:=hT.up hk h1'
  refine ⟨rfl,by rw [aw]; omega,?_⟩
  refine a6 (bc (by omega) (by omega)) ?_
  refine ⟨(dH ps k').toNat,by omega,dH ps k',acc++[k'],?_,hp.1,by omega,rfl,by rw [List.length_append]; show acc.length + 1 + _≤24; omega,fun u h=>by rw [List.append_assoc]; exact hu _ (.step hk h)⟩
  rw [← eJ]; rfl
 ·have hk:k'=0:=by simp at c; omega
  subst hk
  exact q0 acc (hu [0] .zero)
theorem nJ (T:Txt K mg A):FnOk P w K mg base CX0 2 A.f_q36 A.d_q36 ["_law_parents_here","_law_ask_here"] (aQ [false,false] true (sQ)):=by
 have S:=tW
 refine fnD T.t_q36.F S ⟨[false,false],[false,false,false,false,false],true⟩ _ ?hl rfl rfl fun cdv Ar outer s H E hr=>⟨_,(ad (aT (i:=2) S.nd rfl (Or.inr rfl) (QF.qe (aO (oR T) hr T.t_q39 (ap (aa 0) (ap (aE av dIx (aa 1) ac (fun _ _=>rfl)) ao)))))
  (ad (aT (i:=3) S.nd rfl (Or.inr rfl) (QF.qe (aO (oR T) hr T.t_q39 (ap (aa 0) (ap (aE av dIx (aa 1) ac (fun _ _=>rfl)) ao)))))
  (ad (kE (i:=4) ["_law_tie"] [3] ⟨rfl,rfl,by decide +kernel,rfl,rfl,(by first | exact trivial | exact ⟨rfl,trivial⟩ | exact ⟨rfl,rfl,trivial⟩ | exact ⟨rfl,rfl,rfl,trivial⟩ | exact ⟨rfl,rfl,rfl,rfl,trivial⟩),rfl⟩ rfl S.nd rfl (Or.inl rfl) (bS (aa 2)) (ce 0) (fun _ _ _ _=>⟨(a9 (i:=0) (show List.Nodup (["_law_tie","_law_other"]:List Str) by decide +kernel) rfl (Or.inl rfl)),(fU (aX fJ dIn (aa 0) (aa 1) rfl)),(aa 0)⟩))
  (af (bd (QF.qm (j6 fq pK rfl T.z_sorted iI (ae (qe_mk tY dCat (aa 4) (eK ["_law_tie"] [2] ⟨rfl,rfl,by decide +kernel,rfl,rfl,(by first | exact trivial | exact ⟨rfl,trivial⟩ | exact ⟨rfl,rfl,trivial⟩ | exact ⟨rfl,rfl,rfl,trivial⟩ | exact ⟨rfl,rfl,rfl,rfl,trivial⟩),rfl⟩ rfl (bS (aa 3)) (ce 0) (fun _ _ _ _=>⟨(a9 (i:=0) (show List.Nodup (["_law_tie","_law_one"]:List Str) by decide +kernel) rfl (Or.inl rfl)),(fU (aX fJ dIn (aa 0) (aa 1) rfl)),(aa 0)⟩))) aj)))))))),fun ds q h=>?_⟩
 case hl=>intro ds q h; obtain ⟨ps,rs,a,b,rest,rfl,_⟩:=h; rfl
 obtain ⟨ps,rs,a,b,rest,rfl,hT,a0,a1,b0,b1,q0⟩:=h
 have hi:=hT.hi
 have i0:atI (D.int a :: D.int b :: rest) 0=some (.int a):=dR (j:=0) rfl
 have i1:atI (D.int a :: D.int b :: rest) 1=some (.int b):=dR (j:=1) rfl
 refine a6 i0 ?_
 refine ⟨ps,rs,a,rfl,hT,a0,a1,fun va hua=>?_⟩
 refine a6 i1 ?_
 refine ⟨ps,rs,b,rfl,hT,b0,b1,fun vb hub=>?_⟩
 have hl:=hua.len hT a1
 have hl2:=hub.len hT b1
 rw [List.length_append] at hl hl2
 refine ⟨by rw [aw]; simp at hl; omega,?_⟩
 refine d6 (filD fun x=>!vb.contains x) ?_ ?_
 ·intro d hd k hk
  obtain ⟨x,hx,rfl⟩:=cf hd
  refine ⟨rfl,iH vb,?_⟩
  change k (if (!vb.contains x)=true then some (.int x) else none) at hk
  show if (!inD (.int x) (vb.map D.int))=true then k (some (.int x)) else k none
  rw [jV]
  cases e:vb.contains x with
  | true=>rw [e] at hk; exact hk
  | false=>rw [e] at hk; exact hk
 rw [f9]
 have hf1:=List.length_filter_le (fun x=>!vb.contains x) va
 have hf2:=List.length_filter_le (fun x=>!va.contains x) vb
 simp at hl hl2
 refine ⟨by rw [aw]; omega,?_⟩
 refine d6 (filD fun x=>!va.contains x) ?_ ?_
 ·intro d hd k hk
  obtain ⟨x,hx,rfl⟩:=cf hd
  refine ⟨rfl,iH va,?_⟩
  change k (if (!va.contains x)=true then some (.int x) else none) at hk
  show if (!inD (.int x) (va.map D.int))=true then k (some (.int x)) else k none
  rw [jV]
  cases e:va.contains x with
  | true=>rw [e] at hk; exact hk
  | false=>rw [e] at hk; exact hk
 rw [f9]
 refine ⟨by rw [aw,aw]; omega,?_⟩
 rw [← List.map_append]
 refine ⟨_,rfl,by rw [List.length_append]; omega,aZ _,?_⟩
 rw [← qF hT a0 b0 a1 b1 hua hub]
 exact q0
end
end K69
namespace K69
open PySem L2
section
variable {P:Program} {w:World} {K:PySem.W.Frag} {mg:Str→Option Value} {base:Heap} {A:Adr}
def qT:SpD:=fun ds q=>∃ ps rs l w s,ds=[aR ps rs,ai l,ai w,.int s]∧Tree ps rs∧(∀ t∈w,0<t∧t≤(ps.length:Int))∧w.length≤1000∧l.length=ps.length∧q (.bl (cm rs s w l).isEmpty) []
theorem sB (T:Txt K mg A):FnOk P w K mg base CX0 1 A.f_q29 A.d_q29 ["_law_tree","_law_taken","_law_way_here","_law_size"] (aQ [false,false,false,false] false (qT)):=by
 have S:=sC
 refine fnD T.t_q29.F S ⟨[false,false,false,false],[false,false,false,false],false⟩ _ ?hl rfl rfl fun cdv Ar outer s H E hr=>⟨_,(af (aK (cK (cC hr.units) dEq (eK ["_law_tie"] [3,1,0] ⟨rfl,rfl,by decide +kernel,rfl,rfl,(by first | exact trivial | exact ⟨rfl,trivial⟩ | exact ⟨rfl,rfl,trivial⟩ | exact ⟨rfl,rfl,rfl,trivial⟩ | exact ⟨rfl,rfl,rfl,rfl,trivial⟩),rfl⟩ rfl (bS (aa 2)) (ce 0) (fun _ _ _ _=>⟨(a9 (i:=0) (show List.Nodup (["_law_tie","_law_size","_law_taken","_law_tree"]:List Str) by decide +kernel) rfl (Or.inl rfl)),(fU (aX gJ dB (aB bo dI (aE av dIx (aa 2) (aB bz dI (aa 0) ac) (fun _ _=>rfl)) (aa 1)) (aE av dIx (aE av dIx (aa 3) ac (fun _ _=>rfl)) (aB bz dI (aa 0) ac) (fun _ _=>rfl)) (aL _))),(aa 0)⟩)) (em aj) (aL _)))),fun ds q h=>?_⟩
 case hl=>intro ds q h; obtain ⟨ps,rs,l,w,s,rfl,_⟩:=h; rfl
 obtain ⟨ps,rs,l,w,s,rfl,hT,hw,hwl,hl,q0⟩:=h
 have hlr:=hT.len
 refine ⟨by rw [aw]; omega,?_⟩
 refine d6 (fY rs s l) ?_ ?_
 ·intro d hd k hk
  obtain ⟨t,ht,rfl⟩:=cf hd
  have hm:=hw t ht
  refine a6 (bc (by omega) (by omega)) ?_
  refine a6 (bc (by omega) (by omega)) ?_
  have e:fY rs s l (.int t)=if decide (rs.getD (t - 1).toNat 0<l.getD (t - 1).toNat 0 + s)=true then some (.int t) else none:=rfl
  rw [e] at hk
  show if decide (rs.getD (t - 1).toNat 0<l.getD (t - 1).toNat 0 + s)=true then k (some (.int t)) else k none
  by_cases h:decide (rs.getD (t - 1).toNat 0<l.getD (t - 1).toNat 0 + s)=true
  ·rw [if_pos h] at hk ⊢; exact hk
  ·rw [if_neg h] at hk ⊢; exact hk
 rw [e9]
 refine ⟨cn _,cn [],?_⟩
 have e:eqD (ai (cm rs s w l)) (ai [])=(cm rs s w l).isEmpty:=by rw [eqDi]; cases cm rs s w l <;> simp
 rw [← e] at q0
 exact q0
def sO:SpD:=fun ds q=>∃ ps rs l b,ds=[aR ps rs,ai l,.bl b]∧Tree ps rs∧l.length=ps.length∧q (dQs (List.zipWith (gPr b) l rs)) []
theorem gPr_d (b:Bool) (x r:Int):dQ (gPr b x r) = .tup [.int (if dW b x r=true then 1 else 0),.int 1]:=by
 unfold gPr
 cases dW b x r <;> rfl
theorem nN (T:Txt K mg A):FnOk P w K mg base CX0 1 A.f_q17 A.d_q17 ["_law_tree","_law_taken","_law_sized"] (aQ [false,false,false] true (sO)):=by
 have S:=tR
 refine fnD T.t_q17.F S ⟨[false,false,false],[false,false,false,true,false,false],true⟩ _ ?hl rfl rfl fun cdv Ar outer s H E hr=>⟨_,(ad (cR (i:=3) S.nd rfl (Or.inl rfl) (cO aj))
  (ad (cF PassesOwn.never rfl (gf rfl T.z_range (ae (aF aD dz rfl T.z_len bq (ae (aa 1) aj)) aj)) (aH (i:=4) S.nd rfl (Or.inl rfl)) (ad (aT (i:=5) S.nd rfl (Or.inl rfl) (cK (cC hr.units) dEq (aE av dIx (aa 1) (aa 4) (fun _ _=>rfl)) (aE av dIx (aE av dIx (aa 0) ac (fun _ _=>rfl)) (aa 4) (fun _ _=>rfl)) (aL _)))
  (ad (ik (aY (aV (aa 2)) (af (aT (i:=5) S.nd rfl (Or.inl rfl) (cK gJ dB (aB dA dIC ac (aE av dIx (aa 1) (aa 4) (fun _ _=>rfl))) (aE av dIx (aE av dIx (aa 0) ac (fun _ _=>rfl)) (aa 4) (fun _ _=>rfl)) (aL _)))) aG))
  (af (b8 (i:=3) rfl (QE.qf (cX (ae (nj mw dInt1 rfl T.z_int pW (ae (aa 5) aj)) (ae ac aj)))))))))
  (af (bd (eL 3))))),fun ds q h=>?_⟩
 case hl=>intro ds q h; obtain ⟨ps,rs,l,b,rfl,_⟩:=h; rfl
 obtain ⟨ps,rs,l,b,rfl,hT,hl,q0⟩:=h
 have hlr:=hT.len
 have hi:=hT.hi
 refine ⟨rfl,?_⟩
 refine ⟨⟨by rw [aw]; omega,by rw [aw]; omega⟩,?_⟩
 refine ⟨fun i ρ=>∃ v4 v5,ρ=[some (aR ps rs),some (ai l),some (.bl b),some (dQs ((List.zipWith (gPr b) l rs).take i)),v4,v5],⟨_,_,rfl⟩,?_,?_⟩
 ·rintro i d ρ hd ⟨v4,v5,rfl⟩
  obtain ⟨hi2,rfl⟩:=fK hd
  have hi3:i<l.length:=by revert hi2; rw [aw]; omega
  refine a6 (bc (by omega) (by omega)) ?_
  refine a6 (bc (by omega) (by omega)) ?_
  have ei:(0 + (i:Int)).toNat=i:=by omega
  refine ⟨fun ρ=>ρ=[some (aR ps rs),some (ai l),some (.bl b),some (dQs ((List.zipWith (gPr b) l rs).take i)),some (.int (0 + i)),some (.bl (dW b (l.getD i 0) (rs.getD i 0)))],?_,?_⟩
  ·cases b with
   | false =>
    have e:decide (l.getD (0 + (i:Int)).toNat 0=rs.getD (0 + (i:Int)).toNat 0)=dW false (l.getD i 0) (rs.getD i 0):=by rw [ei]; rfl
    rw [← e]; rfl
   | true =>
    refine a6 (bc (by omega) (by omega)) ?_
    refine ⟨Or.inl ⟨by decide,by decide⟩,?_⟩
    refine a6 (bc (by omega) (by omega)) ?_
    have e:decide (rs.getD (0 + (i:Int)).toNat 0<2 * l.getD (0 + (i:Int)).toNat 0)=dW true (l.getD i 0) (rs.getD i 0):=by rw [ei]; rfl
    rw [← e]; rfl
  ·rintro ρ rfl
   refine ⟨rfl,?_⟩
   refine ⟨by rw [List.length_map,List.length_take,List.length_zipWith]; omega,?_⟩
   refine ⟨some (.int (0 + i)),some (.bl (dW b (l.getD i 0) (rs.getD i 0))),?_⟩
   have hz:(List.zipWith (gPr b) l rs)[i]? = some (gPr b (l.getD i 0) (rs.getD i 0)):=by
    rw [List.getElem?_zipWith,List.getElem?_eq_getElem hi3,List.getElem?_eq_getElem (show i<rs.length by omega),List.getD_eq_getElem?_getD,List.getD_eq_getElem?_getD,List.getElem?_eq_getElem hi3,List.getElem?_eq_getElem (show i<rs.length by omega)]; rfl
   rw [List.take_add_one,hz]
   show _=[_,_,_,some (dQs (_++[_])),_,_]
   unfold dQs
   rw [List.map_append]
   show _=[_,_,_,some (D.lst (_++[dQ _])),_,_]
   rw [gPr_d]; rfl
 ·rintro ρ ⟨v4,v5,rfl⟩
  rw [show (ko 0 ((l.map D.int).length:Int).toNat).length=l.length by rw [eg,aw]; omega,List.take_of_length_le (by rw [List.length_zipWith]; omega)]
  exact q0
def pP (Cc:Addr):SpD:=fun ds q=>∃ ps rs b cs hs,ds=[bQ Cc ps rs b cs hs,aR ps rs,.tup [ai (ay ps cs hs),bu cs,ai hs],.bl b]∧Tree ps rs∧AsksOk ps cs∧KeepOk cs.length hs∧q (.bl true) []
theorem rW (T:Txt K mg A):FnOk P w K mg base CX0 12 A.f_q2 A.d_q2 ["_law_gate","_law_tree","_law_state","_law_sized"] (aQ [false,false,false,false] false ((pP A.c_q38))):=by
 have S:=sc_q2
 refine fnD T.t_q2.F S ⟨[false,false,false,false],[false,false,false,false,false,false,false,true],false⟩ _ ?hl rfl rfl fun cdv Ar outer s H E hr=>⟨_,(ad (gk (aa 2) (cW rfl (aJ (aH (i:=4) S.nd rfl (Or.inl rfl)) (aJ (aH (i:=5) S.nd rfl (Or.inl rfl)) (aJ (aH (i:=6) S.nd rfl (Or.inl rfl)) cb))) (aq (aq (aq ba)))))
  (ad (aY (QW.qt (h7 (aX (cE hr.units) dNe (QF.qe (bt (eu T) hr T.k_q38 T.t_q38_asks (dU (aa 0)))) (aa 5) (aL _)) (fh (aX (cE hr.units) dNe (QF.qe (bt (cS T) hr T.k_q38 T.t_q38_kept (dU (aa 0)))) (aa 6) (aL _))))) (af (aK ci)) aG)
  (ad (aY (aX (cE hr.units) dNe (QF.qe (bt (cZ T) hr T.k_q38 T.t_q38_prices (dU (aa 0)))) (QF.qe (aO (nN T) hr T.t_q17 (ap (aa 1) (ap (aa 4) (ap (aa 3) ao))))) (aL _)) (af (aK ci)) aG)
  (ad (qs (i:=7) PassesOwn.never rfl S.nd rfl (Or.inl rfl) (k8 (aS (QF.qm (bt (eu T) hr T.k_q38 T.t_q38_asks (dU (aa 0)))) (aS (QF.qm (bt (cS T) hr T.k_q38 T.t_q38_kept (dU (aa 0)))) (aS (QF.qm (bt (cZ T) hr T.k_q38 T.t_q38_prices (dU (aa 0)))) cQ)))) (ad (aY (QT.bor [7] (bw (aV (cH rfl T.z_isinstance aN (aa 7) (bV (v:=.ty "list") rfl T.z_list bM rfl))))) (af (aK ci)) aG)
  (af (b8 (i:=7) rfl (QE.qf ur)))))
  (ad (aY (QW.qt (h7 (aX (cE hr.units) dNe (eK ["_law_one"] [] ⟨rfl,rfl,by decide +kernel,rfl,rfl,(by first | exact trivial | exact ⟨rfl,trivial⟩ | exact ⟨rfl,rfl,trivial⟩ | exact ⟨rfl,rfl,rfl,trivial⟩ | exact ⟨rfl,rfl,rfl,rfl,trivial⟩),rfl⟩ rfl (bS (QF.qe (bt (cS T) hr T.k_q38 T.t_q38_kept (dU (aa 0))))) (ce 0) (fun _ _ _ _=>⟨(a9 (i:=0) (show List.Nodup (["_law_one"]:List Str) by decide +kernel) rfl (Or.inl rfl)),(fU (aV (cH rfl T.z_isinstance aN (aa 0) (bV (v:=.ty "bool") rfl T.z_bool jA rfl)))),(aa 0)⟩)) (em aj) (aL _)) (fh (aX (cE hr.units) dNe (QF.qe (bt (eu T) hr T.k_q38 T.t_q38_asks (dU (aa 0)))) (aa 5) (aL _))))) (af (aK ci)) aG)
  (af (aK (eC (cK (cC hr.units) dEq (QF.qe (bt (cS T) hr T.k_q38 T.t_q38_kept (dU (aa 0)))) (aa 6) (aL _)) (gj (cK (cC hr.units) dEq (QF.qe (bt (cZ T) hr T.k_q38 T.t_q38_prices (dU (aa 0)))) (QF.qe (aO (nN T) hr T.t_q17 (ap (aa 1) (ap (aa 4) (ap (aa 3) ao))))) (aL _))))))))))),fun ds q h=>?_⟩
 case hl=>intro ds q h; obtain ⟨ps,rs,b,cs,hs,rfl,_⟩:=h; rfl
 obtain ⟨ps,rs,b,cs,hs,rfl,hT,ha,hk,q0⟩:=h
 have hkl:=hk.len
 have hal:=ha.len
 have hll:=bO ps cs hs
 have oA:okD (bu cs)=true:=lO (i7 0 cs) (by decide)
 have eA:eqD (bu cs) (bu cs)=true:=fN 2 _ (i7 0 cs)
 have eH:eqD (ai hs) (ai hs)=true:=by rw [eqDi]; simp
 refine ⟨⟨rfl,by decide +kernel⟩,?_⟩
 refine ⟨ps,rs,b,cs,hs,rfl,?_⟩
 refine ⟨oA,oA,?_⟩
 rw [eA]
 refine ⟨⟨rfl,by decide +kernel⟩,?_⟩
 refine ⟨ps,rs,b,cs,hs,rfl,?_⟩
 refine ⟨cn _,cn _,?_⟩
 rw [eH]
 refine ⟨⟨rfl,by decide +kernel⟩,?_⟩
 refine ⟨ps,rs,b,cs,hs,rfl,hT,ha,hk,?_⟩
 refine ⟨ps,rs,_,b,rfl,hT,hll,?_⟩
 refine ⟨gS _,gS _,?_⟩
 have eP:eqD (dQs (gPrs ps rs b cs hs)) (dQs (List.zipWith (gPr b) (ay ps cs hs) rs))=true:=ly _
 rw [eP]
 refine ⟨⟨rfl,by decide +kernel⟩,?_⟩
 refine ⟨ps,rs,b,cs,hs,rfl,?_⟩
 refine ⟨⟨rfl,by decide +kernel⟩,?_⟩
 refine ⟨ps,rs,b,cs,hs,rfl,?_⟩
 refine ⟨⟨rfl,by decide +kernel⟩,?_⟩
 refine ⟨ps,rs,b,cs,hs,rfl,hT,ha,hk,?_⟩
 refine ⟨fun i ρ=>∃ v,ρ=[some (bQ A.c_q38 ps rs b cs hs),some (aR ps rs),some (.tup [ai (ay ps cs hs),bu cs,ai hs]),some (.bl b),some (ai (ay ps cs hs)),some (bu cs),some (ai hs),v],⟨_,rfl⟩,?_,?_⟩
 ·rintro k d ρ hd ⟨v,rfl⟩
  have hls:∃ ds,d = .lst ds∧ds.length≤100:=by
   match k,hd with
   | 0,hd=>cases hd; exact ⟨_,rfl,by rw [bT]; omega⟩
   | 1,hd=>cases hd; exact ⟨_,rfl,by rw [aw]; omega⟩
   | 2,hd=>cases hd; exact ⟨_,rfl,by rw [List.length_map]; unfold gPrs; rw [List.length_zipWith]; have:=hT.hi; omega⟩
  obtain ⟨ds,rfl,hdl⟩:=hls
  refine ⟨rfl,by omega,?_⟩
  exact ⟨some (.lst (ds++[.non])),rfl⟩
 ·rintro ρ ⟨v,rfl⟩
  refine ⟨⟨rfl,by decide +kernel⟩,?_⟩
  refine ⟨ps,rs,b,cs,hs,rfl,?_⟩
  refine ⟨by rw [aw]; omega,?_⟩
  refine d6 (fun _=>none) ?_ ?_
  ·intro d hd k hk
   obtain ⟨t,ht,rfl⟩:=cf hd
   exact hk
  have e0:(hs.map D.int).filterMap (fun _=>(none:Option D))=[]:=by simp
  rw [e0]
  refine ⟨cn [],cn [],?_⟩
  have e1:eqD (ai []) (ai [])=true:=by rw [eqDi]; rfl
  rw [show eqD (.lst []) (.lst [])=true from e1]
  refine ⟨⟨rfl,by decide +kernel⟩,?_⟩
  refine ⟨ps,rs,b,cs,hs,rfl,?_⟩
  refine ⟨oA,oA,?_⟩
  rw [eA]
  refine ⟨⟨rfl,by decide +kernel⟩,?_⟩
  refine ⟨ps,rs,b,cs,hs,rfl,?_⟩
  refine ⟨cn _,cn _,?_⟩
  rw [eH]
  refine ⟨⟨rfl,by decide +kernel⟩,?_⟩
  refine ⟨ps,rs,b,cs,hs,rfl,hT,ha,hk,?_⟩
  refine ⟨ps,rs,_,b,rfl,hT,hll,?_⟩
  refine ⟨gS _,gS _,?_⟩
  rw [eP]
  exact q0
theorem ij {ps rs:List Int} {b:Bool} {cs:List Ask} {hs:List Int} {a:Ask} (h:GateI ps rs b cs hs):ay ps (cs++[bX b a]) (bH ps rs cs hs a)=if bR ps rs cs hs a=true then cY (ay ps cs hs) (aM ps a) a.size else ay ps cs hs:=by
 have lapp:=iz (ps:=ps) (x:=bX b a) h.keep.lo
 by_cases c:bR ps rs cs hs a=true
 ·rw [if_pos c,show bH ps rs cs hs a=hs++[(cs.length:Int)] from if_pos c,dZ,lapp]
  have:=ig (cs:=cs) (x:=bX b a)
  unfold gM at this
  show dn ps (cs++[bX b a]) (ay ps cs hs) (cs.length:Int)=_
  unfold dn
  rw [this]; rfl
 ·rw [if_neg c,show bH ps rs cs hs a=hs from if_neg c,lapp]
def qg (Cc:Addr):SpD:=fun ds q=>∃ ps rs b cs hs a,ds=[bQ Cc ps rs b cs hs,aR ps rs,.tup [ai (ay ps cs hs),bu cs,ai hs],bv a,.bl b]∧Tree ps rs∧GateI ps rs b cs hs∧AskOk ps a∧fD ps rs b a=false∧cs.length<30 ∧
 ∀ cs' hs',cs'.length=cs.length + 1→GateI ps rs b cs' hs'→q (.bl true) [some (bQ Cc ps rs b cs' hs'),some (.tup [ai (ay ps cs' hs'),bu cs',ai hs'])]
theorem sH (T:Txt K mg A):FnOk P w K mg base CX0 12 A.f_q27 A.d_q27 ["_law_gate","_law_tree","_law_state","_law_ask_here","_law_sized"] (aQ [true,false,true,false,false] false ((qg A.c_q38))):=by
 have S:=tX
 refine fnD T.t_q27.F S ⟨[true,false,true,false,false],[true,false,true,false,false,true,true,true,false,false,false,false],false⟩ _ ?hl rfl rfl fun cdv Ar outer s H E hr=>⟨_,(mF 2 5 6 7 [true,false,true,false,false,true,true,true,false,false,false,false] rfl S.nd rfl rfl rfl rfl (Or.inl rfl) (Or.inl rfl) (Or.inl rfl)
  (ad (aT (i:=8) S.nd rfl (Or.inl rfl) (QF.qe (aO (nJ T) hr T.t_q36 (ap (aE av dIx (aa 1) ac (fun _ _=>rfl)) (ap (aa 3) ao)))))
  (ad (aT (i:=9) S.nd rfl (Or.inl rfl) (QE.bor [5] (ar (sB T) hr T.t_q29 (ap (aa 1) (ap (aa 5) (ap (aa 8) (ap (aE av dIx (aa 3) ac (fun _ _=>rfl)) ao)))))))
  (ad (aT (i:=10) S.nd rfl (Or.inl rfl) (gW (jK T) hr T.k_q38 T.t_q38_come (qm_m 0 (ap (aa 3) ao))))
  (ad (aY (QW.qt (h7 (bw (aV (cH rfl T.z_isinstance aN (aa 10) (bV (v:=.ty "bool") rfl T.z_bool jA rfl)))) (fh (aX (cE hr.units) dNe (aa 10) (aa 9) (aL _))))) (af (aK ci)) aG)
  (ad (ik (aY (aV (aa 9)) (ad (b8 (i:=7) rfl (QF.bor [6] (QE.qf (aF aD dz rfl T.z_len bq (ae (aa 6) aj)))))
  (af (cF PassesOwn.never rfl (bS (aa 8)) (aH (i:=11) S.nd rfl (Or.inl rfl)) (af (jp (i:=5) rfl (QF.bor [5] (QE.qf (aB bo dI (aE av dIx (aa 5) (aB bz dI (aa 11) ac) (fun _ _=>rfl)) (aE av dIx (aa 3) ac (fun _ _=>rfl))))) (aB bz dI (aa 11) ac)))))) aG))
  (ad (b8 (i:=6) rfl (QE.qf (cX (ae (aE av dIx (aa 3) ac (fun _ _=>rfl)) (ae (aE av dIx (aa 3) ac (fun _ _=>rfl)) (ae (aE av dIx (aa 3) ac (fun _ _=>rfl)) (ae (aE av dIx (aa 3) ac (fun _ _=>rfl)) aj)))))))
  (af (aK ci))))))))),fun ds q h=>?_⟩
 case hl=>intro ds q h; obtain ⟨ps,rs,b,cs,hs,a,rfl,_⟩:=h; rfl
 obtain ⟨ps,rs,b,cs,hs,a,rfl,hT,hG,ha,hw,hl,q0⟩:=h
 have hal:=hG.asks.len
 have hkl:=hG.keep.len
 have hll:=bO ps cs hs
 refine ⟨rfl,Nat.le_of_ble_eq_true rfl,Nat.le_of_ble_eq_true rfl,Nat.le_of_ble_eq_true rfl,_,_,_,rfl,?_⟩
 refine ⟨ps,rs,a.one,a.other,[.int a.size,.int a.worth],rfl,hT,ha.ends.a0,ha.ends.a1,ha.ends.b0,ha.ends.b1,?_⟩
 refine ⟨ps,rs,ay ps cs hs,aM ps a,a.size,rfl,hT,fun t ht=>cA hT ha.ends ht,Nat.le_trans (eM hT ha.ends) (by decide),hll,?_⟩
 refine ⟨rfl,?_⟩
 refine ⟨⟨rfl,by decide +kernel⟩,?_⟩
 refine ⟨ps,rs,b,cs,hs,a,rfl,hT,ha,hw,hl,hG.asks,hG.keep,?_⟩
 have eB:eqD (.bl (bR ps rs cs hs a)) (.bl (bR ps rs cs hs a))=true:=by rw [t7]; simp
 refine ⟨rfl,rfl,?_⟩
 show (if (!eqD (.bl (bR ps rs cs hs a)) (.bl (bR ps rs cs hs a)))=true then _ else _)
 rw [eB]
 refine ⟨fun ρ=>∃ v,ρ=[some (bQ A.c_q38 ps rs b (cs++[bX b a]) (bH ps rs cs hs a)),some (aR ps rs),none,some (bv a),some (.bl b),some (ai (ay ps (cs++[bX b a]) (bH ps rs cs hs a))),some (bu cs),some (ai (bH ps rs cs hs a)),some (ai (aM ps a)),some (.bl (bR ps rs cs hs a)),some (.bl (bR ps rs cs hs a)),v],?_,?_⟩
 ·refine (d9 (c:=bR ps rs cs hs a=true) (fun c=>?_) (fun c=>?_))
  ·rw [ij hG,if_pos c]
   refine ⟨rfl,by rw [aw]; omega,?_⟩
   refine ⟨fun j ρ=>∃ v,ρ=[some (bQ A.c_q38 ps rs b (cs++[bX b a]) (bH ps rs cs hs a)),some (aR ps rs),none,some (bv a),some (.bl b),some (ai (cY (ay ps cs hs) ((aM ps a).take j) a.size)),some (bu cs),some (ai (bH ps rs cs hs a)),some (ai (aM ps a)),some (.bl (bR ps rs cs hs a)),some (.bl (bR ps rs cs hs a)),v],⟨none,?_⟩,?_,?_⟩
   ·rw [show bH ps rs cs hs a=hs++[(cs.length:Int)] from if_pos c,bT,← eJ]; rfl
   ·rintro j d ρ hd ⟨v,rfl⟩
    obtain ⟨t,ht,rfl⟩:=d8 hd
    have hm:=cA hT ha.ends (List.mem_of_getElem? ht)
    have hlen:(cY (ay ps cs hs) ((aM ps a).take j) a.size).length=ps.length:=by rw [fQ,bO]
    refine a6 (bc (by omega) (by omega)) ?_
    refine ⟨rfl,?_⟩
    show (match ixN ((cY (ay ps cs hs) ((aM ps a).take j) a.size).map D.int).length (t - 1) with | some _=>_ | none=>False)
    rw [aw,jw (by omega) (by omega)]
    refine ⟨some (.int t),?_⟩
    rw [List.take_add_one,show (aM ps a)[j]? = some t from ht]
    show _=[_,_,_,_,_,some (ai (cY _ (_++[t]) _)),_,_,_,_,_,_]
    rw [iT,iB,← iX]; rfl
   ·rintro ρ ⟨v,rfl⟩
    refine ⟨v,?_⟩
    rw [aw,show (iy ps a.one a.other)=aM ps a from rfl,List.take_length]
  ·rw [ij hG,if_neg c,show bH ps rs cs hs a=hs from if_neg c]
   exact ⟨_,rfl⟩
 ·rintro ρ ⟨v,rfl⟩
  have hstep:=mM hT hG hl ha hw
  refine ⟨rfl,by rw [bT]; omega,?_⟩
  refine ⟨_,_,_,rfl,rfl,rfl,?_⟩
  have ew:bv (bX b a) = .tup [.int a.one,.int a.other,.int a.size,.int a.size]:=by
   have h1:=hstep.wor (bX b a) (List.mem_append_right _ (.head _))
   show D.tup [.int a.one,.int a.other,.int a.size,.int (bX b a).worth]=_
   rw [h1]; rfl
  have key:=q0 (cs++[bX b a]) (bH ps rs cs hs a) (by rw [List.length_append]; rfl) hstep
  rw [show bu (cs++[bX b a]) = .lst (cs.map bv++[.tup [.int a.one,.int a.other,.int a.size,.int a.size]]) by rw [← ew,gq]] at key
  exact key
end
end K69
namespace K69
open PySem L2
section
variable {P:Program} {w:World} {K:PySem.W.Frag} {mg:Str→Option Value} {base:Heap} {A:Adr}
def qk:SpD:=fun ds q=>∃ c m ps rs,ds=[ai [c,m],aR ps rs]∧0≤c∧Tree ps rs∧(∀ (i:Nat) (x:Int),rs[i]? = some x→2≤x)∧∀ a c' m',AskOk ps a→fD ps rs true a=false→0≤c'→q (bv a) [some (ai [c',m'])]
theorem sN (T:Txt K mg A):FnOk P w K mg base CX0 3 A.f_q35 A.d_q35 ["_law_pool_here","_law_tree"] (aQ [true,false] false (qk)):=by
 have S:=ud
 refine fnD T.t_q35.F S ⟨[true,false],[true,false,false,false,false,false],false⟩ _ ?hl rfl rfl fun cdv Ar outer s H E hr=>⟨_,(ad (gk (ar (tP T) hr T.t_q28 (dF 0 (ap (aF aD dz rfl T.z_len bq (ae (aE av dIx (aa 1) ac (fun _ _=>rfl)) aj)) ao))) (cW rfl (aJ (aH (i:=2) S.nd rfl (Or.inl rfl)) (aJ (aH (i:=3) S.nd rfl (Or.inl rfl)) cb)) (aq (aq ba))))
  (ad (aT (i:=4) S.nd rfl (Or.inl rfl) (aB lN dIC (aF (nh rfl) dMinL rfl T.z_min gx (ae (eK ["_law_tie"] [1] ⟨rfl,rfl,by decide +kernel,rfl,rfl,(by first | exact trivial | exact ⟨rfl,trivial⟩ | exact ⟨rfl,rfl,trivial⟩ | exact ⟨rfl,rfl,rfl,trivial⟩ | exact ⟨rfl,rfl,rfl,rfl,trivial⟩),rfl⟩ rfl (bS (QF.qe (aO (nJ T) hr T.t_q36 (ap (aE av dIx (aa 1) ac (fun _ _=>rfl)) (ap (cX (ae (aa 2) (ae (aa 3) aj))) ao))))) (ce 0) (fun _ _ _ _=>⟨(a9 (i:=0) (show List.Nodup (["_law_tie","_law_tree"]:List Str) by decide +kernel) rfl (Or.inl rfl)),fG,(aE av dIx (aE av dIx (aa 1) ac (fun _ _=>rfl)) (aB bz dI (aa 0) ac) (fun _ _=>rfl))⟩)) aj)) ac))
  (ad (aT (i:=5) S.nd rfl (Or.inl rfl) (aE av dIx (em (ae (aa 4) (ae (ar (lq T) hr T.t_q16 (dF 0 (ap (aa 4) ao))) aj))) (ar (bP T) hr T.t_q31 (dF 0 (ap ac ao))) (fun _ _=>rfl)))
  (af (aK (cX (ae (aa 2) (ae (aa 3) (ae (aa 5) (ae (ar (lq T) hr T.t_q16 (dF 0 (ap (aB gr dIC ac ac) ao))) aj)))))))))),fun ds q h=>?_⟩
 case hl=>intro ds q h; obtain ⟨c,m,ps,rs,rfl,_⟩:=h; rfl
 obtain ⟨c,m,ps,rs,rfl,h0,hT,hr2,q0⟩:=h
 have hi:=hT.hi
 have hlo:=hT.lo
 have hlr:=hT.len
 refine ⟨c,m,ps.length,by rw [aw],h0,hlo,hi,fun a a2 c1 m1 a0 a1 b0 b1 hab h1=>?_⟩
 have he:Ends2 ps a a2:=⟨a0,a1,b0,b1,hab⟩
 refine ⟨ps,rs,a,a2,[],rfl,hT,a0,a1,b0,b1,?_⟩
 have hwl:=eM hT he
 refine ⟨by rw [aw]; omega,?_⟩
 refine gg (rz rs) ?_ ?_
 ·intro d hd k hk
  obtain ⟨t,ht,rfl⟩:=cf hd
  have hm:=cA hT he ht
  refine a6 (bc (by omega) (by omega)) ?_
  exact hk
 rw [mX]
 refine ⟨_,rfl,by rw [List.length_map]; exact qP hT he,fun least hl hmin=>?_⟩
 obtain ⟨t0,ht0,rfl⟩:=List.mem_map.mp hl
 have hm0:=cA hT he ht0
 have hrm:=hr2 (t0 - 1).toNat (rs.getD (t0 - 1).toNat 0) (by rw [List.getD_eq_getElem?_getD,List.getElem?_eq_getElem (by omega)]; rfl)
 have hrm2:=hT.room (t0 - 1).toNat (rs.getD (t0 - 1).toNat 0) (by rw [List.getD_eq_getElem?_getD,List.getElem?_eq_getElem (by omega)]; rfl)
 generalize hle:rs.getD (t0 - 1).toNat 0=least at hmin hrm hrm2
 refine ⟨⟨by decide,by decide⟩,?_⟩
 have hd1 : 1≤least / 2:=by omega
 have hd2:least / 2≤500000:=by omega
 refine ⟨c1,m1,least / 2,rfl,h1,hd1,by omega,fun size c2 m2 s0 s1 h2=>?_⟩
 refine ⟨c2,m2,2,rfl,h2,by decide,cG (n:=3) (by decide) (by decide +kernel),fun v c6 m6 v0 v1 h6=>?_⟩
 obtain ⟨y,hy,y1,y2⟩:∃ y:Int,atI [D.int (least / 2),D.int size] v=some (.int y)∧1≤y∧y≤least / 2:=by
  have:v=0∨v=1:=by omega
  rcases this with rfl | rfl
  ·exact ⟨_,rfl,by omega,by omega⟩
  ·exact ⟨_,rfl,s0,s1⟩
 refine a6 hy ?_
 refine ⟨⟨by decide,by decide,by decide⟩,?_⟩
 refine ⟨c6,m6,1000000000000,rfl,h6,by decide,by decide,fun worth c3 m3 w0 w1 h3=>?_⟩
 refine q0 ⟨a,a2,y,worth⟩ c3 m3 ⟨he,y1,by show y≤1000000; omega,w0,w1⟩ ?_ h3
 unfold fD
 rw [if_pos rfl]
 unfold iO
 rw [List.any_eq_false]
 intro t ht
 have:=hmin (rs.getD (t - 1).toNat 0) (List.mem_map.mpr ⟨t,ht,rfl⟩)
 show ¬ decide (rs.getD (t - 1).toNat 0<2 * y)=true
 rw [decide_eq_true_iff]; omega
end
end K69
namespace K69
open PySem L2
section
variable {P:Program} {w:World} {K:PySem.W.Frag} {mg:Str→Option Value} {base:Heap} {A:Adr}
abbrev GS:=List Ask×List Int
def dG (Cc:Addr) (ps rs:List Int) (b:Bool) (g:GS):D:=bQ Cc ps rs b g.1 g.2
def dSt (ps:List Int) (g:GS):D:=.tup [ai (ay ps g.1 g.2),bu g.1,ai g.2]
structure TwoG (ps rs:List Int) (b:Bool) (n:Nat) (gs:List GS):Prop where
 len:gs.length=2
 ok:∀ (j:Nat) (g:GS),gs[j]? = some g→GateI ps rs b g.1 g.2∧2 * g.1.length + j≤n + 1
theorem TwoG.start {ps rs:List Int} {b:Bool} (hT:Tree ps rs):TwoG ps rs b 0 [([],[]),([],[])]:=⟨rfl,fun j g h=>by
 match j,h with
 | 0,h=>cases h; exact ⟨rT hT,by decide⟩
 | 1,h=>cases h; exact ⟨rT hT,by decide⟩
 | j + 2,h=>simp at h⟩
theorem TwoG.step {ps rs:List Int} {b:Bool} {n k:Nat} {gs:List GS} {g g':GS} (h:TwoG ps rs b n gs) (hk:k=n % 2) (hg:gs[k]? = some g) (hG:GateI ps rs b g'.1 g'.2) (hl:g'.1.length=g.1.length + 1):TwoG ps rs b (n + 1) (gs.set k g'):=by
 refine ⟨by rw [List.length_set]; exact h.len,fun j x hx=>?_⟩
 rw [List.getElem?_set] at hx
 have h2:=(h.ok k g hg).2
 split at hx
 ·rename_i e
  subst e
  split at hx
  ·cases hx; exact ⟨hG,by omega⟩
  ·cases hx
 ·have:=h.ok j x hx; exact ⟨this.1,by omega⟩
theorem TwoG.at {ps rs:List Int} {b:Bool} {n k:Nat} {gs:List GS} (h:TwoG ps rs b n gs) (hk:k<2):∃ g,gs[k]? = some g:=⟨gs[k]'(by rw [h.len]; exact hk),List.getElem?_eq_getElem _⟩
theorem tp (T:Txt K mg A):FnOk P w K mg base CX0 13 A.f_law A.d_law ["_law_script"] (aQ [false] false (o3 K)):=by
 have S:=sL
 refine fnD T.t_law.F S ⟨[false],[false,false,false,true,true,true,false,true,false],false⟩ _ ?hl rfl rfl fun cdv Ar outer s H E hr=>⟨_,(ad (aT (i:=1) S.nd rfl (Or.inl rfl) (QF.qe (aO (ok_q9 T) hr T.t_q9 (qk_t (aO (jx T) hr T.t_q30 (ap (aa 0) (ap ac ao))) (ap ac ao)))))
  (ad (aT (i:=2) S.nd rfl (Or.inl rfl) (cX (ae (aa 1) (ae (QF.qe (aO (tV T) hr T.t_q21 (qk_t (aO (jx T) hr T.t_q30 (ap (aa 0) (ap ac ao))) (ap (aF aD dz rfl T.z_len bq (ae (aa 1) aj)) (ap ac ao))))) aj))))
  (ad (ik (aY (aX (cC hr.units) dEq (ar (bP T) hr T.t_q31 (qk_t (aO (jx T) hr T.t_q30 (ap (aa 0) (ap ac ao))) (ap ac ao))) ac (aL _)) (af (aT (i:=2) S.nd rfl (Or.inl rfl) (cX (ae (aa 1) (ae (eK ["_law_room"] [] ⟨rfl,rfl,by decide +kernel,rfl,rfl,(by first | exact trivial | exact ⟨rfl,trivial⟩ | exact ⟨rfl,rfl,trivial⟩ | exact ⟨rfl,rfl,rfl,trivial⟩ | exact ⟨rfl,rfl,rfl,rfl,trivial⟩),rfl⟩ rfl (bS (aE av dIx (aa 2) ac (fun _ _=>rfl))) (ce 0) (fun _ _ _ _=>⟨(a9 (i:=0) (show List.Nodup (["_law_room"]:List Str) by decide +kernel) rfl (Or.inl rfl)),fG,(aB bo dI ac (aB cN dIC (aa 0) ac))⟩)) aj))))) aG))
  (ad (jd (i:=3) S.nd rfl (Or.inl rfl) (ix (aS (QF.qm (b5 br hE rfl T.z_list bM (ae (aE av dIx (aa 2) ac (fun _ _=>rfl)) aj))) (aS (QF.qm (b5 br hE rfl T.z_list bM (ae (aE av dIx (aa 2) ac (fun _ _=>rfl)) aj))) cQ))))
  (ad (jd (i:=4) S.nd rfl (Or.inl rfl) (k8 (aS (QF.qm (QF.bor [3] (l4 (dg T) hr T.M_q38 T.t_Gate___init__.b rfl T.m_q38 (ae (aa 3) (ae ci aj))))) (aS (QF.qm (QF.bor [3] (l4 (dg T) hr T.M_q38 T.t_Gate___init__.b rfl T.m_q38 (ae (aa 3) (ae ci aj))))) cQ))))
  (ad (jz (i:=3) (rQ je nB) ac)
  (ad (rl (i:=3) (rQ je nB))
  (ad (jd (i:=5) S.nd rfl (Or.inl rfl) (k8 (aS (ix (aS (QF.qm (ny k9 dRep (em (ae ac aj)) (aF aD dz rfl T.z_len bq (ae (aa 1) aj)))) (aS (QF.qm (cO aj)) (aS (QF.qm (cO aj)) cQ)))) (aS (ix (aS (QF.qm (ny k9 dRep (em (ae ac aj)) (aF aD dz rfl T.z_len bq (ae (aa 1) aj)))) (aS (QF.qm (cO aj)) (aS (QF.qm (cO aj)) cQ)))) cQ))))
  (ad (cF PassesOwn.never rfl (i3 rfl T.z_range (ae ac (ae (aF (de rfl) nE rfl T.z_min gx (ae (aF aD dz rfl T.z_len bq (ae (aa 0) aj)) (ae ac aj))) aj))) (aH (i:=6) S.nd rfl (Or.inl rfl)) (ad (cR (i:=7) S.nd rfl (Or.inl rfl) (aO (jx T) hr T.t_q30 (ap (aa 0) (ap (aa 6) ao))))
  (ad (aT (i:=8) S.nd rfl (Or.inl rfl) (aB cN dIC (aa 6) ac))
  (ad (aY (bw (aV (oo 4 8 5 8 (sH T) hr T.t_q27 (s9 2) (nA 7 2 (sN T) hr T.t_q35) qk_bl))) (af (aK ci)) aG)
  (af (aY (QT.bor [4,5] (QW.qt (sM (aX (cC hr.units) dEq (ar (bP T) hr T.t_q31 (dF 7 (ap ac ao))) ac (aL _)) (p7 (bw (aV (ar (rW T) hr T.t_q2 (ap (aE av dIx (aa 4) (aa 8) (fun _ _=>rfl)) (ap (aa 2) (ap (aE av dIx (aa 5) (aa 8) (fun _ _=>rfl)) (ap ci ao))))))))))) (af (aK ci)) aG))))))
  (ad (cF PassesOwn.never rfl (gf rfl T.z_range (ae ac aj)) (aH (i:=8) S.nd rfl (Or.inl rfl)) (af (aY (QT.bor [4,5] (bw (aV (ar (rW T) hr T.t_q2 (ap (aE av dIx (aa 4) (aa 8) (fun _ _=>rfl)) (ap (aa 2) (ap (aE av dIx (aa 5) (aa 8) (fun _ _=>rfl)) (ap ci ao)))))))) (af (aK ci)) aG)))
  (af (aK ci)))))))))))),fun ds q h=>?_⟩
 case hl=>intro ds q h; obtain ⟨φ,ns,rfl,_⟩:=h; rfl
 obtain ⟨φ,ns,rfl,hφ,hl,q0⟩:=h
 refine ⟨φ,ns,0,rfl,hφ,by decide,by decide,fun c m h0=>?_⟩
 refine ⟨c,m,23,rfl,h0,by decide,by decide,fun ps c1 m1 hP _ h1=>?_⟩
 have hi:=hP.hi
 refine ⟨φ,ns,1,rfl,hφ,by decide,by decide,fun c2 m2 h2=>?_⟩
 refine ⟨c2,m2,ps.length,2,by rw [aw],h2,hP.lo,hP.hi,by decide,by decide,fun rs0 c5 m5 hR h5=>?_⟩
 have hT0:=hP.tree hR (by decide)
 refine ⟨fun ρ=>∃ rs,Tree ps rs∧(∀ (i:Nat) (x:Int),rs[i]? = some x→2≤x)∧ρ=[some (.scr φ ns),some (ai ps),some (aR ps rs),none,none,none,none,none,none],?_,?_⟩
 ·refine ⟨φ,ns,62,rfl,hφ,by decide,by decide,fun c6 m6 h6=>?_⟩
  refine ⟨c6,m6,2,rfl,h6,by decide,cG (n:=3) (by decide) (by decide +kernel),fun r3 c3 m3 _ _ h3=>?_⟩
  refine (d9 (c:=decide (r3=0)=true) (fun c=>?_) (fun c=>⟨rs0,hT0,fun i x h=>(hR.room i x h).1,rfl⟩))
  refine ⟨by rw [aw,← hT0.len]; omega,?_⟩
  refine pw (l:=rs0) (f:=D.int) (h:=fun r=>D.int (2 + r % 8)) ?_ ?_
  ·intro r hr k hk
   refine ⟨(show (0:Int)<8 by decide),?_⟩
   exact hk
  have e:(rs0.map fun r=>D.int (2 + r % 8))=(rs0.map fun r=>2 + r % 8).map D.int:=by rw [List.map_map]; rfl
  rw [e]
  have hR2:RoomOk ps.length 2 (rs0.map fun r=>2 + r % 8):=⟨by rw [List.length_map]; exact hR.len,fun j x hx=>?_⟩
  refine ⟨rs0.map fun r=>2 + r % 8,hP.tree hR2 (by decide),fun i x h=>(hR2.room i x h).1,rfl⟩
  rw [List.getElem?_map,Option.map_eq_some_iff] at hx
  obtain ⟨r,_,rfl⟩:=hx
  omega
 rintro ρ ⟨rs,hT,hr2,rfl⟩
 have hlr:=hT.len
 refine ⟨aZ _,aZ _,?_⟩
 refine ⟨ps,rs,true,rfl,hT,rfl,_,rfl,?_⟩
 refine ⟨ps,rs,true,rfl,hT,rfl,_,rfl,?_⟩
 refine ⟨_,rfl,0,_,rfl,rfl,_,_,rfl,rfl,rfl,by rw [aw]; omega,?_⟩
 refine ⟨_,rfl,1,_,rfl,rfl,_,_,rfl,rfl,?_⟩
 generalize jr ([]++[1]) _ _=v3
 have er:(List.replicate ((ps.map D.int).length:Int).toNat [D.int 0]).flatten=(ay ps [] []).map D.int:=by
  rw [aw,kd,show Int.toNat ((ps.length:Nat):Int)=ps.length by omega,iW]; rfl
 refine ⟨⟨by rw [aw]; omega,by rw [aw]; omega,by rw [aw]; simp; omega⟩,?_⟩
 rw [er]
 refine ⟨aZ _,rfl,rfl,?_⟩
 refine ⟨⟨by rw [aw]; omega,by rw [aw]; omega,by rw [aw]; simp; omega⟩,?_⟩
 rw [er]
 refine ⟨aZ _,rfl,rfl,?_⟩
 refine ⟨hφ,?_⟩
 refine ⟨⟨by decide,by decide,by split <;> omega,by split <;> omega⟩,?_⟩
 refine ⟨fun i ρ=>∃ gs v6 v7 v8,ρ=[some (.scr φ ns),some (ai ps),some (aR ps rs),some v3,some (.lst (gs.map (dG A.c_q38 ps rs true))),some (.lst (gs.map (dSt ps))),v6,v7,v8]∧TwoG ps rs true i gs,⟨_,_,_,_,rfl,TwoG.start hT⟩,?_,?_⟩
 ·rintro i d ρ hd ⟨gs,v6,v7,v8,rfl,hg⟩
  obtain ⟨hi2,rfl⟩:=fK hd
  have hi3:i<60:=by revert hi2; split <;> omega
  refine ⟨φ,ns,2 + (i:Int),rfl,hφ,by omega,by omega,fun c6 m6 h6=>?_⟩
  refine ⟨(show (0:Int)<2 by decide),?_⟩
  obtain ⟨k,hk,hk2⟩:∃ k:Nat,(2 + (i:Int)) % 2=(k:Int)∧k=i % 2:=⟨i % 2,by omega,rfl⟩
  obtain ⟨g,hgk⟩:=hg.at (k:=k) (by omega)
  have hgo:=hg.ok k g hgk
  have hixn:∀ {α:Type} {xs:List α},xs.length=2→ixN xs.length ((2 + (i:Int)) % 2)=some k:=fun {α xs} hx=>by rw [hk,hx,jw (by omega) (by omega)]; rfl
  refine ⟨_,_,k,rfl,rfl,hixn (by rw [List.length_map]; exact hg.len),?_⟩
  refine ⟨_,_,k,rfl,rfl,hixn (by rw [List.length_map]; exact hg.len),?_⟩
  refine ⟨ai [c6,m6],aR ps rs,rfl,rfl,c6,m6,ps,rs,rfl,h6,hT,hr2,fun a c8 m8 ha hw h8=>⟨_,rfl,?_⟩⟩
  refine ⟨_,_,dG A.c_q38 ps rs true g,dSt ps g,rfl,by rw [List.getElem?_map,hgk]; rfl,rfl,by rw [List.getElem?_map,hgk]; rfl,?_⟩
  refine ⟨ps,rs,true,g.1,g.2,a,rfl,hT,hgo.1,ha,hw,by omega,fun cs' hs' hl' hG'=>?_⟩
  refine ⟨_,_,rfl,?_⟩
  have e1:(gs.map (dG A.c_q38 ps rs true)).set k (bQ A.c_q38 ps rs true cs' hs')=(gs.set k (cs',hs')).map (dG A.c_q38 ps rs true):=by rw [List.map_set]; rfl
  have e2:(gs.map (dSt ps)).set k (.tup [ai (ay ps cs' hs'),bu cs',ai hs'])=(gs.set k (cs',hs')).map (dSt ps):=by rw [List.map_set]; rfl
  rw [e1,e2]
  have hg2:=hg.step hk2 hgk (g':=(cs',hs')) hG' hl'
  have hlk:k<gs.length:=by rw [hg.len]; omega
  have hgk2:(gs.set k (cs',hs'))[k]? = some (cs',hs'):=List.getElem?_set_self hlk
  generalize gs.set k (cs',hs')=gs2 at hg2 hgk2
  refine ⟨c8,m8,4,rfl,h8,by decide,cG (n:=4) (by decide) (by decide +kernel),fun r c9 m9 r0 r1 h9=>?_⟩
  refine (d9 (c:=decide (r=0)=true) (fun c=>?_) (fun c=>⟨gs2,_,_,_,rfl,hg2⟩))
  have hx:∀ f:GS→D,atI (gs2.map f) ((2 + (i:Int)) % 2)=some (f (cs',hs')):=fun f=>by rw [hk]; exact dR (by rw [List.getElem?_map,hgk2]; rfl)
  refine a6 (hx _) ?_
  refine a6 (hx _) ?_
  refine ⟨ps,rs,true,cs',hs',rfl,hT,hG'.asks,hG'.keep,?_⟩
  exact ⟨gs2,_,_,_,rfl,hg2⟩
 rintro ρ ⟨gs,v6,v7,v8,rfl,hg⟩
 refine ⟨⟨by decide,by decide⟩,?_⟩
 refine ⟨fun i ρ=>∃ v8,ρ=[some (.scr φ ns),some (ai ps),some (aR ps rs),some v3,some (.lst (gs.map (dG A.c_q38 ps rs true))),some (.lst (gs.map (dSt ps))),v6,v7,v8],⟨_,rfl⟩,?_,?_⟩
 ·rintro i d ρ hd ⟨v8,rfl⟩
  obtain ⟨hi2,rfl⟩:=fK hd
  obtain ⟨g,hgk⟩:=hg.at (k:=i) (by omega)
  have hgo:=hg.ok i g hgk
  have hx:∀ f:GS→D,atI (gs.map f) (0 + (i:Int))=some (f g):=fun f=>by rw [Int.zero_add]; exact dR (by rw [List.getElem?_map,hgk]; rfl)
  refine a6 (hx _) ?_
  refine a6 (hx _) ?_
  refine ⟨ps,rs,true,g.1,g.2,rfl,hT,hgo.1.asks,hgo.1.keep,?_⟩
  exact ⟨_,rfl⟩
 ·rintro ρ ⟨v8,rfl⟩
  exact q0
end
end K69
namespace K69
open PySem L2
theorem fb {us:List Value} {n:Nat} (h:us.length=n + 1):∃ a r,us=a :: r∧r.length=n:=by
 cases us with
 | nil=>cases h
 | cons a r=>exact ⟨a,r,rfl,Nat.succ.inj h⟩
theorem us1 {fd:FuncData} {ps:List Str} (h:∀ a0,bindArgs fd ⟨[a0],[]⟩=pure (ps.zip [a0])):∀ us:List Value,us.length=1→bindArgs fd ⟨us,[]⟩=pure (ps.zip us):=fun us hl=>by
 obtain ⟨a0,u0,rfl,h0⟩:=fb hl
 cases List.eq_nil_of_length_eq_zero h0
 exact h a0
theorem us2 {fd:FuncData} {ps:List Str} (h:∀ a0 a1,bindArgs fd ⟨[a0,a1],[]⟩=pure (ps.zip [a0,a1])):∀ us:List Value,us.length=2→bindArgs fd ⟨us,[]⟩=pure (ps.zip us):=fun us hl=>by
 obtain ⟨a0,u0,rfl,h0⟩:=fb hl
 obtain ⟨a1,u1,rfl,h1⟩:=fb h0
 cases List.eq_nil_of_length_eq_zero h1
 exact h a0 a1
theorem us3 {fd:FuncData} {ps:List Str} (h:∀ a0 a1 a2,bindArgs fd ⟨[a0,a1,a2],[]⟩=pure (ps.zip [a0,a1,a2])):∀ us:List Value,us.length=3→bindArgs fd ⟨us,[]⟩=pure (ps.zip us):=fun us hl=>by
 obtain ⟨a0,u0,rfl,h0⟩:=fb hl
 obtain ⟨a1,u1,rfl,h1⟩:=fb h0
 obtain ⟨a2,u2,rfl,h2⟩:=fb h1
 cases List.eq_nil_of_length_eq_zero h2
 exact h a0 a1 a2
theorem us4 {fd:FuncData} {ps:List Str} (h:∀ a0 a1 a2 a3,bindArgs fd ⟨[a0,a1,a2,a3],[]⟩=pure (ps.zip [a0,a1,a2,a3])):∀ us:List Value,us.length=4→bindArgs fd ⟨us,[]⟩=pure (ps.zip us):=fun us hl=>by
 obtain ⟨a0,u0,rfl,h0⟩:=fb hl
 obtain ⟨a1,u1,rfl,h1⟩:=fb h0
 obtain ⟨a2,u2,rfl,h2⟩:=fb h1
 obtain ⟨a3,u3,rfl,h3⟩:=fb h2
 cases List.eq_nil_of_length_eq_zero h3
 exact h a0 a1 a2 a3
theorem us5 {fd:FuncData} {ps:List Str} (h:∀ a0 a1 a2 a3 a4,bindArgs fd ⟨[a0,a1,a2,a3,a4],[]⟩=pure (ps.zip [a0,a1,a2,a3,a4])):∀ us:List Value,us.length=5→bindArgs fd ⟨us,[]⟩=pure (ps.zip us):=fun us hl=>by
 obtain ⟨a0,u0,rfl,h0⟩:=fb hl
 obtain ⟨a1,u1,rfl,h1⟩:=fb h0
 obtain ⟨a2,u2,rfl,h2⟩:=fb h1
 obtain ⟨a3,u3,rfl,h3⟩:=fb h2
 obtain ⟨a4,u4,rfl,h4⟩:=fb h3
 cases List.eq_nil_of_length_eq_zero h4
 exact h a0 a1 a2 a3 a4
theorem all_mk {l:PySem.W.OpenLaw} {w:World} {K:PySem.W.Frag} {h:Heap} {mg:Str→Option Value} {fa:Addr} (X:K.In h) (G:h.Ns mainGlobals mg) (hfa:mg "law" = some (.ref fa))
 {c_q38:Addr} (e_q38:PySem.W.nsIn K mainGlobals "Gate" = some (some (.ref c_q38))) (k_q38:Cls K c_q38)
 {f_q15:Addr} {d_q15:FuncData} (h_q15:FH K "is_whole" oM f_q15 d_q15)
 {f_q8:Addr} {d_q8:FuncData} (h_q8:FH K "is_between" s_q8 f_q8 d_q8)
 {f_q0:Addr} {d_q0:FuncData} (h_q0:FH K "has_two_lists" s_q0 f_q0 d_q0)
 {f_q6:Addr} {d_q6:FuncData} (h_q6:FH K "look_at_tree" s_q6 f_q6 d_q6)
 {f_q14:Addr} {d_q14:FuncData} (h_q14:FH K "is_place" nQ f_q14 d_q14)
 {f_q13:Addr} {d_q13:FuncData} (h_q13:FH K "are_ends" nz f_q13 d_q13)
 {f_q26:Addr} {d_q26:FuncData} (h_q26:FH K "is_ask" pO f_q26 d_q26)
 {f_q3:Addr} {d_q3:FuncData} (h_q3:FH K "look_at_asks" s_q3 f_q3 d_q3)
 {f_q4:Addr} {d_q4:FuncData} (h_q4:FH K "look_at_ends" s_q4 f_q4 d_q4)
 {f_q34:Addr} {d_q34:FuncData} (h_q34:FH K "climb" nZ f_q34 d_q34)
 {f_q7:Addr} {d_q7:FuncData} (h_q7:FH K "way_between" s_q7 f_q7 d_q7)
 {f_q33:Addr} {d_q33:FuncData} (h_q33:FH K "way_of" pE f_q33 d_q33)
 {f_q5:Addr} {d_q5:FuncData} (h_q5:FH K "look_at_keep" s_q5 f_q5 d_q5)
 {f_q32:Addr} {d_q32:FuncData} (h_q32:FH K "lay_on" oK f_q32 d_q32)
 {f_q10:Addr} {d_q10:FuncData} (h_q10:FH K "load_with" ph f_q10 d_q10)
 {f_q22:Addr} {d_q22:FuncData} (h_q22:FH K "over_on" pD f_q22 d_q22)
 {f_q11:Addr} {d_q11:FuncData} (h_q11:FH K "over_with" pV f_q11 d_q11)
 {f_q37:Addr} {d_q37:FuncData} (h_q37:FH K "loads" pQ f_q37 d_q37)
 {f_q1:Addr} {d_q1:FuncData} (h_q1:FH K "is_above_half" s_q1 f_q1 d_q1)
 {f_Gate___init__:Addr} {d_Gate___init__:FuncData} (h_Gate___init__:FHm K c_q38 "__init__" "Gate.__init__" cq f_Gate___init__ d_Gate___init__)
 {f_Gate_is_too_wide:Addr} {d_Gate_is_too_wide:FuncData} (h_Gate_is_too_wide:FHm K c_q38 "is_too_wide" "Gate.is_too_wide" bN f_Gate_is_too_wide d_Gate_is_too_wide)
 {f_Gate_look_at_coming:Addr} {d_Gate_look_at_coming:FuncData} (h_Gate_look_at_coming:FHm K c_q38 "look_at_coming" "Gate.look_at_coming" bx f_Gate_look_at_coming d_Gate_look_at_coming)
 {f_q38_come:Addr} {d_q38_come:FuncData} (h_q38_come:FHm K c_q38 "come" "Gate.come" e_ f_q38_come d_q38_come)
 {f_q38_load:Addr} {d_q38_load:FuncData} (h_q38_load:FHm K c_q38 "load" "Gate.load" eV f_q38_load d_q38_load)
 {f_q38_asks:Addr} {d_q38_asks:FuncData} (h_q38_asks:FHm K c_q38 "asks" "Gate.asks" fi f_q38_asks d_q38_asks)
 {f_q38_kept:Addr} {d_q38_kept:FuncData} (h_q38_kept:FHm K c_q38 "kept" "Gate.kept" eX f_q38_kept d_q38_kept)
 {f_Gate_is_dear:Addr} {d_Gate_is_dear:FuncData} (h_Gate_is_dear:FHm K c_q38 "is_dear" "Gate.is_dear" cL f_Gate_is_dear d_Gate_is_dear)
 {f_q38_prices:Addr} {d_q38_prices:FuncData} (h_q38_prices:FHm K c_q38 "prices" "Gate.prices" dM f_q38_prices d_q38_prices)
 {f_q30:Addr} {d_q30:FuncData} (h_q30:FH K "_law_pool" o5 f_q30 d_q30)
 {f_q31:Addr} {d_q31:FuncData} (h_q31:FH K "_law_take" oI f_q31 d_q31)
 {f_q16:Addr} {d_q16:FuncData} (h_q16:FH K "_law_number" oS f_q16 d_q16)
 {f_q9:Addr} {d_q9:FuncData} (h_q9:FH K "_law_parents" s_q9 f_q9 d_q9)
 {f_q21:Addr} {d_q21:FuncData} (h_q21:FH K "_law_rooms" pY f_q21 d_q21)
 {f_q28:Addr} {d_q28:FuncData} (h_q28:FH K "_law_ends" nV f_q28 d_q28)
 {f_q39:Addr} {d_q39:FuncData} (h_q39:FH K "_law_up" oY f_q39 d_q39)
 {f_q36:Addr} {d_q36:FuncData} (h_q36:FH K "_law_way" nO f_q36 d_q36)
 {f_q29:Addr} {d_q29:FuncData} (h_q29:FH K "_law_fits" pG f_q29 d_q29)
 {f_q17:Addr} {d_q17:FuncData} (h_q17:FH K "_law_prices" nD f_q17 d_q17)
 {f_q2:Addr} {d_q2:FuncData} (h_q2:FH K "_law_state_right" s_q2 f_q2 d_q2)
 {f_q27:Addr} {d_q27:FuncData} (h_q27:FH K "_law_came" nF f_q27 d_q27)
 {f_q35:Addr} {d_q35:FuncData} (h_q35:FH K "_law_ask" pq f_q35 d_q35)
 {f_law:Addr} {d_law:FuncData} (h_law:FH K "law" oq f_law d_law)
 (mk_q38:PySem.W.makesIn K c_q38=true) (kp_q38:PySem.W.keepIn K (.ref c_q38)=true)
 (na_q38_tree:bD K c_q38 "tree")
 (na_Gate_by_sizes:bD K c_q38 "by_sizes")
 (na_q38_came:bD K c_q38 "came")
 (na_q38_held:bD K c_q38 "held")
 {t_MOST_TIES:Tok} (c_MOST_TIES:PySem.W.nsIn K mainGlobals "MOST_TIES" = some (some (.int 23 t_MOST_TIES)))
 {t_MOST_ROOM:Tok} (c_MOST_ROOM:PySem.W.nsIn K mainGlobals "MOST_ROOM" = some (some (.int 1000000 t_MOST_ROOM)))
 {t_MOST_ASKS:Tok} (c_MOST_ASKS:PySem.W.nsIn K mainGlobals "MOST_ASKS" = some (some (.int 30 t_MOST_ASKS)))
 {t_MOST_SIZE:Tok} (c_MOST_SIZE:PySem.W.nsIn K mainGlobals "MOST_SIZE" = some (some (.int 1000000 t_MOST_SIZE)))
 {t_MOST_WORTH:Tok} (c_MOST_WORTH:PySem.W.nsIn K mainGlobals "MOST_WORTH" = some (some (.int 1000000000000 t_MOST_WORTH)))
 (z_any:PySem.W.nsIn K mainGlobals "any" = some none)
 (z_bool:PySem.W.nsIn K mainGlobals "bool" = some none)
 (z_enumerate:PySem.W.nsIn K mainGlobals "enumerate" = some none)
 (z_int:PySem.W.nsIn K mainGlobals "int" = some none)
 (z_isinstance:PySem.W.nsIn K mainGlobals "isinstance" = some none)
 (z_len:PySem.W.nsIn K mainGlobals "len" = some none)
 (z_list:PySem.W.nsIn K mainGlobals "list" = some none)
 (z_max:PySem.W.nsIn K mainGlobals "max" = some none)
 (z_min:PySem.W.nsIn K mainGlobals "min" = some none)
 (z_range:PySem.W.nsIn K mainGlobals "range" = some none)
 (z_sorted:PySem.W.nsIn K mainGlobals "sorted" = some none)
 (z_tuple:PySem.W.nsIn K mainGlobals "tuple" = some none)
 (z_zip:PySem.W.nsIn K mainGlobals "zip" = some none)
   :∃ fd:FuncData,(∀ (s:Shared) (v:Value),BindsTo s fd ⟨[v],[]⟩ [("_law_script",v)])∧∀ base:Heap,K.In base→base.Ns mainGlobals mg→FnOk l.prog w K mg base CX0 13 fa fd ["_law_script"] (l7 K):=by
 have e:=hfa.symm.trans (PySem.W.mg_of X G h_law.a)
 cases e
 have T:Txt K mg ⟨f_q15,_,f_q8,_,f_q0,_,f_q6,_,f_q14,_,f_q13,_,f_q26,_,f_q3,_,f_q4,_,f_q34,_,f_q7,_,f_q33,_,f_q5,_,f_q32,_,f_q10,_,f_q22,_,f_q11,_,f_q37,_,f_q1,_,f_Gate___init__,_,f_Gate_is_too_wide,_,f_Gate_look_at_coming,_,f_q38_come,_,f_q38_load,_,f_q38_asks,_,f_q38_kept,_,f_Gate_is_dear,_,f_q38_prices,_,f_q30,_,f_q31,_,f_q16,_,f_q9,_,f_q21,_,f_q28,_,f_q39,_,f_q36,_,f_q29,_,f_q17,_,f_q2,_,f_q27,_,f_q35,_,fa,_,c_q38⟩:=⟨h_q15.ft X G fun _ _ _ _ _ _=>us1 fun _=>rfl,h_q8.ft X G fun _ _ _ _ _ _=>us3 fun _ _ _=>rfl,h_q0.ft X G fun _ _ _ _ _ _=>us1 fun _=>rfl,h_q6.ft X G fun _ _ _ _ _ _=>us1 fun _=>rfl,h_q14.ft X G fun _ _ _ _ _ _=>us2 fun _ _=>rfl,h_q13.ft X G fun _ _ _ _ _ _=>us3 fun _ _ _=>rfl,h_q26.ft X G fun _ _ _ _ _ _=>us2 fun _ _=>rfl,h_q3.ft X G fun _ _ _ _ _ _=>us2 fun _ _=>rfl,h_q4.ft X G fun _ _ _ _ _ _=>us3 fun _ _ _=>rfl,h_q34.ft X G fun _ _ _ _ _ _=>us3 fun _ _ _=>rfl,h_q7.ft X G fun _ _ _ _ _ _=>us3 fun _ _ _=>rfl,h_q33.ft X G fun _ _ _ _ _ _=>us2 fun _ _=>rfl,h_q5.ft X G fun _ _ _ _ _ _=>us3 fun _ _ _=>rfl,h_q32.ft X G fun _ _ _ _ _ _=>us3 fun _ _ _=>rfl,h_q10.ft X G fun _ _ _ _ _ _=>us3 fun _ _ _=>rfl,h_q22.ft X G fun _ _ _ _ _ _=>us4 fun _ _ _ _=>rfl,h_q11.ft X G fun _ _ _ _ _ _=>us3 fun _ _ _=>rfl,h_q37.ft X G fun _ _ _ _ _ _=>us3 fun _ _ _=>rfl,h_q1.ft X G fun _ _ _ _ _ _=>us2 fun _ _=>rfl,h_Gate___init__.fm fun _ _ _ _ _ _=>us3 fun _ _ _=>rfl,h_Gate_is_too_wide.fm fun _ _ _ _ _ _=>us2 fun _ _=>rfl,h_Gate_look_at_coming.fm fun _ _ _ _ _ _=>us2 fun _ _=>rfl,h_q38_come.fm fun _ _ _ _ _ _=>us2 fun _ _=>rfl,h_q38_load.fm fun _ _ _ _ _ _=>us1 fun _=>rfl,h_q38_asks.fm fun _ _ _ _ _ _=>us1 fun _=>rfl,h_q38_kept.fm fun _ _ _ _ _ _=>us1 fun _=>rfl,h_Gate_is_dear.fm fun _ _ _ _ _ _=>us3 fun _ _ _=>rfl,h_q38_prices.fm fun _ _ _ _ _ _=>us1 fun _=>rfl,h_q30.ft X G fun _ _ _ _ _ _=>us2 fun _ _=>rfl,h_q31.ft X G fun _ _ _ _ _ _=>us2 fun _ _=>rfl,h_q16.ft X G fun _ _ _ _ _ _=>us2 fun _ _=>rfl,h_q9.ft X G fun _ _ _ _ _ _=>us2 fun _ _=>rfl,h_q21.ft X G fun _ _ _ _ _ _=>us3 fun _ _ _=>rfl,h_q28.ft X G fun _ _ _ _ _ _=>us2 fun _ _=>rfl,h_q39.ft X G fun _ _ _ _ _ _=>us2 fun _ _=>rfl,h_q36.ft X G fun _ _ _ _ _ _=>us2 fun _ _=>rfl,h_q29.ft X G fun _ _ _ _ _ _=>us4 fun _ _ _ _=>rfl,h_q17.ft X G fun _ _ _ _ _ _=>us3 fun _ _ _=>rfl,h_q2.ft X G fun _ _ _ _ _ _=>us4 fun _ _ _ _=>rfl,h_q27.ft X G fun _ _ _ _ _ _=>us5 fun _ _ _ _ _=>rfl,h_q35.ft X G fun _ _ _ _ _ _=>us2 fun _ _=>rfl,h_law.ft X G fun _ _ _ _ _ _=>us1 fun _=>rfl,PySem.W.mg_of X G e_q38,k_q38,⟨mk_q38,h_Gate___init__.m.at_,h_Gate___init__.m.fn,kp_q38⟩,na_q38_tree,na_Gate_by_sizes,na_q38_came,na_q38_held,PySem.W.mg_none_of X G z_any,PySem.W.mg_none_of X G z_bool,PySem.W.mg_none_of X G z_enumerate,PySem.W.mg_none_of X G z_int,PySem.W.mg_none_of X G z_isinstance,PySem.W.mg_none_of X G z_len,PySem.W.mg_none_of X G z_list,PySem.W.mg_none_of X G z_max,PySem.W.mg_none_of X G z_min,PySem.W.mg_none_of X G z_range,PySem.W.mg_none_of X G z_sorted,PySem.W.mg_none_of X G z_tuple,PySem.W.mg_none_of X G z_zip,⟨_,PySem.W.mg_of X G c_MOST_TIES⟩,⟨_,PySem.W.mg_of X G c_MOST_ROOM⟩,⟨_,PySem.W.mg_of X G c_MOST_ASKS⟩,⟨_,PySem.W.mg_of X G c_MOST_SIZE⟩,⟨_,PySem.W.mg_of X G c_MOST_WORTH⟩⟩
 obtain ⟨_,_,_,_,_,_,_,_,_,rfl,_,_⟩:=h_law.F.ex
 exact ⟨_,fun s v=>.of_eq rfl,fun base _ _=>(tp T).imp fun _ _ _ _ h=>oE h⟩
theorem walk {l:PySem.W.OpenLaw} {q:Program} {loose:List Str} {XP:(Str→Option Value)→Heap→Prop} {YP:World→Heap→Prop} {d:DefRec} {K:Params→PySem.W.Frag} (hn:l.most=some 63) (hdf:d.params.defaults=[])
 (hY:∀ (w:World) (h:Heap),YP w h→(K w.params).In h)
 (F:∀ (w:World) (mg:Str→Option Value) (fa:Addr) (h:Heap),(K w.params).In h→h.Ns mainGlobals mg→mg d.name=some (.ref fa) →
  ∃ fd:FuncData,(∀ (s:Shared) (u:Value),BindsTo s fd ⟨[u],[]⟩ [("_law_script",u)])∧∀ base:Heap,(K w.params).In base→base.Ns mainGlobals mg→FnOk l.prog w (K w.params) mg base CX0 13 fa fd ["_law_script"] (l7 (K w.params))) :
 PySem.W.WalkO q loose XP YP l.row.toRowW d [] (fun f vs=>PySem.call f vs) :=
 L2.rc (n:=63) (k:=13) (x:="_law_script") (CX:=fun _=>CX0) (sp:=fun w=>l7 (K w.params)) hn (by decide) hdf ⟨rfl,by decide,by decide,rfl⟩ hY F (fun _ _ a ns hl hO hS=>⟨a,ns,rfl,hO,hS,hl,fun _=>rfl⟩) fun _ _ _ _ _ z=>z
end K69
open PySem PySem.W PyProof.Rows
set_option maxRecDepth 100000 in
theorem PySem.Challenge.cw_treeasks_k69_gates_by_sizes_holds : PySem.Challenge.rw_treeasks_k69_gates_by_sizes.Holds := by
 w_on; o_law; k_head; (case hw=>w_witness2)
 k_fill
 refine K69.walk (l:=PySem.Challenge.rw_treeasks_k69_gates_by_sizes) rfl rfl (fun w h Y=>PySem.W.kIn_of Y) ?F
 case F =>
  intro w mg fa h KX G hmg
  refine' K69.all_mk KX G hmg ?_ ⟨?_,?_,?_,?_⟩ (L2.aW ?_ ?_ ?_ ?_) (L2.aW ?_ ?_ ?_ ?_) (L2.aW ?_ ?_ ?_ ?_) (L2.aW ?_ ?_ ?_ ?_) (L2.aW ?_ ?_ ?_ ?_) (L2.aW ?_ ?_ ?_ ?_) (L2.aW ?_ ?_ ?_ ?_) (L2.aW ?_ ?_ ?_ ?_) (L2.aW ?_ ?_ ?_ ?_) (L2.aW ?_ ?_ ?_ ?_) (L2.aW ?_ ?_ ?_ ?_) (L2.aW ?_ ?_ ?_ ?_) (L2.aW ?_ ?_ ?_ ?_) (L2.aW ?_ ?_ ?_ ?_) (L2.aW ?_ ?_ ?_ ?_) (L2.aW ?_ ?_ ?_ ?_) (L2.aW ?_ ?_ ?_ ?_) (L2.aW ?_ ?_ ?_ ?_) (L2.aW ?_ ?_ ?_ ?_) (L2.dv ?_ ?_ ?_ ?_ ?_) (L2.dv ?_ ?_ ?_ ?_ ?_) (L2.dv ?_ ?_ ?_ ?_ ?_) (L2.dv ?_ ?_ ?_ ?_ ?_) (L2.dv ?_ ?_ ?_ ?_ ?_) (L2.dv ?_ ?_ ?_ ?_ ?_) (L2.dv ?_ ?_ ?_ ?_ ?_) (L2.dv ?_ ?_ ?_ ?_ ?_) (L2.dv ?_ ?_ ?_ ?_ ?_) (L2.aW ?_ ?_ ?_ ?_) (L2.aW ?_ ?_ ?_ ?_) (L2.aW ?_ ?_ ?_ ?_) (L2.aW ?_ ?_ ?_ ?_) (L2.aW ?_ ?_ ?_ ?_) (L2.aW ?_ ?_ ?_ ?_) (L2.aW ?_ ?_ ?_ ?_) (L2.aW ?_ ?_ ?_ ?_) (L2.aW ?_ ?_ ?_ ?_) (L2.aW ?_ ?_ ?_ ?_) (L2.aW ?_ ?_ ?_ ?_) (L2.aW ?_ ?_ ?_ ?_) (L2.aW ?_ ?_ ?_ ?_) (L2.aW ?_ ?_ ?_ ?_) ?_ ?_ ?_ ?_ ?_ ?_ ?_ ?_ ?_ ?_ ?_ ?_ ?_ ?_ ?_ ?_ ?_ ?_ ?_ ?_ ?_ ?_ ?_ ?_
  all_goals try k_is
  all_goals first | rfl | (rw [← Array.all_toList]; rfl)
end
