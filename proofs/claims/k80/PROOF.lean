import PyProof.Rows.All
import Wide.All
import OpenK.AllK
import Wide.FinOn
import Lean
import PyProof.EqAt
import PyProof.EqKinds
import PyProof.TupleCall
import PyProof.Rows.ListRangeD
import KE.LcSums
import KE.KRevSl
import PyProof.Rows.SetFrom
import PyProof.Rows.ListMulArg
import KE.KSortKey
import PySem.Challenge.RW_treeasks_k80_papers_written
set_option Elab.async false
set_option linter.all false
set_option maxRecDepth 100000
set_option genSizeOf false
set_option maxHeartbeats 4000000
set_option exponentiation.threshold 9000
noncomputable section
theorem PySem.W.Fast.te13247759496807133050:True:=trivial
def PySem.W.Fast.tw13247759496807133050:Nat:=0
theorem PySem.W.Fast.te16452976851125839175:True:=trivial
def PySem.W.Fast.tw16452976851125839175:Nat:=0
def PySem.W.Fast.tw3282873880506795737:PySem.Program:=PySem.Challenge.pw_treeasks_k80_papers_written
theorem PySem.W.Fast.te3282873880506795737:PySem.Challenge.pw_treeasks_k80_papers_written=PySem.W.Fast.tw3282873880506795737:=rfl
def PySem.W.Fast.tw16304575012077379913:List PySem.Stmt:=((PySem.Challenge.pw_treeasks_k80_papers_written.main.body.drop 7).take 10)
theorem PySem.W.Fast.te16304575012077379913:((PySem.Challenge.pw_treeasks_k80_papers_written.main.body.drop 7).take 10)=PySem.W.Fast.tw16304575012077379913:=rfl
def PySem.W.Fast.tw9475154062811706507:List PySem.Stmt:=((PySem.Challenge.pw_treeasks_k80_papers_written.main.body.drop 3).take 1)
theorem PySem.W.Fast.te9475154062811706507:((PySem.Challenge.pw_treeasks_k80_papers_written.main.body.drop 3).take 1)=PySem.W.Fast.tw9475154062811706507:=rfl
def PySem.W.Fast.tw14907249414185482634:List PySem.Stmt:=((PySem.Challenge.pw_treeasks_k80_papers_written.main.body.drop 4).take 1)
theorem PySem.W.Fast.te14907249414185482634:((PySem.Challenge.pw_treeasks_k80_papers_written.main.body.drop 4).take 1)=PySem.W.Fast.tw14907249414185482634:=rfl
def PySem.W.Fast.tw13288814305666346751:List PySem.Stmt:=((PySem.Challenge.pw_treeasks_k80_papers_written.main.body.drop 6).take 1)
theorem PySem.W.Fast.te13288814305666346751:((PySem.Challenge.pw_treeasks_k80_papers_written.main.body.drop 6).take 1)=PySem.W.Fast.tw13288814305666346751:=rfl
def PySem.W.Fast.tw9602531814928595511:List PySem.Stmt:=((PySem.Challenge.pw_treeasks_k80_papers_written.main.body.drop 2).take 1)
theorem PySem.W.Fast.te9602531814928595511:((PySem.Challenge.pw_treeasks_k80_papers_written.main.body.drop 2).take 1)=PySem.W.Fast.tw9602531814928595511:=rfl
def PySem.W.Fast.tw6255988356858473826:PySem.Program:=({ PySem.Challenge.pw_treeasks_k80_papers_written with main:={ PySem.Challenge.pw_treeasks_k80_papers_written.main with body:=(PySem.Challenge.pw_treeasks_k80_papers_written.main.body.drop 1).take 7++(PySem.Challenge.pw_treeasks_k80_papers_written.main.body.drop 9).take 7++(PySem.Challenge.pw_treeasks_k80_papers_written.main.body.drop 17).take 8++(PySem.Challenge.pw_treeasks_k80_papers_written.main.body.drop 26).take 7++(PySem.Challenge.pw_treeasks_k80_papers_written.main.body.drop 34).take 5++(PySem.Challenge.pw_treeasks_k80_papers_written.main.body.drop 40).take 7++(PySem.Challenge.pw_treeasks_k80_papers_written.main.body.drop 48).take 6++(PySem.Challenge.pw_treeasks_k80_papers_written.main.body.drop 55).take 4++(PySem.Challenge.pw_treeasks_k80_papers_written.main.body.drop 60).take 1++(PySem.Challenge.pw_treeasks_k80_papers_written.main.body.drop 62).take 7++(PySem.Challenge.pw_treeasks_k80_papers_written.main.body.drop 70).take 1++(PySem.Challenge.pw_treeasks_k80_papers_written.main.body.drop 72).take 11 } }:PySem.Program)
theorem PySem.W.Fast.te6255988356858473826:({ PySem.Challenge.pw_treeasks_k80_papers_written with main:={ PySem.Challenge.pw_treeasks_k80_papers_written.main with body:=(PySem.Challenge.pw_treeasks_k80_papers_written.main.body.drop 1).take 7++(PySem.Challenge.pw_treeasks_k80_papers_written.main.body.drop 9).take 7++(PySem.Challenge.pw_treeasks_k80_papers_written.main.body.drop 17).take 8++(PySem.Challenge.pw_treeasks_k80_papers_written.main.body.drop 26).take 7++(PySem.Challenge.pw_treeasks_k80_papers_written.main.body.drop 34).take 5++(PySem.Challenge.pw_treeasks_k80_papers_written.main.body.drop 40).take 7++(PySem.Challenge.pw_treeasks_k80_papers_written.main.body.drop 48).take 6++(PySem.Challenge.pw_treeasks_k80_papers_written.main.body.drop 55).take 4++(PySem.Challenge.pw_treeasks_k80_papers_written.main.body.drop 60).take 1++(PySem.Challenge.pw_treeasks_k80_papers_written.main.body.drop 62).take 7++(PySem.Challenge.pw_treeasks_k80_papers_written.main.body.drop 70).take 1++(PySem.Challenge.pw_treeasks_k80_papers_written.main.body.drop 72).take 11 } }:PySem.Program)=PySem.W.Fast.tw6255988356858473826:=rfl
def PySem.W.Fast.tw9036037477351804393:List PySem.Stmt:=((PySem.Challenge.pw_treeasks_k80_papers_written.main.body.drop 49).take 16)
theorem PySem.W.Fast.te9036037477351804393:((PySem.Challenge.pw_treeasks_k80_papers_written.main.body.drop 49).take 16)=PySem.W.Fast.tw9036037477351804393:=rfl
def PySem.W.Fast.tw2987500949827535161:List PySem.Stmt:=((PySem.Challenge.pw_treeasks_k80_papers_written.main.body.drop 65).take 13)
theorem PySem.W.Fast.te2987500949827535161:((PySem.Challenge.pw_treeasks_k80_papers_written.main.body.drop 65).take 13)=PySem.W.Fast.tw2987500949827535161:=rfl
def PySem.W.Fast.tw5654824796388243207:List PySem.Stmt:=((PySem.Challenge.pw_treeasks_k80_papers_written.main.body.drop 5).take 1)
theorem PySem.W.Fast.te5654824796388243207:((PySem.Challenge.pw_treeasks_k80_papers_written.main.body.drop 5).take 1)=PySem.W.Fast.tw5654824796388243207:=rfl
def PySem.W.Fast.tw1917982025670999927:List PySem.Stmt:=((PySem.Challenge.pw_treeasks_k80_papers_written.main.body.drop 32).take 17)
theorem PySem.W.Fast.te1917982025670999927:((PySem.Challenge.pw_treeasks_k80_papers_written.main.body.drop 32).take 17)=PySem.W.Fast.tw1917982025670999927:=rfl
def PySem.W.Fast.tw11289844108572166918:List PySem.Stmt:=((PySem.Challenge.pw_treeasks_k80_papers_written.main.body.drop 0).take 2)
theorem PySem.W.Fast.te11289844108572166918:((PySem.Challenge.pw_treeasks_k80_papers_written.main.body.drop 0).take 2)=PySem.W.Fast.tw11289844108572166918:=rfl
def PySem.W.Fast.tw3538910733741319961:List PySem.Stmt:=((PySem.Challenge.pw_treeasks_k80_papers_written.main.body.drop 78).take 5)
theorem PySem.W.Fast.te3538910733741319961:((PySem.Challenge.pw_treeasks_k80_papers_written.main.body.drop 78).take 5)=PySem.W.Fast.tw3538910733741319961:=rfl
def PySem.W.Fast.tw5296831600364888895:List PySem.Stmt:=((PySem.Challenge.pw_treeasks_k80_papers_written.main.body.drop 17).take 15)
theorem PySem.W.Fast.te5296831600364888895:((PySem.Challenge.pw_treeasks_k80_papers_written.main.body.drop 17).take 15)=PySem.W.Fast.tw5296831600364888895:=rfl
namespace Ob
noncomputable section
open PySem
open PySem.Str renaming ofString → S
open PySem.Value renaming str → v, ref → r, int → i, none → n
abbrev F := Params → Obj
noncomputable def d (P : Params) (s : Str) (t : Tok) (w : Value) : DictEntry := ⟨PyData.keyHash P s, .str s t, w⟩
noncomputable def g (k : Nat) (q : Str → Str) : FuncData := match PySem.Challenge.pw_treeasks_k80_papers_written.main.body[k % 1000]? with
  | some (.FunctionDef a b c _ _ _ s _ _ _) => ⟨a,q a,b,.stmts c,s,0,[],n,n,n,n,none,n,n,0⟩
  | some (.ClassDef _ _ _ l _ _ _ _ _ _ _) => (match l[k / 1000]? with
    | some (.FunctionDef a b c _ _ _ s _ _ _) => ⟨a,q a,b,.stmts c,s,0,[],n,n,n,n,none,n,n,0⟩
    | _ => default)
  | _ => default
noncomputable def x (k : Nat) : F := fun _ => ⟨n,none,.func (g k id),#[]⟩
noncomputable def X (k : Nat) (q : Str) : F := fun _ => ⟨n,none,.func (g k fun _ => q),#[]⟩
noncomputable def y (k : Nat) (m c : Value) : F := fun _ => ⟨.type "function",none,.func { g k id with globals := 3, pyModule := m, code := c },#[]⟩
noncomputable def Y (k : Nat) (q : Str) (m c : Value) : F := fun _ => ⟨.type "function",none,.func { g k (fun _ => q) with globals := 3, pyModule := m, code := c },#[]⟩
noncomputable def u (l : List Value) : F := fun _ => ⟨.type "tuple",none,.seq l.toArray 0,#[]⟩
noncomputable def z (l : List Value) : F := fun _ => ⟨n,none,.fields l.toArray,#[]⟩
noncomputable def V (s : String) (t : Tok) : Value := v (S s) t
noncomputable def q (s : String) (t1 t2 t3 : Tok) (l a b c e : Int) (r1 : Addr) (m : Int) (r2 r3 r4 r5 : Addr) (t : Int) (t4 : Tok) : F := fun _ => ⟨.type "code",none,.fields #[v (S s) t1,v (S s) t2,v (S "/claim/cut.py") t3,i l 0,i a 0,i b 0,i c 0,i e 0,r r1,.bool true,i m 0,r r2,n,r r3,r r4,r r5,i t 0,i l 0,v (S "/claim/cut.py") t4],#[]⟩
noncomputable def k (l : List Value) : F := fun _ => ⟨.type "code",none,.fields l.toArray,#[]⟩
noncomputable def w (f : F) (a b : Params → W.BT) : Params → W.BT := fun P => .node (f P) (a P) (b P)
noncomputable def e : Params → W.BT := fun _ => .nil
noncomputable def o (f : F) : Params → W.BT := w f e e
noncomputable def ha(p0:String)(p1:Nat)(p2:String):F:=u [(V p0 p1),(V p2 (p1+1))]
noncomputable def hb(p0:String)(p1:Nat)(p2:String)(p3:String):F:=u [(V p0 p1),(V p2 (p1+1)),(V p3 (p1+2))]
noncomputable def hc(p0:String)(p1:Nat)(p2:Int)(p3:Int)(p4:Nat)(p5:Int):F:=k [(V p0 p1),(V p0 (p1+1)),(V "/claim/cut.py" (p1+2)),(i p2 0),(i p3 0),(i 0 0),(i 0 0),(i 3 0),(r p4),(.bool .true),(i 181 0),(r (p4+1)),n,n,n,(r (p4+2)),(i p5 0),(i p2 0),(V "/claim/cut.py" (p1+4))]
noncomputable def hd(p0:String)(p1:Nat)(p2:Int)(p3:Nat)(p4:Int):F:=k [(V p0 p1),(V p0 (p1+1)),(V "/claim/cut.py" (p1+2)),(i p2 0),(i 0 0),(i 0 0),(i 0 0),(i 0 0),(r p3),(.bool .false),(i 181 0),(r (p3+1)),n,n,n,n,(i p4 0),(i p2 0),(V "/claim/cut.py" (p1+4))]
noncomputable def he(p0:Nat)(p1:Nat)(p2:String)(p3:Nat):F:=fun P=>⟨(.type "frame"),none,.plain,#[(some (r p0)),(some (r 3)),(some (r p1)),none,(some (V p2 p3)),none,(some (r 0))]⟩
noncomputable def hf(p0:Nat):F:=fun P=>⟨(.type "builtin_function_or_method"),none,(.fields #[(.builtin "object.__init_subclass__"),(r p0)]),#[]⟩
noncomputable def hg(p0:Nat):F:=fun P=>⟨(.type "super"),none,(.fields #[(r p0),(r p0),(r p0)]),#[]⟩
noncomputable def hh(p0:String)(p1:Nat)(p2:Nat)(p3:Nat)(p4:Nat):F:=fun P=>⟨(.type "type"),none,(.cls ⟨(S p0),[(r 24)],[(r p1),(r 24),(.type "ValueError"),(.type "Exception"),(.type "BaseException"),(.type "object")],p2,(S p0),.true,[],[],.false,none,.false⟩),#[(some (r p3)),none,(some (V p0 p4)),(some (V p0 (p4+8))),(some (.builtin "ValueError.__new__")),(some (.bool .true))]⟩
noncomputable def hi(p0:String)(p1:Nat)(p2:String)(p3:String)(p4:String)(p5:String):F:=u [(V p0 p1),(V p2 (p1+1)),(V p3 (p1+2)),(V p4 (p1+3)),(V p5 (p1+4))]
noncomputable def hj(p0:Nat)(p1:Int)(p2:String)(p3:Nat)(p4:Nat)(p5:String)(p6:Nat)(p7:Nat)(p8:Nat):F:=fun P=>⟨(.type "dict"),none,(.dict #[(d P (S "__module__") p0 (v (S "treeasks.errors") 187)),(d P (S "__firstlineno__") (p0+4) (i p1 (p0+3))),(d P (S p2) p3 (r p4)),(d P (S p5) p6 (r p7)),(d P (S "__doc__") (p6+1) n)] p8),#[]⟩
noncomputable def hk(p0:Nat)(p1:String)(p2:Nat):F:=Y p0 (S p1) (V "treeasks.errors" 187) (r p2)
noncomputable def hl(p0:Int)(p1:Nat):F:=z [(i p0 0),(i 4 0),(r p1)]
noncomputable def hm(p0:Nat)(p1:String)(p2:Int)(p3:Int)(p4:Nat)(p5:Int)(p6:Nat):F:=k [(V "__init__" p0),(V p1 (p0+1)),(V "/claim/cut.py" (p0+2)),(i p2 0),(i p3 0),(i 0 0),(i 0 0),(i 3 0),(r p4),(.bool .true),(i 181 0),(r (p4+1)),n,(r (p4+2)),(r (p4+3)),(r (p4+4)),(i p5 0),(i p2 0),(V "/claim/cut.py" p6)]
noncomputable def hn(p0:Nat)(p1:String)(p2:Int)(p3:Nat)(p4:Nat)(p5:Nat):F:=fun P=>⟨(.type "dict"),none,(.dict #[(d P (S "__module__") p0 (v (S "treeasks.errors") 187)),(d P (S "__qualname__") (p0+2) (v (S p1) (p0+1))),(d P (S "__firstlineno__") (p0+4) (i p2 (p0+3))),(d P (S "__init__") p3 (r p4)),(d P (S "__static_attributes__") p5 (r (p4+1)))] 5),#[]⟩
noncomputable def ho(p0:Nat)(p1:String)(p2:Int)(p3:Nat):F:=fun P=>⟨(.type "dict"),none,(.dict #[(d P (S "__module__") p0 (v (S "treeasks.errors") 187)),(d P (S "__qualname__") (p0+2) (v (S p1) (p0+1))),(d P (S "__firstlineno__") (p0+4) (i p2 (p0+3))),(d P (S "__static_attributes__") (p0+5) (r p3))] 4),#[]⟩
noncomputable def hp(p0:Nat)(p1:Int)(p2:Nat):F:=fun P=>⟨(.type "dict"),none,(.dict #[(d P (S "__module__") p0 (v (S "treeasks.errors") 187)),(d P (S "__firstlineno__") (p0+4) (i p1 (p0+3))),(d P (S "__static_attributes__") (p0+5) (r p2)),(d P (S "__doc__") (p0+6) n)] 2),#[]⟩
noncomputable def zl:List (Nat×Nat×Nat)→List Value
  | []=>[]
  | (a,b,c)::t=>i (Int.ofNat a) 0::i (Int.ofNat b) 0::r c::zl t
def zz:List Value:=zl [(2,0,20),(4,0,33),(10,0,52),(15,0,71),(20,0,90),(25,0,109),(27,0,121),(32,0,133),(34,0,140),(36,0,147),(40,0,154),(47,0,159),(52,0,166),(55,0,171),(57,0,176),(59,0,183),(63,0,190),(68,0,197),(76,0,202),(78,0,207),(90,0,214),(97,0,221),(107,0,228),(113,0,235),(115,0,242),(121,0,249),(126,0,256),(134,0,263),(143,0,270),(145,0,277),(147,0,284),(149,0,291),(151,0,296),(156,0,303),(159,0,310),(163,0,317),(170,0,324),(174,0,331),(176,0,338),(180,0,343),(185,0,350),(188,0,357),(192,0,362),(194,0,369),(197,0,374),(203,0,381),(208,0,388),(212,0,393),(216,0,400),(219,0,407),(231,0,414),(240,0,421),(247,0,428),(251,0,435),(257,0,442),(267,0,449),(271,0,456),(274,0,463)]
def A64:F:=fun P=>⟨(.type "dict"),none,(.dict #[(d P (S "__name__") 165 (v (S "treeasks.errors") 187)),(d P (S "__doc__") 166 n),(d P (S "__package__") 167 n),(d P (S "__loader__") 168 (.builtin "__main__.__loader__#opaque")),(d P (S "__spec__") 169 n),(d P (S "__annotations__") 170 (r 6)),(d P (S "__builtins__") 171 (r 4)),(d P (S "__file__") 173 (v (S "/claim/cut.py") 172)),(d P (S "__cached__") 174 n),(d P (S "AskError") 206 (r 24)),(d P (S "NoTree") 233 (r 44))] 11),#[]⟩
def a0k:F:=fun P=>⟨(.type "type"),none,(.cls ⟨(S "AskError"),[(.type "ValueError")],[(r 24),(.type "ValueError"),(.type "Exception"),(.type "BaseException"),(.type "object")],23,(S "AskError"),.true,[],[(r 44)],.false,none,.false⟩),#[(some (r 15)),none,(some (V "AskError" 189)),(some (V "AskError" 197)),(some (.builtin "ValueError.__new__")),(some (.bool .true))]⟩
def a0m:F:=z [(i 2 0),(i 0 0),(r 20),(i 4 0),(i 0 0),(r 33)]
def A86:F:=fun P=>⟨(.type "dict"),none,(.dict #[(d P (S "__name__") 165 (v (S "treeasks.errors") 187)),(d P (S "__doc__") 166 n),(d P (S "__package__") 167 n),(d P (S "__loader__") 168 (.builtin "__main__.__loader__#opaque")),(d P (S "__spec__") 169 n),(d P (S "__annotations__") 170 (r 6)),(d P (S "__builtins__") 171 (r 4)),(d P (S "__file__") 173 (v (S "/claim/cut.py") 172)),(d P (S "__cached__") 174 n),(d P (S "AskError") 206 (r 24)),(d P (S "NoTree") 233 (r 44)),(d P (S "NoAsks") 258 (r 63))] 12),#[]⟩
def a1c:F:=fun P=>⟨(.type "type"),none,(.cls ⟨(S "AskError"),[(.type "ValueError")],[(r 24),(.type "ValueError"),(.type "Exception"),(.type "BaseException"),(.type "object")],23,(S "AskError"),.true,[],[(r 44),(r 63)],.false,none,.false⟩),#[(some (r 15)),none,(some (V "AskError" 189)),(some (V "AskError" 197)),(some (.builtin "ValueError.__new__")),(some (.bool .true))]⟩
def a1e:F:=z [(i 2 0),(i 0 0),(r 20),(i 4 0),(i 0 0),(r 33),(i 10 0),(i 0 0),(r 52)]
def A108:F:=fun P=>⟨(.type "dict"),none,(.dict #[(d P (S "__name__") 165 (v (S "treeasks.errors") 187)),(d P (S "__doc__") 166 n),(d P (S "__package__") 167 n),(d P (S "__loader__") 168 (.builtin "__main__.__loader__#opaque")),(d P (S "__spec__") 169 n),(d P (S "__annotations__") 170 (r 6)),(d P (S "__builtins__") 171 (r 4)),(d P (S "__file__") 173 (v (S "/claim/cut.py") 172)),(d P (S "__cached__") 174 n),(d P (S "AskError") 206 (r 24)),(d P (S "NoTree") 233 (r 44)),(d P (S "NoAsks") 258 (r 63)),(d P (S "NoShare") 283 (r 82))] 13),#[]⟩
def a1v:F:=fun P=>⟨(.type "type"),none,(.cls ⟨(S "AskError"),[(.type "ValueError")],[(r 24),(.type "ValueError"),(.type "Exception"),(.type "BaseException"),(.type "object")],23,(S "AskError"),.true,[],[(r 44),(r 63),(r 82)],.false,none,.false⟩),#[(some (r 15)),none,(some (V "AskError" 189)),(some (V "AskError" 197)),(some (.builtin "ValueError.__new__")),(some (.bool .true))]⟩
def a1x:F:=z [(i 2 0),(i 0 0),(r 20),(i 4 0),(i 0 0),(r 33),(i 10 0),(i 0 0),(r 52),(i 15 0),(i 0 0),(r 71)]
def A130:F:=fun P=>⟨(.type "dict"),none,(.dict #[(d P (S "__name__") 165 (v (S "treeasks.errors") 187)),(d P (S "__doc__") 166 n),(d P (S "__package__") 167 n),(d P (S "__loader__") 168 (.builtin "__main__.__loader__#opaque")),(d P (S "__spec__") 169 n),(d P (S "__annotations__") 170 (r 6)),(d P (S "__builtins__") 171 (r 4)),(d P (S "__file__") 173 (v (S "/claim/cut.py") 172)),(d P (S "__cached__") 174 n),(d P (S "AskError") 206 (r 24)),(d P (S "NoTree") 233 (r 44)),(d P (S "NoAsks") 258 (r 63)),(d P (S "NoShare") 283 (r 82)),(d P (S "NoText") 308 (r 101))] 14),#[]⟩
def a2h:F:=fun P=>⟨(.type "type"),none,(.cls ⟨(S "AskError"),[(.type "ValueError")],[(r 24),(.type "ValueError"),(.type "Exception"),(.type "BaseException"),(.type "object")],23,(S "AskError"),.true,[],[(r 44),(r 63),(r 82),(r 101)],.false,none,.false⟩),#[(some (r 15)),none,(some (V "AskError" 189)),(some (V "AskError" 197)),(some (.builtin "ValueError.__new__")),(some (.bool .true))]⟩
def a2j:F:=z [(i 2 0),(i 0 0),(r 20),(i 4 0),(i 0 0),(r 33),(i 10 0),(i 0 0),(r 52),(i 15 0),(i 0 0),(r 71),(i 20 0),(i 0 0),(r 90)]
def A152:F:=fun P=>⟨(.type "dict"),none,(.dict #[(d P (S "__name__") 165 (v (S "treeasks.errors") 187)),(d P (S "__doc__") 166 n),(d P (S "__package__") 167 n),(d P (S "__loader__") 168 (.builtin "__main__.__loader__#opaque")),(d P (S "__spec__") 169 n),(d P (S "__annotations__") 170 (r 6)),(d P (S "__builtins__") 171 (r 4)),(d P (S "__file__") 173 (v (S "/claim/cut.py") 172)),(d P (S "__cached__") 174 n),(d P (S "AskError") 206 (r 24)),(d P (S "NoTree") 233 (r 44)),(d P (S "NoAsks") 258 (r 63)),(d P (S "NoShare") 283 (r 82)),(d P (S "NoText") 308 (r 101)),(d P (S "NoNumber") 324 (r 113))] 15),#[]⟩
def a2y:F:=fun P=>⟨(.type "type"),none,(.cls ⟨(S "AskError"),[(.type "ValueError")],[(r 24),(.type "ValueError"),(.type "Exception"),(.type "BaseException"),(.type "object")],23,(S "AskError"),.true,[],[(r 44),(r 63),(r 82),(r 101),(r 113)],.false,none,.false⟩),#[(some (r 15)),none,(some (V "AskError" 189)),(some (V "AskError" 197)),(some (.builtin "ValueError.__new__")),(some (.bool .true))]⟩
def a30:F:=z [(i 2 0),(i 0 0),(r 20),(i 4 0),(i 0 0),(r 33),(i 10 0),(i 0 0),(r 52),(i 15 0),(i 0 0),(r 71),(i 20 0),(i 0 0),(r 90),(i 25 0),(i 0 0),(r 109)]
def A167:F:=fun P=>⟨(.type "dict"),none,(.dict #[(d P (S "__name__") 165 (v (S "treeasks.papertexts") 386)),(d P (S "__doc__") 166 n),(d P (S "__package__") 167 n),(d P (S "__loader__") 168 (.builtin "__main__.__loader__#opaque")),(d P (S "__spec__") 169 n),(d P (S "__annotations__") 170 (r 6)),(d P (S "__builtins__") 171 (r 4)),(d P (S "__file__") 173 (v (S "/claim/cut.py") 172)),(d P (S "__cached__") 174 n),(d P (S "AskError") 206 (r 24)),(d P (S "NoTree") 233 (r 44)),(d P (S "NoAsks") 258 (r 63)),(d P (S "NoShare") 283 (r 82)),(d P (S "NoText") 308 (r 101)),(d P (S "NoNumber") 324 (r 113)),(d P (S "NoPlace") 340 (r 125)),(d P (S "FIGURES") 344 (v (S "0123456789") 343)),(d P (S "MOST_FIGURES") 346 (i 70 345)),(d P (S "is_whole") 353 (r 134)),(d P (S "is_between") 362 (r 141)),(d P (S "greatest_common") 370 (r 148)),(d P (S "is_fraction") 379 (r 155)),(d P (S "whole_in") 385 (r 160))] 23),#[]⟩
def a3u:F:=fun P=>⟨(.type "type"),none,(.cls ⟨(S "AskError"),[(.type "ValueError")],[(r 24),(.type "ValueError"),(.type "Exception"),(.type "BaseException"),(.type "object")],23,(S "AskError"),.true,[],[(r 44),(r 63),(r 82),(r 101),(r 113),(r 125)],.false,none,.false⟩),#[(some (r 15)),none,(some (V "AskError" 189)),(some (V "AskError" 197)),(some (.builtin "ValueError.__new__")),(some (.bool .true))]⟩
def a3y:F:=z (zz.take 36)
def A215:F:=fun P=>⟨(.type "dict"),none,(.dict #[(d P (S "__name__") 165 (v (S "treeasks.trees") 447)),(d P (S "__doc__") 166 n),(d P (S "__package__") 167 n),(d P (S "__loader__") 168 (.builtin "__main__.__loader__#opaque")),(d P (S "__spec__") 169 n),(d P (S "__annotations__") 170 (r 6)),(d P (S "__builtins__") 171 (r 4)),(d P (S "__file__") 173 (v (S "/claim/cut.py") 172)),(d P (S "__cached__") 174 n),(d P (S "AskError") 206 (r 24)),(d P (S "NoTree") 233 (r 44)),(d P (S "NoAsks") 258 (r 63)),(d P (S "NoShare") 283 (r 82)),(d P (S "NoText") 308 (r 101)),(d P (S "NoNumber") 324 (r 113)),(d P (S "NoPlace") 340 (r 125)),(d P (S "FIGURES") 344 (v (S "0123456789") 343)),(d P (S "MOST_FIGURES") 346 (i 70 345)),(d P (S "is_whole") 353 (r 134)),(d P (S "is_between") 362 (r 141)),(d P (S "greatest_common") 370 (r 148)),(d P (S "is_fraction") 379 (r 155)),(d P (S "whole_in") 385 (r 160)),(d P (S "show_price") 396 (r 167)),(d P (S "show_prices") 402 (r 172)),(d P (S "show_numbers") 408 (r 177)),(d P (S "words_of") 415 (r 184)),(d P (S "read_number") 423 (r 191)),(d P (S "read_price") 434 (r 198)),(d P (S "read_prices") 440 (r 203)),(d P (S "read_numbers") 446 (r 208)),(d P (S "MOST_TIES") 450 (i 23 449)),(d P (S "MOST_ROOM") 452 (i 1000000 451)),(d P (S "has_two_lists") 461 (r 215)),(d P (S "look_at_tree") 473 (r 222)),(d P (S "depths") 482 (r 229)),(d P (S "is_place") 490 (r 236))] 37),#[]⟩
def a5r:F:=z (zz.take 72)
def A293:F:=fun P=>⟨(.type "dict"),none,(.dict #[(d P (S "__name__") 165 (v (S "treeasks.ways") 587)),(d P (S "__doc__") 166 n),(d P (S "__package__") 167 n),(d P (S "__loader__") 168 (.builtin "__main__.__loader__#opaque")),(d P (S "__spec__") 169 n),(d P (S "__annotations__") 170 (r 6)),(d P (S "__builtins__") 171 (r 4)),(d P (S "__file__") 173 (v (S "/claim/cut.py") 172)),(d P (S "__cached__") 174 n),(d P (S "AskError") 206 (r 24)),(d P (S "NoTree") 233 (r 44)),(d P (S "NoAsks") 258 (r 63)),(d P (S "NoShare") 283 (r 82)),(d P (S "NoText") 308 (r 101)),(d P (S "NoNumber") 324 (r 113)),(d P (S "NoPlace") 340 (r 125)),(d P (S "FIGURES") 344 (v (S "0123456789") 343)),(d P (S "MOST_FIGURES") 346 (i 70 345)),(d P (S "is_whole") 353 (r 134)),(d P (S "is_between") 362 (r 141)),(d P (S "greatest_common") 370 (r 148)),(d P (S "is_fraction") 379 (r 155)),(d P (S "whole_in") 385 (r 160)),(d P (S "show_price") 396 (r 167)),(d P (S "show_prices") 402 (r 172)),(d P (S "show_numbers") 408 (r 177)),(d P (S "words_of") 415 (r 184)),(d P (S "read_number") 423 (r 191)),(d P (S "read_price") 434 (r 198)),(d P (S "read_prices") 440 (r 203)),(d P (S "read_numbers") 446 (r 208)),(d P (S "MOST_TIES") 450 (i 23 449)),(d P (S "MOST_ROOM") 452 (i 1000000 451)),(d P (S "has_two_lists") 461 (r 215)),(d P (S "look_at_tree") 473 (r 222)),(d P (S "depths") 482 (r 229)),(d P (S "is_place") 490 (r 236)),(d P (S "are_ends") 499 (r 243)),(d P (S "MOST_ASKS") 503 (i 30 502)),(d P (S "MOST_SIZE") 505 (i 1000000 504)),(d P (S "MOST_WORTH") 507 (i 1000000000000 506)),(d P (S "is_ask") 519 (r 250)),(d P (S "look_at_asks") 529 (r 257)),(d P (S "fraction") 540 (r 264)),(d P (S "plus") 548 (r 271)),(d P (S "minus") 556 (r 278)),(d P (S "times") 564 (r 285)),(d P (S "parted") 572 (r 292)),(d P (S "sum_of") 578 (r 297)),(d P (S "under") 586 (r 304)),(d P (S "look_at_ends") 597 (r 311))] 51),#[]⟩
def a7w:F:=z (zz.take 105)
def A370:F:=fun P=>⟨(.type "dict"),none,(.dict #[(d P (S "__name__") 165 (v (S "treeasks.rules") 690)),(d P (S "__doc__") 166 n),(d P (S "__package__") 167 n),(d P (S "__loader__") 168 (.builtin "__main__.__loader__#opaque")),(d P (S "__spec__") 169 n),(d P (S "__annotations__") 170 (r 6)),(d P (S "__builtins__") 171 (r 4)),(d P (S "__file__") 173 (v (S "/claim/cut.py") 172)),(d P (S "__cached__") 174 n),(d P (S "AskError") 206 (r 24)),(d P (S "NoTree") 233 (r 44)),(d P (S "NoAsks") 258 (r 63)),(d P (S "NoShare") 283 (r 82)),(d P (S "NoText") 308 (r 101)),(d P (S "NoNumber") 324 (r 113)),(d P (S "NoPlace") 340 (r 125)),(d P (S "FIGURES") 344 (v (S "0123456789") 343)),(d P (S "MOST_FIGURES") 346 (i 70 345)),(d P (S "is_whole") 353 (r 134)),(d P (S "is_between") 362 (r 141)),(d P (S "greatest_common") 370 (r 148)),(d P (S "is_fraction") 379 (r 155)),(d P (S "whole_in") 385 (r 160)),(d P (S "show_price") 396 (r 167)),(d P (S "show_prices") 402 (r 172)),(d P (S "show_numbers") 408 (r 177)),(d P (S "words_of") 415 (r 184)),(d P (S "read_number") 423 (r 191)),(d P (S "read_price") 434 (r 198)),(d P (S "read_prices") 440 (r 203)),(d P (S "read_numbers") 446 (r 208)),(d P (S "MOST_TIES") 450 (i 23 449)),(d P (S "MOST_ROOM") 452 (i 1000000 451)),(d P (S "has_two_lists") 461 (r 215)),(d P (S "look_at_tree") 473 (r 222)),(d P (S "depths") 482 (r 229)),(d P (S "is_place") 490 (r 236)),(d P (S "are_ends") 499 (r 243)),(d P (S "MOST_ASKS") 503 (i 30 502)),(d P (S "MOST_SIZE") 505 (i 1000000 504)),(d P (S "MOST_WORTH") 507 (i 1000000000000 506)),(d P (S "is_ask") 519 (r 250)),(d P (S "look_at_asks") 529 (r 257)),(d P (S "fraction") 540 (r 264)),(d P (S "plus") 548 (r 271)),(d P (S "minus") 556 (r 278)),(d P (S "times") 564 (r 285)),(d P (S "parted") 572 (r 292)),(d P (S "sum_of") 578 (r 297)),(d P (S "under") 586 (r 304)),(d P (S "look_at_ends") 597 (r 311)),(d P (S "climb") 608 (r 318)),(d P (S "way_between") 619 (r 325)),(d P (S "way_of") 627 (r 332)),(d P (S "meeting_of") 638 (r 339)),(d P (S "tops_between") 644 (r 344)),(d P (S "lay_on") 656 (r 351)),(d P (S "load_with") 666 (r 358)),(d P (S "over_on") 672 (r 363)),(d P (S "over_with") 681 (r 370)),(d P (S "spare_of") 689 (r 375)),(d P (S "MOST_COMMON_ROOM") 693 (i 60 692)),(d P (S "common_room") 701 (r 382)),(d P (S "look_at_ones") 710 (r 389))] 64),#[]⟩
def aa2:F:=z (zz.take 141)
def A450:F:=fun P=>⟨(.type "dict"),none,(.dict #[(d P (S "__name__") 165 (v (S "law_treeasks_k80_papers_written") 769)),(d P (S "__doc__") 166 n),(d P (S "__package__") 167 n),(d P (S "__loader__") 168 (.builtin "__main__.__loader__#opaque")),(d P (S "__spec__") 169 n),(d P (S "__annotations__") 170 (r 6)),(d P (S "__builtins__") 171 (r 4)),(d P (S "__file__") 173 (v (S "/claim/cut.py") 172)),(d P (S "__cached__") 174 n),(d P (S "AskError") 206 (r 24)),(d P (S "NoTree") 233 (r 44)),(d P (S "NoAsks") 258 (r 63)),(d P (S "NoShare") 283 (r 82)),(d P (S "NoText") 308 (r 101)),(d P (S "NoNumber") 324 (r 113)),(d P (S "NoPlace") 340 (r 125)),(d P (S "FIGURES") 344 (v (S "0123456789") 343)),(d P (S "MOST_FIGURES") 346 (i 70 345)),(d P (S "is_whole") 353 (r 134)),(d P (S "is_between") 362 (r 141)),(d P (S "greatest_common") 370 (r 148)),(d P (S "is_fraction") 379 (r 155)),(d P (S "whole_in") 385 (r 160)),(d P (S "show_price") 396 (r 167)),(d P (S "show_prices") 402 (r 172)),(d P (S "show_numbers") 408 (r 177)),(d P (S "words_of") 415 (r 184)),(d P (S "read_number") 423 (r 191)),(d P (S "read_price") 434 (r 198)),(d P (S "read_prices") 440 (r 203)),(d P (S "read_numbers") 446 (r 208)),(d P (S "MOST_TIES") 450 (i 23 449)),(d P (S "MOST_ROOM") 452 (i 1000000 451)),(d P (S "has_two_lists") 461 (r 215)),(d P (S "look_at_tree") 473 (r 222)),(d P (S "depths") 482 (r 229)),(d P (S "is_place") 490 (r 236)),(d P (S "are_ends") 499 (r 243)),(d P (S "MOST_ASKS") 503 (i 30 502)),(d P (S "MOST_SIZE") 505 (i 1000000 504)),(d P (S "MOST_WORTH") 507 (i 1000000000000 506)),(d P (S "is_ask") 519 (r 250)),(d P (S "look_at_asks") 529 (r 257)),(d P (S "fraction") 540 (r 264)),(d P (S "plus") 548 (r 271)),(d P (S "minus") 556 (r 278)),(d P (S "times") 564 (r 285)),(d P (S "parted") 572 (r 292)),(d P (S "sum_of") 578 (r 297)),(d P (S "under") 586 (r 304)),(d P (S "look_at_ends") 597 (r 311)),(d P (S "climb") 608 (r 318)),(d P (S "way_between") 619 (r 325)),(d P (S "way_of") 627 (r 332)),(d P (S "meeting_of") 638 (r 339)),(d P (S "tops_between") 644 (r 344)),(d P (S "lay_on") 656 (r 351)),(d P (S "load_with") 666 (r 358)),(d P (S "over_on") 672 (r 363)),(d P (S "over_with") 681 (r 370)),(d P (S "spare_of") 689 (r 375)),(d P (S "MOST_COMMON_ROOM") 693 (i 60 692)),(d P (S "common_room") 701 (r 382)),(d P (S "look_at_ones") 710 (r 389)),(d P (S "deepest_first") 716 (r 394)),(d P (S "raise_tops") 727 (r 401)),(d P (S "pile_up") 742 (r 408)),(d P (S "keep_from_last") 754 (r 415)),(d P (S "keep_alike") 768 (r 422)),(d P (S "_law_cell_at") 778 (r 429)),(d P (S "_law_pool") 788 (r 436)),(d P (S "_law_take") 799 (r 443)),(d P (S "_law_divisor") 807 (r 450)),(d P (S "_law_low") 816 (r 457)),(d P (S "_law_price") 824 (r 464))] 75),#[]⟩
def ac7:F:=z (zz.take 174)
lay_quick Ob.A64
noncomputable def od : List F → List F
  | a::_::l=>a::od l
  | l=>l
noncomputable def ev : List F → List F
  | _::b::l=>b::ev l
  | _=>[]
noncomputable def bt : Nat → List F → Params → W.BT
  | k+1,f::l=>w f (bt k (od l)) (bt k (ev l))
  | _,_=>e
open W in
def lL (Q P0 P1:F):List F:=[boot_o_0,boot_o_1,boot_o_2,Q,boot_o_4,boot_o_5,boot_o_6,boot_o_7,boot_o_8,boot_o_9,boot_o_10,u [],P0,hd "<module>" 182 1 11 185,he 13 3 "__main__" 164,u [(.type "ValueError")],(fun P=>⟨(.type "builtin_function_or_method"),none,(.fields #[(.builtin "type.__prepare__"),(.type "type")]),#[]⟩),ho 196 "AskError" 2 22,u [],z [],hd "AskError" 191 2 18 194,he 20 17 "treeasks.errors" 187,u [],hj 196 2 "__static_attributes__" 201 22 "__weakref__" 203 25 3,P1,(fun P=>⟨(.type "getset_descriptor"),none,(.fields #[(V "__weakref__" 202),(r 24),(.builtin "ExceptionGroup.__weakref__"),n]),#[]⟩),hg 24,hf 24,u [(r 24)],(fun P=>⟨(.type "builtin_function_or_method"),none,(.fields #[(.builtin "type.__prepare__"),(.type "type")]),#[]⟩),hn 214 "NoTree" 4 227 41 230,u [],hl 6 40,hd "NoTree" 209 4 31 212,he 33 30 "treeasks.errors" 187,u [],z [],hb "self" 222 "part" "number",u [],X 2 (S "NoTree.__init__"),hm 219 "NoTree.__init__" 6 3 35 225 226,hk 2 "NoTree.__init__" 40,ha "number" 228 "part",hj 214 4 "__init__" 227 41 "__static_attributes__" 230 42 2,hh "NoTree" 44 43 28 207,hg 44,hf 44,u [(r 24)],(fun P=>⟨(.type "builtin_function_or_method"),none,(.fields #[(.builtin "type.__prepare__"),(.type "type")]),#[]⟩),hn 241 "NoAsks" 10 253 60 255,u [],hl 12 59,hd "NoAsks" 236 10 50 239,he 52 49 "treeasks.errors" 187,u [],z [],ha "self" 249 "number",u [],X 3 (S "NoAsks.__init__"),hm 246 "NoAsks.__init__" 12 2 54 251 252,hk 3 "NoAsks.__init__" 59,u [(V "number" 254)],hj 241 10 "__init__" 253 60 "__static_attributes__" 255 61 2,hh "NoAsks" 63 62 47 234,hg 63,hf 63,u [(r 24)],(fun P=>⟨(.type "builtin_function_or_method"),none,(.fields #[(.builtin "type.__prepare__"),(.type "type")]),#[]⟩),hn 266 "NoShare" 15 278 79 280,u [],hl 17 78,hd "NoShare" 261 15 69 264,he 71 68 "treeasks.errors" 187,u [],z [],ha "self" 274 "number",u [],X 4 (S "NoShare.__init__"),hm 271 "NoShare.__init__" 17 2 73 276 277,hk 4 "NoShare.__init__" 78,u [(V "number" 279)],hj 266 15 "__init__" 278 79 "__static_attributes__" 280 80 2,hh "NoShare" 82 81 66 259,hg 82,hf 82,u [(r 24)],(fun P=>⟨(.type "builtin_function_or_method"),none,(.fields #[(.builtin "type.__prepare__"),(.type "type")]),#[]⟩),hn 291 "NoText" 20 303 98 305,u [],hl 22 97,hd "NoText" 286 20 88 289,he 90 87 "treeasks.errors" 187,u [],z [],ha "self" 299 "row",u [],X 5 (S "NoText.__init__"),hm 296 "NoText.__init__" 22 2 92 301 302,hk 5 "NoText.__init__" 97,u [(V "row" 304)],hj 291 20 "__init__" 303 98 "__static_attributes__" 305 99 2,hh "NoText" 101 100 85 284,hg 101,hf 101,u [(r 24)],(fun P=>⟨(.type "builtin_function_or_method"),none,(.fields #[(.builtin "type.__prepare__"),(.type "type")]),#[]⟩),ho 316 "NoNumber" 25 111,u [],z [],hd "NoNumber" 311 25 107 314,he 109 106 "treeasks.errors" 187,u [],hp 316 25 111,hh "NoNumber" 113 112 104 309,hg 113,hf 113,u [(r 24)],(fun P=>⟨(.type "builtin_function_or_method"),none,(.fields #[(.builtin "type.__prepare__"),(.type "type")]),#[]⟩),ho 332 "NoPlace" 27 123,u [],z [],hd "NoPlace" 327 27 119 330,he 121 118 "treeasks.errors" 187,u [],hp 332 27 123,hh "NoPlace" 125 124 116 325,hg 125,hf 125,u [],z [],u [(V "thing" 350)],u [],x 11,q "is_whole" 347 348 349 32 1 0 0 3 128 181 129 130 131 132 351 352,y 11 (V "treeasks.numbers" 341) (r 133),u [],z [],hb "thing" 357 "least" "most",u [],x 12,q "is_between" 354 355 356 34 3 0 0 3 135 181 136 137 138 139 360 361,y 12 (V "treeasks.numbers" 341) (r 140),u [],z [],ha "number" 366 "bottom",u [],x 13,q "greatest_common" 363 364 365 36 2 0 0 3 142 181 143 144 145 146 368 369,y 13 (V "treeasks.numbers" 341) (r 147),u [],z [],hb "thing" 374 "top" "bottom",u [],x 14,q "is_fraction" 371 372 373 40 1 0 0 3 149 181 150 151 152 153 377 378,y 14 (V "treeasks.numbers" 341) (r 154),u [],z [],x 15,hc "whole_in" 380 47 2 156 383,y 15 (V "treeasks.numbers" 341) (r 159),u [],z [],hb "price" 391 "top" "bottom",u [],x 17,q "show_price" 388 389 390 52 1 0 0 3 161 181 162 163 164 165 394 395,y 17 (V "treeasks.papertexts" 386) (r 166),u [],z [],x 18,hc "show_prices" 397 55 1 168 400,y 18 (V "treeasks.papertexts" 386) (r 171),u [],z [],x 19,hc "show_numbers" 403 57 1 173 406,y 19 (V "treeasks.papertexts" 386) (r 176),u [],z [],u [(V "text" 412)],u [],x 20,q "words_of" 409 410 411 59 1 0 0 3 178 181 179 180 181 182 413 414,y 20 (V "treeasks.papertexts" 386) (r 183),u [],z [],ha "word" 419 "number",u [],x 21,q "read_number" 416 417 418 63 1 0 0 3 185 181 186 187 188 189 421 422,y 21 (V "treeasks.papertexts" 386) (r 190),u [],z [],hi "word" 427 "top" "slash" "bottom" "price",u [],x 22,q "read_price" 424 425 426 68 1 0 0 3 192 181 193 194 195 196 432 433,y 22 (V "treeasks.papertexts" 386) (r 197),u [],z [],x 23,hc "read_prices" 435 76 1 199 438,y 23 (V "treeasks.papertexts" 386) (r 202),u [],z [],x 24,hc "read_numbers" 441 78 1 204 444,y 24 (V "treeasks.papertexts" 386) (r 207),u [],z [],hb "thing" 456 "parents" "rooms",u [],x 28,q "has_two_lists" 453 454 455 90 1 0 0 3 209 181 210 211 212 213 459 460,y 28 (V "treeasks.trees" 447) (r 214),u [],z [],u [(V "thing" 465),(V "parents" 466),(V "rooms" 467),(V "number" 468),(V "parent" 469),(V "room" 470)],u [],x 29,q "look_at_tree" 462 463 464 97 1 0 0 3 216 181 217 218 219 220 471 472,y 29 (V "treeasks.trees" 447) (r 221),u [],z [],hb "tree" 477 "found" "parent",u [],x 30,q "depths" 474 475 476 107 1 0 0 3 223 181 224 225 226 227 480 481,y 30 (V "treeasks.trees" 447) (r 228),u [],z [],ha "tree" 486 "thing",u [],x 31,q "is_place" 483 484 485 113 2 0 0 3 230 181 231 232 233 234 488 489,y 31 (V "treeasks.trees" 447) (r 235),u [],z [],hb "tree" 494 "one" "other",u [],x 32,q "are_ends" 491 492 493 115 3 0 0 3 237 181 238 239 240 241 497 498,y 32 (V "treeasks.trees" 447) (r 242),u [],z [],u [(V "tree" 511),(V "thing" 512),(V "one" 513),(V "other" 514),(V "size" 515),(V "worth" 516)],u [],x 37,q "is_ask" 508 509 510 121 2 0 0 3 244 181 245 246 247 248 517 518,y 37 (V "treeasks.asks" 500) (r 249),u [],z [],u [(V "tree" 523),(V "thing" 524),(V "number" 525),(V "ask" 526)],u [],x 38,q "look_at_asks" 520 521 522 126 2 0 0 3 251 181 252 253 254 255 527 528,y 38 (V "treeasks.asks" 500) (r 256),u [],z [],hb "top" 535 "bottom" "common",u [],x 40,q "fraction" 532 533 534 134 2 0 0 3 258 181 259 260 261 262 538 539,y 40 (V "treeasks.fractions" 530) (r 263),u [],z [],ha "one" 544 "other",u [],x 41,q "plus" 541 542 543 143 2 0 0 3 265 181 266 267 268 269 546 547,y 41 (V "treeasks.fractions" 530) (r 270),u [],z [],ha "one" 552 "other",u [],x 42,q "minus" 549 550 551 145 2 0 0 3 272 181 273 274 275 276 554 555,y 42 (V "treeasks.fractions" 530) (r 277),u [],z [],ha "one" 560 "other",u [],x 43,q "times" 557 558 559 147 2 0 0 3 279 181 280 281 282 283 562 563,y 43 (V "treeasks.fractions" 530) (r 284),u [],z [],ha "one" 568 "other",u [],x 44,q "parted" 565 566 567 149 2 0 0 3 286 181 287 288 289 290 570 571,y 44 (V "treeasks.fractions" 530) (r 291),u [],z [],x 45,hc "sum_of" 573 151 1 293 576,y 45 (V "treeasks.fractions" 530) (r 296),u [],z [],ha "one" 582 "other",u [],x 46,q "under" 579 580 581 156 2 0 0 3 298 181 299 300 301 302 584 585,y 46 (V "treeasks.fractions" 530) (r 303),u [],z [],hb "tree" 592 "one" "other",u [],x 48,q "look_at_ends" 589 590 591 159 3 0 0 3 305 181 306 307 308 309 595 596,y 48 (V "treeasks.ways" 587) (r 310),u [],z [],hi "tree" 601 "one" "other" "way" "low",u [],x 49,q "climb" 598 599 600 163 3 0 0 3 312 181 313 314 315 316 606 607,y 49 (V "treeasks.ways" 587) (r 317),u [],z [],hi "tree" 612 "one" "other" "way" "meeting",u [],x 50,q "way_between" 609 610 611 170 3 0 0 3 319 181 320 321 322 323 617 618,y 50 (V "treeasks.ways" 587) (r 324),u [],z [],ha "tree" 623 "ask",u [],x 51,q "way_of" 620 621 622 174 2 0 0 3 326 181 327 328 329 330 625 626,y 51 (V "treeasks.ways" 587) (r 331),u [],z [],hi "tree" 631 "one" "other" "way" "meeting",u [],x 52,q "meeting_of" 628 629 630 176 3 0 0 3 333 181 334 335 336 337 636 637,y 52 (V "treeasks.ways" 587) (r 338),u [],z [],x 53,hc "tops_between" 639 180 3 340 642,y 53 (V "treeasks.ways" 587) (r 343),u [],z [],u [(V "ask" 650),(V "way" 651),(V "load" 652),(V "tie" 653)],u [],x 55,q "lay_on" 647 648 649 185 3 0 0 3 345 181 346 347 348 349 654 655,y 55 (V "treeasks.keeps" 645) (r 350),u [],z [],u [(V "tree" 660),(V "ask" 661),(V "load" 662),(V "found" 663)],u [],x 56,q "load_with" 657 658 659 188 3 0 0 3 352 181 353 354 355 356 664 665,y 56 (V "treeasks.keeps" 645) (r 357),u [],z [],x 57,hc "over_on" 667 192 4 359 670,y 57 (V "treeasks.keeps" 645) (r 362),u [],z [],hb "tree" 676 "ask" "load",u [],x 58,q "over_with" 673 674 675 194 3 0 0 3 364 181 365 366 367 368 679 680,y 58 (V "treeasks.keeps" 645) (r 369),u [],z [],x 60,hc "spare_of" 684 197 4 371 687,y 60 (V "treeasks.prices" 682) (r 374),u [],z [],ha "tree" 697 "room",u [],x 63,q "common_room" 694 695 696 203 1 0 0 3 376 181 377 378 379 380 699 700,y 63 (V "treeasks.rules" 690) (r 381),u [],z [],hb "asks" 705 "number" "ask",u [],x 64,q "look_at_ones" 702 703 704 208 1 0 0 3 383 181 384 385 386 387 708 709,y 64 (V "treeasks.rules" 690) (r 388),u [],z [],x 65,hc "deepest_first" 711 212 2 390 714,y 65 (V "treeasks.rules" 690) (r 393),u [],z [],hi "tree" 720 "ask" "prices" "step" "tie",u [],x 66,q "raise_tops" 717 718 719 216 4 0 0 3 395 181 396 397 398 399 725 726,y 66 (V "treeasks.rules" 690) (r 400),u [],z [],u [(V "tree" 731),(V "asks" 732),(V "terms" 733),(V "prices" 734),(V "rests" 735),(V "pile" 736),(V "number" 737),(V "weight" 738),(V "part" 739)],u [],x 67,q "pile_up" 728 729 730 219 3 0 0 3 402 181 403 404 405 406 740 741,y 67 (V "treeasks.rules" 690) (r 407),u [],z [],u [(V "tree" 746),(V "asks" 747),(V "pile" 748),(V "load" 749),(V "keep" 750),(V "number" 751)],u [],x 68,q "keep_from_last" 743 744 745 231 3 0 0 3 409 181 410 411 412 413 752 753,y 68 (V "treeasks.rules" 690) (r 414),u [],z [],u [(V "tree" 760),(V "asks" 761),(V "room" 762),(V "pile" 763),(V "prices" 764),(V "rests" 765)],u [],x 70,q "keep_alike" 757 758 759 240 2 0 0 3 416 181 417 418 419 420 766 767,y 70 (V "treeasks.alike" 755) (r 421),u [],z [],ha "_law_script" 774 "_law_k",u [],x 72,q "_law_cell_at" 771 772 773 247 2 0 0 3 423 181 424 425 426 427 776 777,y 72 (V "law_treeasks_k80_papers_written" 769) (r 428),u [],z [],u [(V "_law_script" 782),(V "_law_k" 783),(V "_law_cell" 784),(V "_law_mixed" 785)],u [],x 73,q "_law_pool" 779 780 781 251 2 0 0 3 430 181 431 432 433 434 786 787,y 73 (V "law_treeasks_k80_papers_written" 769) (r 435),u [],z [],hi "_law_pool_here" 792 "_law_many" "_law_found" "_law_made" "_law_turn",u [],x 74,q "_law_take" 789 790 791 257 2 0 0 3 437 181 438 439 440 441 797 798,y 74 (V "law_treeasks_k80_papers_written" 769) (r 442),u [],z [],ha "_law_one" 803 "_law_other",u [],x 75,q "_law_divisor" 800 801 802 267 2 0 0 3 444 181 445 446 447 448 805 806,y 75 (V "law_treeasks_k80_papers_written" 769) (r 449),u [],z [],hb "_law_top" 811 "_law_bottom" "_law_share",u [],x 76,q "_law_low" 808 809 810 271 2 0 0 3 451 181 452 453 454 455 814 815,y 76 (V "law_treeasks_k80_papers_written" 769) (r 456),u [],z [],ha "_law_pool_here" 820 "_law_top",u [],x 77,q "_law_price" 817 818 819 274 1 0 0 3 458 181 459 460 461 462 822 823,y 77 (V "law_treeasks_k80_papers_written" 769) (r 463)]
def Ttree_85 (Q : F) : Params → W.BT := bt 11 ((lL Q a0m a0k).take 47)
def _root_.PySem.W.Fast.tw5312090414648229830 : Params → W.BT := Ttree_85 PySem.W.Fast.tw6963075612888702905
theorem _root_.PySem.W.Fast.te5312090414648229830 : Ttree_85 Ob.A64 = PySem.W.Fast.tw5312090414648229830 := (congrArg Ttree_85 PySem.W.Fast.te6963075612888702905)
lay_quick Ob.A86
def Ttree_107 (Q : F) : Params → W.BT := bt 11 ((lL Q a1e a1c).take 66)
def _root_.PySem.W.Fast.tw13684054771745153040 : Params → W.BT := Ttree_107 PySem.W.Fast.tw11147188043990879120
theorem _root_.PySem.W.Fast.te13684054771745153040 : Ttree_107 Ob.A86 = PySem.W.Fast.tw13684054771745153040 := (congrArg Ttree_107 PySem.W.Fast.te11147188043990879120)
lay_quick Ob.A108
def Ttree_129 (Q : F) : Params → W.BT := bt 11 ((lL Q a1x a1v).take 85)
def _root_.PySem.W.Fast.tw3602418311758513148 : Params → W.BT := Ttree_129 PySem.W.Fast.tw4549916873101738619
theorem _root_.PySem.W.Fast.te3602418311758513148 : Ttree_129 Ob.A108 = PySem.W.Fast.tw3602418311758513148 := (congrArg Ttree_129 PySem.W.Fast.te4549916873101738619)
lay_quick Ob.A130
def Ttree_151 (Q : F) : Params → W.BT := bt 11 ((lL Q a2j a2h).take 104)
def _root_.PySem.W.Fast.tw8262447867995149968 : Params → W.BT := Ttree_151 PySem.W.Fast.tw16405788764653981887
theorem _root_.PySem.W.Fast.te8262447867995149968 : Ttree_151 Ob.A130 = PySem.W.Fast.tw8262447867995149968 := (congrArg Ttree_151 PySem.W.Fast.te16405788764653981887)
lay_quick Ob.A152
def Ttree_166 (Q : F) : Params → W.BT := bt 11 ((lL Q a30 a2y).take 116)
def _root_.PySem.W.Fast.tw6148624620529423231 : Params → W.BT := Ttree_166 PySem.W.Fast.tw6053701103550676820
theorem _root_.PySem.W.Fast.te6148624620529423231 : Ttree_166 Ob.A152 = PySem.W.Fast.tw6148624620529423231 := (congrArg Ttree_166 PySem.W.Fast.te6053701103550676820)
lay_quick Ob.A167
def Ttree_214 (Q : F) : Params → W.BT := bt 11 ((lL Q a3y a3u).take 161)
def _root_.PySem.W.Fast.tw15749459825667879980 : Params → W.BT := Ttree_214 PySem.W.Fast.tw9136528746814694042
theorem _root_.PySem.W.Fast.te15749459825667879980 : Ttree_214 Ob.A167 = PySem.W.Fast.tw15749459825667879980 := (congrArg Ttree_214 PySem.W.Fast.te9136528746814694042)
lay_quick Ob.A215
def Ttree_292 (Q : F) : Params → W.BT := bt 11 ((lL Q a5r a3u).take 237)
def _root_.PySem.W.Fast.tw10609587905864757581 : Params → W.BT := Ttree_292 PySem.W.Fast.tw3611359712185827243
theorem _root_.PySem.W.Fast.te10609587905864757581 : Ttree_292 Ob.A215 = PySem.W.Fast.tw10609587905864757581 := (congrArg Ttree_292 PySem.W.Fast.te3611359712185827243)
lay_quick Ob.A293
def Ttree_369 (Q : F) : Params → W.BT := bt 11 ((lL Q a7w a3u).take 312)
def _root_.PySem.W.Fast.tw545007289034517507 : Params → W.BT := Ttree_369 PySem.W.Fast.tw18440253496614609407
theorem _root_.PySem.W.Fast.te545007289034517507 : Ttree_369 Ob.A293 = PySem.W.Fast.tw545007289034517507 := (congrArg Ttree_369 PySem.W.Fast.te18440253496614609407)
lay_quick Ob.A370
def Ttree_449 (Q : F) : Params → W.BT := bt 11 ((lL Q aa2 a3u).take 390)
def _root_.PySem.W.Fast.tw14134740521053558883 : Params → W.BT := Ttree_449 PySem.W.Fast.tw12705115980605160142
theorem _root_.PySem.W.Fast.te14134740521053558883 : Ttree_449 Ob.A370 = PySem.W.Fast.tw14134740521053558883 := (congrArg Ttree_449 PySem.W.Fast.te12705115980605160142)
lay_quick Ob.A450
def Ttree_526 (Q : F) : Params → W.BT := bt 11 ((lL Q ac7 a3u).take 465)
def _root_.PySem.W.Fast.tw8995746664588903016 : Params → W.BT := Ttree_526 PySem.W.Fast.tw16664708540032882205
theorem _root_.PySem.W.Fast.te8995746664588903016 : Ttree_526 Ob.A450 = PySem.W.Fast.tw8995746664588903016 := (congrArg Ttree_526 PySem.W.Fast.te16664708540032882205)
end
end Ob
namespace L2
open PySem PySem.Spec PyProof.Rows
abbrev Key:=Sum Int Str
def tU:Key→Value→Bool
 | .inl k,v=>Value.isInt k v
 | .inr x,v=>Value.isStrOf x v
def keyH (w:World):Key→Int
 | .inl k=>hashInt k
 | .inr x=>hashStr w x
theorem bj:∀ {k:Key} {v:Value},tU k v=true→(∃ i t,k=Sum.inl i∧v=Value.int i t)∨(∃ x t,k=Sum.inr x∧v=Value.str x t)
 | .inl i,v,h=>by
  obtain ⟨t,e⟩:=Value.isInt_shape (k:=i) (v:=v) h
  exact .inl ⟨i,t,rfl,e⟩
 | .inr x,v,h=>by
  obtain ⟨t,e⟩:=Value.isStrOf_shape (x:=x) (v:=v) h
  exact .inr ⟨x,t,rfl,e⟩
theorem wJ (a b:Int):decide ((Sum.inl a:Key)=Sum.inl b)=(a == b):=by
 by_cases e:a=b
 ·subst e; simp
 ·have h : ¬ (Sum.inl a:Key)=Sum.inl b:=fun q=>e (Sum.inl.inj q)
  rw [decide_eq_false h]
  exact (beq_eq_false_iff_ne.mpr e).symm
theorem vj (a b:Str):decide ((Sum.inr a:Key)=Sum.inr b)=decide (a=b):=by
 by_cases e:a=b
 ·subst e; simp
 ·have h : ¬ (Sum.inr a:Key)=Sum.inr b:=fun q=>e (Sum.inr.inj q)
  rw [decide_eq_false h,decide_eq_false e]
theorem vT (a:Int) (b:Str):decide ((Sum.inl a:Key)=Sum.inr b)=false:=decide_eq_false (fun q=>nomatch q)
theorem vK (a:Str) (b:Int):decide ((Sum.inr a:Key)=Sum.inl b)=false:=decide_eq_false (fun q=>nomatch q)
def iV (prog:Program) (w:World):PySem.KeyKind prog w Key where
 is:=tU
 hash:=keyH w
 inj:=fun v a b ha hb=>by
  rcases bj ha with ⟨i,t,rfl,rfl⟩ | ⟨x,t,rfl,rfl⟩
  ·rcases bj hb with ⟨j,u,rfl,e⟩ | ⟨y,u,rfl,e⟩
   ·injection e with e1 _; rw [e1]
   ·exact nomatch e
  ·rcases bj hb with ⟨j,u,rfl,e⟩ | ⟨y,u,rfl,e⟩
   ·exact nomatch e
   ·injection e with e1 _; rw [e1]
 byValue:=fun k v h=>by
  rcases bj h with ⟨i,t,rfl,rfl⟩ | ⟨x,t,rfl,rfl⟩ <;> rfl
 pyHash:=fun hv h=>by
  rcases bj hv with ⟨i,t,rfl,rfl⟩ | ⟨x,t,rfl,rfl⟩
  ·exact wpAny_pyHash_int h
  ·exact wpAny_pyHash_str h
 eqBool:=fun hu hv h=>by
  rcases bj hu with ⟨i,t,rfl,rfl⟩ | ⟨x,t,rfl,rfl⟩
  ·rcases bj hv with ⟨j,u,rfl,rfl⟩ | ⟨y,u,rfl,rfl⟩
   ·rw [wJ] at h; exact wpAny_eqBool_int h
   ·rw [vT] at h; exact SeqAt.EqAt.int_str i t y u _ _ _ _ h
  ·rcases bj hv with ⟨j,u,rfl,rfl⟩ | ⟨y,u,rfl,rfl⟩
   ·rw [vK] at h; exact SeqAt.EqAt.str_int x t j u _ _ _ _ h
   ·rw [vj] at h; exact wpAny_eqBool_str h
 «strs»:=fun k x t v h=>by
  rcases bj h with ⟨i,u,rfl,e⟩ | ⟨y,u,rfl,e⟩
  ·exact nomatch e
  ·injection e with e1 _
   subst e1
   cases v <;> rfl
inductive V where
 | non | bl (b:Bool) | int (i:Int) | str (x:Str) | byt (b:Array UInt8) | flt (b:UInt64) | ref (a:Addr) | ty (n:String)
 deriving DecidableEq
def a7:V→Value→Prop
 | .non,u=>u=Value.none
 | .bl b,u=>u=Value.bool b
 | .int i,u=>∃ t,u=Value.int i t
 | .str x,u=>∃ t,u=Value.str x t
 | .byt b,u=>∃ t,u=Value.bytes b t
 | .flt b,u=>∃ t,u=Value.float b t
 | .ref a,u=>u=Value.ref a
 | .ty n,u=>u=Value.type n
abbrev aN:List V→List Value→Prop:=Paired a7
theorem aN.length {xs:List V} {us:List Value} (r:aN xs us):xs.length=us.length:=Paired.length r
theorem aN.get:∀ {xs:List V} {us:List Value} {i:Nat} {x:V},aN xs us→xs[i]? = some x→∃ u,us[i]? = some u∧a7 x u
 | _,_,_,_,.nil,e=>by simp at e
 | _,_,0,_,.cons r _,e=>by simp at e; subst e; exact ⟨_,rfl,r⟩
 | _,_,i + 1,x,.cons _ t,e=>by
  obtain ⟨u,h1,h2⟩:=aN.get (i:=i) (x:=x) t (by simpa using e)
  exact ⟨u,by simpa using h1,h2⟩
theorem aN.set {x:V} {u:Value} (r:a7 x u):∀ {xs:List V} {us:List Value} (i:Nat),aN xs us→aN (xs.set i x) (us.set i u)
 | _,_,_,.nil=>.nil
 | _,_,0,.cons _ t=>.cons r t
 | _,_,i + 1,.cons q t=>.cons q (aN.set r i t)
theorem aN.append:∀ {xs ys:List V} {us ws:List Value},aN xs us→aN ys ws→aN (xs++ys) (us++ws)
 | _,_,_,_,.nil,s=>s
 | _,_,_,_,.cons r t,s=>.cons r (aN.append t s)
theorem aN.take:∀ {xs:List V} {us:List Value} (n:Nat),aN xs us→aN (xs.take n) (us.take n)
 | _,_,0,_=>.nil
 | _,_,_ + 1,.nil=>.nil
 | _,_,n + 1,.cons r t=>.cons r (aN.take n t)
theorem aN.drop:∀ {xs:List V} {us:List Value} (n:Nat),aN xs us→aN (xs.drop n) (us.drop n)
 | _,_,0,r=>r
 | _,_,_ + 1,.nil=>.nil
 | _,_,n + 1,.cons _ t=>aN.drop n t
def RelO:Option V→Option Value→Prop
 | some v,some u=>a7 v u
 | none,none=>True
 | _,_=>False
def KV {κ:Type}:List (κ×V)→List (κ×Value)→Prop:=Paired fun (p : κ×V) (q : κ×Value)=>p.1=q.1∧a7 p.2 q.2
def kV:Key→V
 | .inl i=>.int i
 | .inr x=>.str x
inductive HO where

 | lst (xs:List V)

 | tup (xs:List V)

 | dK (kvs:List (Key×V)) | dT (kvs:List (List Key×V))

 | set (S:Int→Bool) (n:Nat)

 | ins (C dx:Addr) (fs:List (Str×V))

 | own (x:Addr)

 | xd (fs:List (Str×V))

 | met (f x:Addr)

 | rng (lo hi:Int)

 | frz (o:Obj) (u:HO)

 | tbl (ps:Array Value) (q:Str)

 | ext (φ:Heap→Prop)
abbrev Hp:=Addr→Option HO
def upd (H:Hp) (a:Addr) (o:HO):Hp:=fun b=>if b=a then some o else H b
theorem aJ {H:Hp} {a:Addr} {o:HO}:upd H a o a=some o:=by unfold upd; rw [if_pos rfl]
theorem ar {H:Hp} {a b:Addr} {o:HO} (h:b≠a):upd H a o b=H b:=by unfold upd; rw [if_neg h]
theorem aq {H:Hp} {a b:Addr} {o:HO} (h:H a=some o) (h':H b=none):a≠b:=by
 intro e; subst e; rw [h] at h'; cases h'
def TbV (H:Hp) (ps:Array Value) (q:Str):Prop:=TriplesOk ps.toList∧∀ pos cv,codeAmong pos ps.toList=some cv→∃ c o vs t,cv = .ref c∧H c=some (.frz o (.own 0))∧o.data = .fields vs∧vs[1]? = some (.str q t)
theorem TbV.mono {H H':Hp} {ps:Array Value} {q:Str} (h:TbV H ps q) (hf:∀ b o u,H b=some (.frz o u)→H' b=some (.frz o u)):TbV H' ps q:=⟨h.1,fun pos cv e=>let ⟨c,o,vs,t,a,b,r⟩:=h.2 pos cv e; ⟨c,o,vs,t,a,hf _ _ _ b,r⟩⟩
section
variable (P:Program) (w:World)
def bJ (H:Hp) (h:Heap) (a:Addr):HO→Prop
 | .lst xs=>xs.length≤sizeLine∧∃ (its:List Value) (n:Nat),aN xs its∧h.get? a=some { cls:=.type "list",data:=.seq its.toArray n }
 | .tup xs=>xs.length≤sizeLine∧∃ its:List Value,aN xs its∧IsTup h a its.toArray
 | .dK kvs=>kvs.length≤sizeLine∧(a == sysModules)=false∧∃ vs,KV kvs vs∧h.DictOf (iV P w) a vs
 | .dT kvs=>kvs.length≤sizeLine∧(a == sysModules)=false∧∃ xs:List (List Key×Addr×Value),
  Paired (fun (p:List Key×V) (q:List Key×Addr×Value)=>p.1=q.1∧H q.2.1=some (.tup (p.1.map kV))∧a7 p.2 q.2.2) kvs xs ∧
  ∃ o es ep,h.get? a=some o∧o.ExactDict∧o.data = .dict es ep∧es.toList=xs.map (entryOfKey (tupleKind (iV P w)))∧(xs.map (·.1)).Nodup
 | .set S n=>h.SetOf (intKind P w) a S n
 | .ins C dx fs=>H dx=some (.own a)∧fs.length≤1000∧dx≠a∧h.get? a=some (PySem.W.instObj C dx) ∧
  ∃ mA,h.Ns1 dx mA∧(∀ f,RelO (fs.lookup f) (mA f))∧PySem.Within mA (fs.map (·.1))
 | .own _=>∃ o,h.get? a=some o
 | .xd fs=>∃ mA,h.Ns1 a mA∧∀ f,RelO (fs.lookup f) (mA f)
 | .rng lo hi=>∃ t u v,h.get? a=some { cls:=.type "range",data:=.fields #[.int lo t,.int hi u,.int 1 v] }
 | .frz o u=>h.get? a=some o∧bJ H h a u
 | .tbl ps q=>h.get? a=some { cls:=.none,data:=.fields ps }∧TbV H ps q
 | .met f x=>h.get? a=some (PySem.W.methodObj (.ref f) (.ref x))
 | .ext φ=>φ h∧(∃ o,h.get? a=some o)∧∀ h1 h2:Heap,φ h1→(∀ o,h1.get? a=some o→h2.get? a=some o)→φ h2
def HOk (H:Hp) (h:Heap):Prop:=∀ a o,H a=some o→bJ P w H h a o
end
section
variable {P:Program} {w:World} {H H':Hp} {h h':Heap} {a:Addr} {o:HO}
theorem bJ.lt (x:bJ P w H h a o):a<h.objs.size:=by
 cases o with
 | lst xs=>obtain ⟨_,_,_,_,e⟩:=x; exact Heap.lt_size e
 | tup xs=>obtain ⟨_,_,_,p⟩:=x; exact p.lt
 | dK kvs=>obtain ⟨_,_,_,_,o,_,_,e,_⟩:=x; exact Heap.lt_size e
 | dT kvs=>obtain ⟨_,_,_,_,o,_,_,e,_⟩:=x; exact Heap.lt_size e
 | set S n=>obtain ⟨o,_,_,_,e,_⟩:=x; exact Heap.lt_size e
 | ins C dx fs=>obtain ⟨_,_,_,e,_⟩:=x; exact Heap.lt_size e
 | own y=>obtain ⟨_,e⟩:=x; exact Heap.lt_size e
 | xd fs=>obtain ⟨_,⟨_,_,_,e,_⟩,_⟩:=x; exact Heap.lt_size e
 | rng lo hi=>obtain ⟨_,_,_,e⟩:=x; exact Heap.lt_size e
 | frz ob u=>obtain ⟨e,_⟩:=x; exact Heap.lt_size e
 | tbl ps q=>obtain ⟨e,_⟩:=x; exact Heap.lt_size e
 | met f y=>exact Heap.lt_size (show h.get? a=some _ from x)
 | ext φ=>obtain ⟨_,⟨_,e⟩,_⟩:=x; exact Heap.lt_size e
theorem Paired.mapP {α β:Type} {F G : α→β→Prop}:∀ {l₁:List α} {l₂:List β},Paired F l₁ l₂→(∀ a b,F a b→G a b)→Paired G l₁ l₂
 | _,_,.nil,_=>.nil
 | _,_,.cons r t,f=>.cons (f _ _ r) (Paired.mapP t f)
theorem bJ.stay (x:bJ P w H h a o) (k:∀ b u,(b=a∨H b=some (.own a))→h.get? b=some u→h'.get? b=some u)
 (ho:∀ b,H b=some (.own a)→H' b=some (.own a)) (ht:∀ b xs,H b=some (.tup xs)→H' b=some (.tup xs)) (hf:∀ b o u,H b=some (.frz o u)→H' b=some (.frz o u)):bJ P w H' h' a o:=by
 induction o with
 | lst xs=>obtain ⟨z,its,n,r,e⟩:=x; exact ⟨z,its,n,r,k _ _ (.inl rfl) e⟩
 | tup xs=>obtain ⟨z,its,r,ob,e,c⟩:=x; exact ⟨z,its,r,ob,k _ _ (.inl rfl) e,c⟩
 | dK kvs=>obtain ⟨z,y,vs,r,ob,es,ep,e,c⟩:=x; exact ⟨z,y,vs,r,ob,es,ep,k _ _ (.inl rfl) e,c⟩
 | dT kvs =>
  obtain ⟨z,y,xs,r,ob,es,ep,e,c⟩:=x
  exact ⟨z,y,xs,Paired.mapP r fun p q z=>⟨z.1,ht _ _ z.2.1,z.2.2⟩,ob,es,ep,k _ _ (.inl rfl) e,c⟩
 | set S n=>obtain ⟨ob,es,ep,t,e,c⟩:=x; exact ⟨ob,es,ep,t,k _ _ (.inl rfl) e,c⟩
 | ins C dx fs =>
  obtain ⟨d,z,ne,e,mA,⟨od,es,ep,e2,c⟩,r⟩:=x
  exact ⟨ho _ d,z,ne,k _ _ (.inl rfl) e,mA,⟨od,es,ep,k _ _ (.inr d) e2,c⟩,r⟩
 | own y=>obtain ⟨ob,e⟩:=x; exact ⟨ob,k _ _ (.inl rfl) e⟩
 | xd fs=>obtain ⟨mA,⟨od,es,ep,e,c⟩,r⟩:=x; exact ⟨mA,⟨od,es,ep,k _ _ (.inl rfl) e,c⟩,r⟩
 | rng lo hi=>obtain ⟨t,u,v,e⟩:=x; exact ⟨t,u,v,k _ _ (.inl rfl) e⟩
 | frz ob u ih=>obtain ⟨e,q⟩:=x; exact ⟨k _ _ (.inl rfl) e,ih q⟩
 | tbl ps q=>obtain ⟨e,v⟩:=x; exact ⟨k a _ (.inl rfl) e,v.mono hf⟩
 | met f y =>
  have e:h.get? a=some (PySem.W.methodObj (.ref f) (.ref y)):=x
  show h'.get? a=some (PySem.W.methodObj (.ref f) (.ref y))
  exact k a _ (.inl rfl) e
 | ext φ=>obtain ⟨p,⟨o,e⟩,st⟩:=x; exact ⟨st _ _ p fun o q=>k _ _ (.inl rfl) q,⟨o,k _ _ (.inl rfl) e⟩,st⟩
theorem HOk.lt (x:HOk P w H h) (e:H a=some o):a<h.objs.size:=(x a o e).lt
theorem HOk.fresh (x:HOk P w H h) (e:h.objs.size≤a):H a=none:=by
 cases q:H a with
 | none=>rfl
 | some u=>exact absurd (Nat.lt_of_lt_of_le (x.lt q) e) (Nat.lt_irrefl _)
theorem HOk.kept (x:HOk P w H h) (k:∀ b u,h.get? b=some u→h'.get? b=some u):HOk P w H h':=fun a o e =>
 (x a o e).stay (fun b u _ q=>k b u q) (fun _ q=>q) (fun _ _ q=>q) fun _ _ _ q=>q
theorem HOk.laid (x:HOk P w H h) (k:∀ b u,h.get? b=some u→h'.get? b=some u) (hp:h.objs.size≤a) (new:bJ P w (upd H a o) h' a o):HOk P w (upd H a o) h':=fun b u e=>by
 have hn:=x.fresh hp
 by_cases hb:b=a
 ·subst hb; rw [aJ] at e; cases e; exact new
 ·rw [ar hb] at e
  exact (x b u e).stay (fun c v _ q=>k c v q) (fun c q=>by rw [ar (aq q hn)]; exact q) (fun c xs q=>by rw [ar (aq q hn)]; exact q) fun c ob u q=>by rw [ar (aq q hn)]; exact q
end
def Rd (H:Hp) (a:Addr) (u:HO):Prop:=H a=some u∨∃ o,H a=some (.frz o u)
theorem Rd.ok {P:Program} {w:World} {H:Hp} {h:Heap} {a:Addr} {u:HO} (r:Rd H a u) (x:HOk P w H h):bJ P w H h a u:=by
 rcases r with r | ⟨o,r⟩
 ·exact x a u r
 ·obtain ⟨_,q⟩:=x a _ r
  exact q
def Mut:Option HO→Prop
 | some (.lst _)=>True
 | some (.dK _)=>True
 | some (.dT _)=>True
 | some (.set _ _)=>True
 | some (.ins _ _ _)=>True
 | some (.ext _)=>True
 | _=>False
section
variable {P:Program} {w:World} {H:Hp} {h h':Heap} {x e:Addr} {o':HO}
theorem HOk.write (ok:HOk P w H h) (mu:Mut (H x)) (he:e=x∨H e=some (.own x)) (k:∀ b u,b≠e→h.get? b=some u→h'.get? b=some u) (heo:∃ u,h'.get? e=some u)
 (new:bJ P w (upd H x o') h' x o'):HOk P w (upd H x o') h':=fun b u q=>by
 have nown:∀ c y,H c=some (.own y)→c≠x:=fun c y r z=>by subst z; rw [r] at mu; exact mu
 have ntup:∀ c xs,H c=some (.tup xs)→c≠x:=fun c xs r z=>by subst z; rw [r] at mu; exact mu
 have nfrz:∀ c ob u,H c=some (.frz ob u)→c≠x:=fun c ob u r z=>by subst z; rw [r] at mu; exact mu
 by_cases hb:b=x
 ·subst hb; rw [aJ] at q; cases q; exact new
 ·rw [ar hb] at q
  by_cases hbe:b=e
  ·have q':H b=some (.own x):=by
    rcases he with z | z
    ·exact absurd (hbe.trans z) hb
    ·rw [hbe]; exact z
   rw [q] at q'; cases q'
   obtain ⟨v,hv⟩:=heo
   exact ⟨v,by rw [hbe]; exact hv⟩
  ·refine (ok b u q).stay (fun c v hc r=>k c v ?_ r) (fun c r=>by rw [ar (nown c b r)]; exact r) (fun c xs r=>by rw [ar (ntup c xs r)]; exact r) fun c ob u r=>by rw [ar (nfrz c ob u r)]; exact r
   rcases hc with rfl | hc
   ·exact hbe
   ·rintro rfl
    rcases he with z | z
    ·exact nown c b hc z
    ·rw [hc] at z; cases z; exact hb rfl
end
structure Un (fs ex:List Addr) (H H':Hp) (h h':Heap):Prop where
 keep:∀ b o,h.get? b=some o→H b=none→b ∉ fs→b ∉ ex→h'.get? b=some o
 slot:∀ b o,h.get? b=some o→H b=none→b∈fs→b ∉ ex→∃ sl,h'.get? b=some { o with slots:=sl }
 free:∀ b o,h.get? b=some o→H b=none→b ∉ ex→H' b=none
 there:∀ b o,h.get? b=some o→b ∉ ex→∃ o',h'.get? b=some o'
 tups:∀ b xs,H b=some (.tup xs)→H' b=some (.tup xs)
 frzs:∀ b o u,H b=some (.frz o u)→H' b=some (.frz o u)
 tbls:∀ b ps q,H b=some (.tbl ps q)→∃ more,H' b=some (.tbl (ps++more) q)
section
variable {fs fs' ex ex':List Addr} {H H1 H2:Hp} {h h1 h2 h':Heap} {a x e:Addr} {o:HO}
theorem Un.any (u:Un fs ex H H1 h h1) {b:Addr} {ob:Obj} (q:h.get? b=some ob) (n:H b=none) (hx:b ∉ ex):∃ sl,h1.get? b=some { ob with slots:=sl }:=by
 by_cases hb:b∈fs
 ·exact u.slot b ob q n hb hx
 ·exact ⟨ob.slots,u.keep b ob q n hb hx⟩
theorem Un.kept (k:∀ b u,h.get? b=some u→h'.get? b=some u):Un fs ex H H h h' :=
 ⟨fun b ob q _ _ _=>k b ob q,fun b ob q _ _ _=>⟨ob.slots,k b ob q⟩,fun _ _ _ n _=>n,fun b ob q _=>⟨ob,k b ob q⟩,fun _ _ q=>q,fun _ _ _ q=>q,fun _ ps _ q=>⟨#[],by rw [q]; simp⟩⟩
theorem Un.refl:Un fs ex H H h h:=Un.kept fun _ _ q=>q
theorem Un.laid (k:∀ b u,h.get? b=some u→h'.get? b=some u) (hp:h.objs.size≤a) (hn:H a=none):Un fs ex H (upd H a o) h h' where
 keep:=fun b u q _ _ _=>k b u q
 slot:=fun b u q _ _ _=>⟨u.slots,k b u q⟩
 free:=fun b u q n _=>by rw [ar (Nat.ne_of_lt (Nat.lt_of_lt_of_le (Heap.lt_size q) hp))]; exact n
 there:=fun b u q _=>⟨u,k b u q⟩
 tups:=fun b xs q=>by rw [ar (aq q hn)]; exact q
 frzs:=fun b u xs q=>by rw [ar (aq q hn)]; exact q
 tbls:=fun b ps _ q=>⟨#[],by rw [ar (aq q hn),q]; simp⟩
theorem Un.write (mu:Mut (H x)) (he:e=x∨H e=some (.own x)) (k:∀ b u,b≠e→h.get? b=some u→h'.get? b=some u) (heo:∃ u,h'.get? e=some u):Un fs ex H (upd H x o) h h':=by
 have hx:∀ b,H b=none→b≠x:=fun b n z=>by subst z; rw [n] at mu; exact mu
 have hb:∀ b,H b=none→b≠e:=fun b n z=>by
  subst z
  rcases he with r | r
  ·exact hx b n r
  ·rw [n] at r; cases r
 have hm:∀ b u,H b=some u→¬ Mut (some u)→b≠x:=fun b u q nm z=>by subst z; rw [q] at mu; exact nm mu
 refine ⟨fun b u q n _ _=>k b u (hb b n) q,fun b u q n _ _=>⟨u.slots,k b u (hb b n) q⟩,fun b u q n _=>by rw [ar (hx b n)]; exact n,fun b u q _=>?_,
  fun b xs q=>by rw [ar (hm b _ q fun z=>z)]; exact q,fun b u xs q=>by rw [ar (hm b _ q fun z=>z)]; exact q,fun b ps _ q=>⟨#[],by rw [ar (hm b _ q fun z=>z),q]; simp⟩⟩
 by_cases hbe:b=e
 ·subst hbe; exact heo
 ·exact ⟨u,k b u hbe q⟩
end
def mZ (v:Value):Obj:=⟨v,none,.freed,#[]⟩
def jN (h:Heap) (H:Hp) (i:Addr):Obj:=match H i with
 | some (.tbl _ q)=>mZ (.str q 0)
 | some _=>mZ .none
 | none=>match h.get? i with
  | some o=>o
  | none=>mZ .none
def dj (h:Heap) (H:Hp):Heap:=⟨Array.ofFn (n:=h.objs.size) fun i=>jN h H i,h.life⟩
theorem d8 (h:Heap) (H:Hp):(dj h H).objs.size=h.objs.size:=by simp [dj]
theorem j_ {h:Heap} {H:Hp} {b:Addr} {o:Obj} (e:(dj h H).objs[b]? = some o):b<h.objs.size∧o=jN h H b:=by
 obtain ⟨hb,e⟩:=Array.getElem?_eq_some_iff.mp e
 rw [d8] at hb
 refine ⟨hb,?_⟩
 rw [← e]; simp [dj]
theorem nofree {h:Heap} {b:Addr} {o:Obj} (e:h.get? b=some o):h.objs[b]? = some o∧o.data≠.freed:=by
 unfold Heap.get? at e
 split at e
 ·cases e
 ·rename_i hn
  refine ⟨e,fun z=>?_⟩
  obtain ⟨c,d,da,sl⟩:=o
  have z:da = .freed:=z
  subst z
  exact hn c d sl e
theorem sZ {h:Heap} {b:Addr} {o:Obj} (e:h.objs[b]? = some o) (n:o.data≠.freed):h.get? b=some o:=by
 unfold Heap.get?
 split
 ·rename_i c d sl e'
  rw [e] at e'; cases e'
  exact absurd rfl n
 ·exact e
theorem rn {h:Heap} {H:Hp} {b:Addr} {o:Obj} (e:h.get? b=some o) (n:H b=none):(dj h H).get? b=some o:=by
 have hb:b<(dj h H).objs.size:=by rw [d8]; exact Heap.lt_size e
 refine sZ ?_ (nofree e).2
 rw [Array.getElem?_eq_getElem hb]
 have:(dj h H).objs[b]=jN h H b:=by simp [dj]
 rw [this]; unfold jN; rw [n,e]
theorem rS {h:Heap} {H:Hp} {b:Addr} {o:Obj} (e:(dj h H).get? b=some o):h.get? b=some o∧H b=none:=by
 obtain ⟨e1,nf⟩:=nofree e
 obtain ⟨_,e2⟩:=j_ e1
 unfold jN at e2
 split at e2
 ·rw [e2] at nf; exact absurd rfl nf
 ·rw [e2] at nf; exact absurd rfl nf
 ·rename_i hn
  split at e2
  ·rename_i o' e3
   exact ⟨e3.trans (by rw [e2]),hn⟩
  ·rw [e2] at nf; exact absurd rfl nf
def TMk (base:Heap) (P:Addr) (q:Str):Prop:=base.objs[P]? = some (mZ (.str q 0))
def TbM (base:Heap) (H:Hp):Prop:=∀ P q,TMk base P q→∃ ps,H P=some (.tbl ps q)
theorem TbM.un {base h h':Heap} {H H':Hp} {fs ex:List Addr} (x:TbM base H) (u:Un fs ex H H' h h'):TbM base H':=fun P q m=>let ⟨ps,z⟩:=x P q m; let ⟨more,y⟩:=u.tbls P ps q z; ⟨_,y⟩
theorem TbM.hid {h:Heap} {H:Hp}:TbM (dj h H) H:=fun P q m=>by
 obtain ⟨_,e⟩:=j_ m
 unfold jN at e
 split at e
 ·rename_i ps q' hq
  have e:mZ (.str q 0)=mZ (.str q' 0):=e
  cases e; exact ⟨ps,hq⟩
 ·cases e
 ·split at e
  ·rename_i o e3
   have:=(nofree e3).2
   rw [← e] at this; exact absurd rfl this
  ·cases e
theorem TMk.hid {h:Heap} {H:Hp} {P:Addr} {ps:Array Value} {q:Str} (hP:P<h.objs.size) (e:H P=some (.tbl ps q)):TMk (dj h H) P q:=by
 have hb:P<(dj h H).objs.size:=by rw [d8]; exact hP
 unfold TMk
 rw [Array.getElem?_eq_getElem hb]
 have:(dj h H).objs[P]=jN h H P:=by simp [dj]
 rw [this]; unfold jN; rw [e]
structure Mod (K:PySem.W.Frag) (mg:Str→Option Value) (base:Heap):Prop where
 kin:K.In base
 glob:base.Ns mainGlobals mg
 blt:∃ mb,base.Ns builtinsNs mb∧∀ x:Str,x ≠ "__name__" → mb x=bootBuiltins x
 nolimit:base.NoLimit
structure Cx where
 prog:Program
 w:World
 K:PySem.W.Frag
 mg:Str→Option Value
 base:Heap
 A:Around
 N:List Str
 s₀:Shared
 H₀:Hp
 env:Env
 outer:List Env
 stack:List Env
 ex:List Addr
 fn:Str→Bool
 calm:Bool
 pn:List (Addr×Obj)
 xe:Value→Shared→Prop
def frs (l:List Env):List Addr:=l.filterMap (·.frame)
abbrev Cx.fs (X:Cx):List Addr:=frs X.outer
def Vis (sc:Scope) (x:Str):Prop:=sc.names.lookup x=some .local∨sc.names.lookup x=some .cell∨sc.names.lookup x=some .free
def Loc (sc:Scope) (x:Str):Prop:=sc.names.lookup x=some .local∨sc.names.lookup x=some .cell
def Look (env:Env) (h:Heap) (m:Str→Option Value) (x:Str) (u:Value):Prop :=
 (env.kindOf x=some .local∧m x=some u)∨((env.kindOf x=some .cell∨env.kindOf x=some .free)∧∃ c,env.cells.lookup x=some c∧h.IsCell c (some u))
structure Cx.Ok (X:Cx):Prop where
 mod:Mod X.K X.mg X.base
 kind:X.env.scope.kind = .function
 glob:X.env.globals=mainGlobals
 blt:X.env.builtins=builtinsNs
 above:X.s₀.heap.objs.size≤X.env.locals
 inj:∀ x y c,X.env.cells.lookup x=some c→X.env.cells.lookup y=some c→x=y
 has:∀ x,(X.env.kindOf x=some .cell∨X.env.kindOf x=some .free)→∃ c,X.env.cells.lookup x=some c
 cab:∀ x c,X.fn x=true→X.env.cells.lookup x=some c→X.s₀.heap.objs.size≤c
 hd:X.calm=true→X.A.handled=none
 frames:X.A.frames=some X.stack
 stk:X.stack=X.outer∨(X.stack=X.env :: X.outer∧X.env.frame=some X.env.locals)
 exf:∀ b∈X.ex,b≠X.env.locals∧∀ x c,X.env.cells.lookup x=some c→c≠b
 bs:∀ b o,X.base.get? b=some o→X.s₀.heap.get? b=some o∧X.H₀ b=none
 bsz:X.base.objs.size≤X.s₀.heap.objs.size
 noex:∀ b o,X.base.get? b=some o→b ∉ X.ex
 exfs:∀ b∈X.ex,b ∉ X.fs
 funs:X.s₀.heap.FunFrames X.base X.outer
 frf:∀ b∈X.fs,X.H₀ b=none
 tb:TbM X.base X.H₀
structure Inv (X:Cx) (pins:List (Addr×Obj)) (σ:List (Option V)) (H:Hp) (s:Shared):Prop where
 ok:X.Ok
 os:s.os=X.s₀.os
 bare:AllBare s.gens
 base:Un X.fs X.ex X.H₀ H X.s₀.heap s.heap
 loc:∃ m,s.heap.Ns X.env.locals m∧∀ (i:Nat) (x:Str) (v:V),X.N[i]? = some x→σ[i]? = some (some v)→Vis X.env.scope x→∃ u,a7 v u∧Look X.env s.heap m x u
 cell:∀ x c,X.env.cells.lookup x=some c→∃ v,s.heap.IsCell c v
 free:H X.env.locals=none
 freeC:∀ x c,X.env.cells.lookup x=some c→H c=none
 pin:∀ p∈X.pn++pins,s.heap.get? p.1=some p.2∧H p.1=none∧p.1≠X.env.locals∧p.1 ∉ X.fs∧∀ v,p.2.data≠.cell v
 hok:HOk X.prog X.w H s.heap
 len : σ.length=X.N.length
section
variable {X:Cx} {pins:List (Addr×Obj)} {σ:List (Option V)} {H H':Hp} {s:Shared} {h':Heap}
theorem Cx.Ok.nofr (ok:X.Ok) {b:Addr} {o:Obj} (e:X.base.get? b=some o):b ∉ X.fs:=fun hb=>by
 have:=(ok.funs.mem hb).1
 rw [e] at this; cases this
theorem Inv.bs (I:Inv X pins σ H s):∀ b o,X.base.get? b=some o→s.heap.get? b=some o∧H b=none:=fun b o e =>
 ⟨I.base.keep b o (I.ok.bs b o e).1 (I.ok.bs b o e).2 (I.ok.nofr e) (I.ok.noex b o e),I.base.free b o (I.ok.bs b o e).1 (I.ok.bs b o e).2 (I.ok.noex b o e)⟩
theorem Inv.bk (I:Inv X pins σ H s):∀ b o,X.base.get? b=some o→s.heap.get? b=some o:=fun b o e=>(I.bs b o e).1
theorem Inv.mod (I:Inv X pins σ H s):Mod X.K X.mg X.base:=I.ok.mod
theorem Inv.kIn (I:Inv X pins σ H s):X.K.In s.heap:=I.ok.mod.kin.keeps I.bk
theorem Inv.fr (I:Inv X pins σ H s):∃ m,Fr X.base X.env.locals s.heap m :=
 let ⟨m,hn,_⟩:=I.loc
 ⟨m,hn,I.bk,Nat.le_trans I.ok.bsz I.ok.above⟩
theorem Inv.lt (I:Inv X pins σ H s):X.env.locals<s.heap.objs.size:=let ⟨_,hn,_⟩:=I.loc; hn.lt
theorem Inv.sz (I:Inv X pins σ H s):X.s₀.heap.objs.size≤s.heap.objs.size:=Nat.le_trans I.ok.above (Nat.le_of_lt I.lt)
theorem Inv.nofs (I:Inv X pins σ H s) {a:Addr} (h:s.heap.objs.size≤a):a ∉ X.fs:=fun hb=>by
 obtain ⟨_,o,ho,_⟩:=I.ok.funs.mem hb
 exact absurd (Nat.lt_of_lt_of_le (Heap.lt_size ho) (Nat.le_trans I.sz h)) (Nat.lt_irrefl _)
theorem Inv.cne (I:Inv X pins σ H s):∀ x c,X.env.cells.lookup x=some c→c≠X.env.locals:=fun x c e z=>by
 obtain ⟨v,o,ho,hd⟩:=I.cell x c e
 obtain ⟨m,⟨o',es,ep,ho',hd',_⟩,_⟩:=I.loc
 rw [z,ho'] at ho; cases ho; rw [hd'] at hd; cases hd
theorem Inv.funs (I:Inv X pins σ H s):s.heap.FunFrames X.base X.outer:=by
 have all:∀ (l:List Env),(∀ b∈frs l,b∈X.fs)→X.s₀.heap.FunFrames X.base l→s.heap.FunFrames X.base l:=by
  intro l
  induction l with
  | nil=>intro _ _; trivial
  | cons env r ih =>
   intro hs hl
   obtain ⟨hk,⟨L,o,hf,hn,ho,hd⟩,hr⟩:=hl
   have hL:L∈X.fs:=hs L (by unfold frs; rw [List.filterMap_cons,hf]; exact List.mem_cons_self)
   obtain ⟨sl,e⟩:=I.base.slot L o ho (I.ok.frf L hL) hL fun z=>I.ok.exfs L z hL
   exact ⟨hk,⟨L,_,hf,hn,e,hd⟩,ih (fun b hb=>hs b (by unfold frs; rw [List.filterMap_cons,hf]; exact List.mem_cons_of_mem _ hb)) hr⟩
 exact all X.outer (fun _ hb=>hb) I.ok.funs
theorem Inv.stack (I:Inv X pins σ H s):s.heap.FunFrames X.base X.stack:=by
 rcases I.ok.stk with e | ⟨e,hf⟩
 ·rw [e]; exact I.funs
 ·rw [e]
  obtain ⟨m,hn,_⟩:=I.loc
  refine .cons (by rw [I.ok.kind]; decide) hf hn ?_ I.funs
  exact Heap.get?_none_of_le (Nat.le_trans I.ok.bsz I.ok.above)
theorem Inv.stkSub (I:Inv X pins σ H s):∀ b∈frs X.stack,b∈X.env.locals :: X.fs:=fun b hb=>by
 rcases I.ok.stk with e | ⟨e,hf⟩
 ·rw [e] at hb; exact List.mem_cons_of_mem _ hb
 ·rw [e] at hb
  unfold frs at hb
  rw [List.filterMap_cons,hf] at hb
  exact hb
theorem Inv.stkFree (I:Inv X pins σ H s):∀ b∈frs X.stack,H b=none:=fun b hb=>by
 rcases List.mem_cons.mp (I.stkSub b hb) with e | hb
 ·rw [e]; exact I.free
 ·obtain ⟨_,o,ho,_⟩:=I.ok.funs.mem hb
  exact I.base.free b o ho (I.ok.frf b hb) fun z=>I.ok.exfs b z hb
theorem Inv.step {g':Array GenState} {t':Nat} {d':Drawn} {ch:List Addr} (I:Inv X pins σ H s)
 (hch:∀ b∈ch,(b∈X.ex∨X.s₀.heap.objs.size≤b)∧b≠X.env.locals∧(∀ x c,X.env.cells.lookup x=some c→c≠b)∧∀ p∈X.pn++pins,p.1≠b)
 (keep:∀ b o,b≠X.env.locals→b ∉ X.fs→b ∉ ch→s.heap.get? b=some o→H b=none→h'.get? b=some o)
 (slot:∀ b o,b≠X.env.locals→b∈X.fs→b ∉ ch→s.heap.get? b=some o→H b=none→∃ sl,h'.get? b=some { o with slots:=sl }) (free:∀ b o,b ∉ ch→s.heap.get? b=some o→H b=none→H' b=none)
 (there:∀ b o,b ∉ ch→s.heap.get? b=some o→∃ o',h'.get? b=some o')
 (tups:∀ b xs,H b=some (.tup xs)→H' b=some (.tup xs)) (frzs:∀ b o u,H b=some (.frz o u)→H' b=some (.frz o u)) (tbls:∀ b ps q,H b=some (.tbl ps q)→∃ more,H' b=some (.tbl (ps++more) q))
 (ns:∀ m,s.heap.Ns X.env.locals m→h'.Ns X.env.locals m) (hok:HOk X.prog X.w H' h') (hg:AllBare g') :
 Inv X pins σ H' { s with heap:=h',gens:=g',drawn:=d',toks:=t' }:=by
 have neL:∀ b o,X.s₀.heap.get? b=some o→b≠X.env.locals:=fun b o e=>Nat.ne_of_lt (Nat.lt_of_lt_of_le (Heap.lt_size e) I.ok.above)
 have neC:∀ b o,X.s₀.heap.get? b=some o→b ∉ X.ex→b ∉ ch:=fun b o e hx hb=>by
  rcases (hch b hb).1 with z | z
  ·exact hx z
  ·exact absurd (Nat.lt_of_lt_of_le (Heap.lt_size e) z) (Nat.lt_irrefl _)
 have cellK:∀ x c,X.env.cells.lookup x=some c→∀ v,s.heap.IsCell c v→h'.IsCell c v:=fun x c e v ⟨o,ho,hd⟩=>by
  have nch:c ∉ ch:=fun z=>(hch c z).2.2.1 x c e rfl
  by_cases hc:c∈X.fs
  ·obtain ⟨sl,q⟩:=slot c o (I.cne x c e) hc nch ho (I.freeC x c e)
   exact ⟨_,q,hd⟩
  ·exact ⟨o,keep c o (I.cne x c e) hc nch ho (I.freeC x c e),hd⟩
 refine ⟨I.ok,I.os,hg,⟨fun b o e n hb hx=>?_,fun b o e n hb hx=>?_,fun b o e n hx=>?_,fun b o e hx=>?_,fun b xs e=>tups b xs (I.base.tups b xs e),fun b o xs e=>frzs b o xs (I.base.frzs b o xs e),fun b ps q e=>?_⟩,?_,fun x c e=>?_,?_,fun x c e=>?_,fun p hp=>?_,hok,I.len⟩
 ·exact keep b o (neL b o e) hb (neC b o e hx) (I.base.keep b o e n hb hx) (I.base.free b o e n hx)
 ·obtain ⟨sl,e1⟩:=I.base.slot b o e n hb hx
  obtain ⟨sl',e2⟩:=slot b _ (neL b o e) hb (neC b o e hx) e1 (I.base.free b o e n hx)
  exact ⟨sl',e2⟩
 ·obtain ⟨o',e1⟩:=I.base.there b o e hx
  exact free b o' (neC b o e hx) e1 (I.base.free b o e n hx)
 ·obtain ⟨o',e1⟩:=I.base.there b o e hx
  exact there b o' (neC b o e hx) e1
 ·obtain ⟨m1,e1⟩:=I.base.tbls b ps q e
  obtain ⟨m2,e2⟩:=tbls b _ q e1
  exact ⟨m1++m2,by rw [e2,Array.append_assoc]⟩
 ·obtain ⟨m,hn,hl⟩:=I.loc
  refine ⟨m,ns m hn,fun i x v e1 e2 e3=>?_⟩
  obtain ⟨u,r,l⟩:=hl i x v e1 e2 e3
  refine ⟨u,r,?_⟩
  rcases l with l | ⟨k,c,e,z⟩
  ·exact .inl l
  ·exact .inr ⟨k,c,e,cellK x c e _ z⟩
 ·obtain ⟨v,z⟩:=I.cell x c e
  exact ⟨v,cellK x c e v z⟩
 ·obtain ⟨m,⟨o,_,_,ho,_⟩,_⟩:=I.loc
  exact free _ o (fun z=>(hch _ z).2.1 rfl) ho I.free
 ·obtain ⟨v,o,ho,hd⟩:=I.cell x c e
  exact free c o (fun z=>(hch c z).2.2.1 x c e rfl) ho (I.freeC x c e)
 ·obtain ⟨e,n,ne,nf,d⟩:=I.pin p hp
  have nch:p.1 ∉ ch:=fun z=>(hch p.1 z).2.2.2 p hp rfl
  exact ⟨keep p.1 p.2 ne nf nch e n,free p.1 p.2 nch e n,ne,nf,d⟩
theorem Inv.un {t':Nat} (I:Inv X pins σ H s) (u:Un X.fs [] H H' s.heap h') (hok:HOk X.prog X.w H' h'):Inv X pins σ H' { s with heap:=h',toks:=t' }:=by
 obtain ⟨m,⟨o,es,ep,ho,r⟩,_⟩:=id I.loc
 obtain ⟨sl,hL⟩:=u.any ho I.free (by simp)
 exact I.step (g':=s.gens) (d':=s.drawn) (ch:=[]) (fun _ z=>nomatch z) (fun b o _ hb _ e n=>u.keep b o e n hb (by simp)) (fun b o _ hb _ e n=>u.slot b o e n hb (by simp)) (fun b o _ e n=>u.free b o e n (by simp)) (fun b o _ e=>u.there b o e (by simp)) u.tups u.frzs u.tbls (fun m' hm=>by
  obtain ⟨o',es',ep',ho',r'⟩:=hm
  rw [ho] at ho'; cases ho'
  exact ⟨_,es',ep',hL,r'⟩) hok I.bare
theorem Inv.call {g':Array GenState} {t':Nat} {d':Drawn} {ch:List Addr} (I:Inv X pins σ H s) (u:Un (frs X.stack) ch H H' s.heap h') (hok:HOk X.prog X.w H' h') (hg:AllBare g')
 (hch:∀ b∈ch,(b∈X.ex∨X.s₀.heap.objs.size≤b)∧b≠X.env.locals∧(∀ x c,X.env.cells.lookup x=some c→c≠b)∧∀ p∈X.pn++pins,p.1≠b) :
 Inv X pins σ H' { s with heap:=h',gens:=g',drawn:=d',toks:=t' }:=by
 obtain ⟨m,⟨o,es,ep,ho,r⟩,_⟩:=id I.loc
 obtain ⟨sl,hL⟩:=u.any ho I.free fun z=>(hch _ z).2.1 rfl
 exact I.step (ch:=ch) hch (fun b o hL hb hc e n=>u.keep b o e n (fun z=>(List.mem_cons.mp (I.stkSub b z)).elim hL hb) hc) (fun b o _ _ hc e n=>u.any e n hc) (fun b o hc e n=>u.free b o e n hc) (fun b o hc e=>u.there b o e hc) u.tups u.frzs u.tbls (fun m' hm=>by
  obtain ⟨o',es',ep',ho',r'⟩:=hm
  rw [ho] at ho'; cases ho'
  exact ⟨_,es',ep',hL,r'⟩) hok hg
theorem Inv.turned {t':Nat} {it:Addr} (I:Inv X pins σ H s) (k:∀ b o,b≠it→s.heap.get? b=some o→h'.get? b=some o) (hn:H it=none) (hL:it≠X.env.locals)
 (h1:it∈X.ex∨X.s₀.heap.objs.size≤it) (h2:∀ x c,X.env.cells.lookup x=some c→c≠it) (h3:∀ p∈X.pn++pins,p.1≠it):Inv X pins σ H { s with heap:=h',toks:=t' }:=by
 have nit:∀ b u,H b=some u→b≠it:=fun b u e z=>by rw [z,hn] at e; cases e
 refine I.step (g':=s.gens) (d':=s.drawn) (ch:=[it]) (fun b hb=>?_) (fun b o _ _ hc e _=>k b o (fun z=>hc (by simp [z])) e) (fun b o _ _ hc e _=>⟨o.slots,k b o (fun z=>hc (by simp [z])) e⟩) (fun _ _ _ _ n=>n)
  (fun b o hc e=>⟨o,k b o (fun z=>hc (by simp [z])) e⟩) (fun _ _ e=>e) (fun _ _ _ e=>e) (fun b ps _ e=>⟨#[],by rw [e]; simp⟩) (fun m hm=>?_) (fun b u e=>?_) I.bare
 ·have e:b=it:=by simpa using hb
  subst e
  exact ⟨h1,hL,h2,h3⟩
 ·obtain ⟨o,es,ep,ho,r⟩:=hm
  exact ⟨o,es,ep,k _ o (Ne.symm hL) ho,r⟩
 ·refine (I.hok b u e).stay (fun c v hc q=>k c v ?_ q) (fun _ q=>q) (fun _ _ q=>q) fun _ _ _ q=>q
  rcases hc with z | z
  ·rw [z]; exact nit b u e
  ·exact nit c _ z
theorem Inv.tok (I:Inv X pins σ H s) (t:Nat):Inv X pins σ H { s with toks:=t }:=I.un (h':=s.heap) (t':=t) Un.refl I.hok
theorem Inv.kept {t':Nat} (I:Inv X pins σ H s) (k:∀ b u,s.heap.get? b=some u→h'.get? b=some u):Inv X pins σ H { s with heap:=h',toks:=t' }:=I.un (Un.kept k) (I.hok.kept k)
theorem Inv.laid {a:Addr} {o:HO} {t':Nat} (I:Inv X pins σ H s) (k:∀ b u,s.heap.get? b=some u→h'.get? b=some u) (hp:s.heap.objs.size≤a) (new:bJ X.prog X.w (upd H a o) h' a o) :
 Inv X pins σ (upd H a o) { s with heap:=h',toks:=t' }:=I.un (Un.laid k hp (I.hok.fresh hp)) (I.hok.laid k hp new)
theorem Inv.write {x e:Addr} {o:HO} {t':Nat} (I:Inv X pins σ H s) (mu:Mut (H x)) (he:e=x∨H e=some (.own x)) (k:∀ b u,b≠e→s.heap.get? b=some u→h'.get? b=some u) (heo:∃ u,h'.get? e=some u)
 (new:bJ X.prog X.w (upd H x o) h' x o):Inv X pins σ (upd H x o) { s with heap:=h',toks:=t' }:=I.un (Un.write mu he k heo) (I.hok.write mu he k heo new)
theorem Inv.weak {σ':List (Option V)} (I:Inv X pins σ H s) (hl : σ'.length=σ.length) (w:∀ (i:Nat) v,σ'[i]? = some (some v)→σ[i]? = some (some v)):Inv X pins σ' H s :=
 ⟨I.ok,I.os,I.bare,I.base,let ⟨m,hn,hl'⟩:=I.loc; ⟨m,hn,fun i x v e1 e2 e3=>hl' i x v e1 (w i v e2) e3⟩,I.cell,I.free,I.freeC,I.pin,I.hok,hl.trans I.len⟩
theorem Inv.pins_of {pins':List (Addr×Obj)} (I:Inv X pins σ H s) (h:∀ p∈pins',s.heap.get? p.1=some p.2∧H p.1=none∧p.1≠X.env.locals∧p.1 ∉ X.fs∧∀ v,p.2.data≠.cell v):Inv X pins' σ H s :=
 ⟨I.ok,I.os,I.bare,I.base,I.loc,I.cell,I.free,I.freeC,fun p hp=>(List.mem_append.mp hp).elim (fun z=>I.pin p (List.mem_append_left _ z)) (h p),I.hok,I.len⟩
theorem jW {N:List Str} (hN:N.Nodup) {i j:Nat} {x:Str} (a:N[i]? = some x) (b:N[j]? = some x):i=j:=by
 obtain ⟨h1,e1⟩:=List.getElem?_eq_some_iff.mp a
 obtain ⟨h2,e2⟩:=List.getElem?_eq_some_iff.mp b
 exact (List.getElem_inj hN).mp (e1.trans e2.symm)
theorem ib {M:Model} {A:Around} {E:Value→Shared→Prop} {i:Nat} {x:Str} {v:V} {u:Value} {Q:Unit→Shared→Prop} (I:Inv X pins σ H s) (hN:X.N.Nodup) (hi:X.N[i]? = some x) (hx:Loc X.env.scope x) (r:a7 v u)
 (h:∀ s',Inv X pins (σ.set i (some v)) H s'→(∃ a,Heap.SameBut a s.heap s'.heap∧(a=X.env.locals∨X.env.cells.lookup x=some a))→Q () s') (hf:X.fn x=true∨X.env.scope.names.lookup x=some .local:=by first | exact .inl rfl | exact .inr rfl | assumption):wpAny M A (storeName X.env x u) Q E s:=by
 obtain ⟨m,hn,hl⟩:=id I.loc
 have hcls:(X.env.scope.kind == .class||(X.env.scope.kind == .module&&X.env.locals != X.env.globals))=false:=by rw [I.ok.kind]; rfl
 have hiσ:i<σ.length:=by rw [I.len]; exact (List.getElem?_eq_some_iff.mp hi).1
 have cne:=I.cne
 have tracked:∀ {a:Addr} {h':Heap},(∃ o,s.heap.get? a=some o∧H a=none)→Heap.SameBut a s.heap h'→HOk X.prog X.w H h':=fun {a h'} ha hs b ob e=>by
  obtain ⟨_,_,hfree⟩:=ha
  refine (I.hok b ob e).stay (fun c w' hc q=>(hs.2 c ?_).trans q) (fun _ q=>q) (fun _ _ q=>q) fun _ _ _ q=>q
  rintro rfl
  rcases hc with rfl | hc
  ·rw [hfree] at e; cases e
  ·rw [hfree] at hc; cases hc
 rcases hx with hk | hk
 ·refine wpAny_storeName_local hk hn (fun h' hn' hs=>?_) hcls
  obtain ⟨oL,_,_,hoL,_⟩:=id hn
  refine h _ ⟨I.ok,I.os,I.bare,⟨fun b o e n hb hx=>?_,fun b o e n hb hx=>?_,I.base.free,fun b o e hx=>?_,I.base.tups,I.base.frzs,I.base.tbls⟩,⟨_,hn',fun j y v' e1 e2 e3=>?_⟩,fun y c e=>?_,I.free,I.freeC,fun p hp=>?_,tracked ⟨oL,hoL,I.free⟩ hs,by simpa using I.len⟩ ⟨_,hs,.inl rfl⟩
  ·exact (hs.2 b (Nat.ne_of_lt (Nat.lt_of_lt_of_le (Heap.lt_size e) I.ok.above))).trans (I.base.keep b o e n hb hx)
  ·obtain ⟨sl,e1⟩:=I.base.slot b o e n hb hx
   exact ⟨sl,(hs.2 b (Nat.ne_of_lt (Nat.lt_of_lt_of_le (Heap.lt_size e) I.ok.above))).trans e1⟩
  ·obtain ⟨o',e1⟩:=I.base.there b o e hx
   exact ⟨o',(hs.2 b (Nat.ne_of_lt (Nat.lt_of_lt_of_le (Heap.lt_size e) I.ok.above))).trans e1⟩
  ·by_cases hj:j=i
   ·subst hj
    rw [hi] at e1; cases e1
    rw [List.getElem?_set_self hiσ] at e2
    cases e2
    exact ⟨u,r,.inl ⟨hk,by simp⟩⟩
   ·rw [List.getElem?_set_ne (Ne.symm hj)] at e2
    obtain ⟨u',r',q⟩:=hl j y v' e1 e2 e3
    refine ⟨u',r',?_⟩
    rcases q with ⟨k,e⟩ | ⟨k,c,e,z⟩
    ·refine .inl ⟨k,?_⟩
     have:y≠x:=fun e=>hj (jW hN e1 (e ▸ hi))
     simp [this,e]
    ·exact .inr ⟨k,c,e,z.sameBut hs (cne y c e)⟩
  ·obtain ⟨w',z⟩:=I.cell y c e
   exact ⟨w',z.sameBut hs (cne y c e)⟩
  ·obtain ⟨e,n,ne,nf,d⟩:=I.pin p hp
   exact ⟨(hs.2 p.1 ne).trans e,n,ne,nf,d⟩
 ·have hfn:X.fn x=true:=by
   rcases hf with z | z
   ·exact z
   ·rw [z] at hk; cases hk
  obtain ⟨c,hc⟩:=I.ok.has x (.inl hk)
  obtain ⟨w',z⟩:=I.cell x c hc
  refine wpAny_storeName_cell I.ok.kind hk hc z (fun h' hc' hs=>?_)
  obtain ⟨oc,hoc,hocd⟩:=id z
  refine h { s with heap:=h' } ⟨I.ok,I.os,I.bare,⟨fun b o e n hb hx=>?_,fun b o e n hb hx=>?_,I.base.free,fun b o e hx=>?_,I.base.tups,I.base.frzs,I.base.tbls⟩,⟨m,hn.sameBut hs (Ne.symm (cne x c hc)),fun j y v' e1 e2 e3=>?_⟩,fun y c' e=>?_,I.free,I.freeC,fun p hp=>?_,tracked ⟨oc,hoc,I.freeC x c hc⟩ hs,by simpa using I.len⟩ ⟨c,hs,.inr hc⟩
  ·exact (hs.2 b (Nat.ne_of_lt (Nat.lt_of_lt_of_le (Heap.lt_size e) (I.ok.cab x c hfn hc)))).trans (I.base.keep b o e n hb hx)
  ·obtain ⟨sl,e1⟩:=I.base.slot b o e n hb hx
   exact ⟨sl,(hs.2 b (Nat.ne_of_lt (Nat.lt_of_lt_of_le (Heap.lt_size e) (I.ok.cab x c hfn hc)))).trans e1⟩
  ·obtain ⟨o',e1⟩:=I.base.there b o e hx
   exact ⟨o',(hs.2 b (Nat.ne_of_lt (Nat.lt_of_lt_of_le (Heap.lt_size e) (I.ok.cab x c hfn hc)))).trans e1⟩
  ·by_cases hj:j=i
   ·subst hj
    rw [hi] at e1; cases e1
    rw [List.getElem?_set_self hiσ] at e2
    cases e2
    exact ⟨u,r,.inr ⟨.inl hk,c,hc,hc'⟩⟩
   ·rw [List.getElem?_set_ne (Ne.symm hj)] at e2
    obtain ⟨u',r',q⟩:=hl j y v' e1 e2 e3
    refine ⟨u',r',?_⟩
    rcases q with q | ⟨k,c',e,z'⟩
    ·exact .inl q
    ·refine .inr ⟨k,c',e,z'.sameBut hs ?_⟩
     rintro rfl
     exact hj (jW hN e1 (I.ok.inj _ _ _ e hc ▸ hi))
  ·by_cases hcc:c'=c
   ·subst hcc; exact ⟨_,hc'⟩
   ·obtain ⟨w2,z2⟩:=I.cell y c' e
    exact ⟨w2,z2.sameBut hs hcc⟩
  ·obtain ⟨e,n,ne,nf,d⟩:=I.pin p hp
   refine ⟨(hs.2 p.1 ?_).trans e,n,ne,nf,d⟩
   intro q
   rw [q,hoc] at e
   have q':oc=p.2:=Option.some.inj e
   exact d w' (by rw [← q']; exact hocd)
theorem eU {M:Model} {A:Around} {E:Value→Shared→Prop} {i:Nat} {x:Str} {v:V} {u:Value} {Q:Unit→Shared→Prop} (I:Inv X pins σ H s) (hN:X.N.Nodup) (hi:X.N[i]? = some x) (hx:Loc X.env.scope x) (r:a7 v u)
 (h:∀ s',Inv X pins (σ.set i (some v)) H s'→Q () s') (hf:X.fn x=true∨X.env.scope.names.lookup x=some .local:=by first | exact .inl rfl | exact .inr rfl | assumption):wpAny M A (storeName X.env x u) Q E s :=
 ib I hN hi hx r (fun s' I' _=>h s' I') hf
theorem Inv.call' {s':Shared} {ch:List Addr} (I:Inv X pins σ H s) (ho:s'.os=s.os) (u:Un (frs X.stack) ch H H' s.heap s'.heap) (hok:HOk X.prog X.w H' s'.heap) (hg:AllBare s'.gens)
 (hch:∀ b∈ch,(b∈X.ex∨X.s₀.heap.objs.size≤b)∧b≠X.env.locals∧(∀ x c,X.env.cells.lookup x=some c→c≠b)∧∀ p∈X.pn++pins,p.1≠b):Inv X pins σ H' s':=by
 obtain ⟨h',g',d',t',o'⟩:=s'
 have e:o'=s.os:=ho
 subst e
 exact I.call (g':=g') (t':=t') (d':=d') u hok hg hch
end
abbrev XK:=Value→Option Addr→Hp→Prop
abbrev St:=List (Option V)
abbrev VK:=V→Hp→Prop
abbrev TE:=St→Hp→VK→Prop
abbrev TT:=St→Hp→(Bool→Hp→Prop)→Prop
abbrev TA:=St→Hp→(List V→Hp→Prop)→Prop
structure Ends where
 nx:St→Hp→Prop
 rt:VK
 bk:St→Hp→Prop:=fun _ _=>False
 ct:St→Hp→Prop:=fun _ _=>False
abbrev TS:=Ends→St→Hp→Prop
def EP (X:Cx) (pins:List (Addr×Obj)) (σ:St) (Q:VK) (u:Value) (s':Shared):Prop:=∃ v H',Inv X pins σ H' s'∧a7 v u∧Q v H'
def TP (X:Cx) (pins:List (Addr×Obj)) (σ:St) (Q:Bool→Hp→Prop) (b:Bool) (s':Shared):Prop:=∃ H',Inv X pins σ H' s'∧Q b H'
def AP (X:Cx) (pins:List (Addr×Obj)) (σ:St) (Q:List V→Hp→Prop) (us:List Value) (s':Shared):Prop:=∃ vs H',Inv X pins σ H' s'∧aN vs us∧Q vs H'
def SP (X:Cx) (pins:List (Addr×Obj)) (D:Ends) (f:Flow) (s':Shared):Prop :=
 match f with
 | .next=>∃ σ' H',Inv X pins σ' H' s'∧D.nx σ' H'
 | .brk=>∃ σ' H',Inv X pins σ' H' s'∧D.bk σ' H'
 | .cont=>∃ σ' H',Inv X pins σ' H' s'∧D.ct σ' H'
 | .ret u=>∃ v σ' H',Inv X pins σ' H' s'∧a7 v u∧D.rt v H'
structure PE (X:Cx) (e:Expr) (t:TE):Prop where
 go:∀ (pins:List (Addr×Obj)) (s:Shared) (σ:St) (H:Hp) (Q:VK),Inv X pins σ H s→t σ H Q→wpAny (model X.prog X.w) X.A (eval e X.env) (EP X pins σ Q) X.xe s
instance {X:Cx} {e:Expr} {t:TE}:CoeFun (PE X e t) fun _=>∀ (pins:List (Addr×Obj)) (s:Shared) (σ:St) (H:Hp) (Q:VK),Inv X pins σ H s→t σ H Q→wpAny (model X.prog X.w) X.A (eval e X.env) (EP X pins σ Q) X.xe s:=⟨fun h=>h.go⟩
structure PT (X:Cx) (e:Expr) (t:TT):Prop where
 go:∀ (pins:List (Addr×Obj)) (s:Shared) (σ:St) (H:Hp) (Q:Bool→Hp→Prop),Inv X pins σ H s→t σ H Q→wpAny (model X.prog X.w) X.A (isTrue e X.env (eval e X.env)) (TP X pins σ Q) X.xe s
instance {X:Cx} {e:Expr} {t:TT}:CoeFun (PT X e t) fun _=>∀ (pins:List (Addr×Obj)) (s:Shared) (σ:St) (H:Hp) (Q:Bool→Hp→Prop),Inv X pins σ H s→t σ H Q→wpAny (model X.prog X.w) X.A (isTrue e X.env (eval e X.env)) (TP X pins σ Q) X.xe s:=⟨fun h=>h.go⟩
structure PW (X:Cx) (e:Expr) (t:TT):Prop where
 go:∀ (whole:Sem Value) (pins:List (Addr×Obj)) (s:Shared) (σ:St) (H:Hp) (Q:Bool→Hp→Prop),Inv X pins σ H s→t σ H Q→wpAny (model X.prog X.w) X.A (isTrue e X.env whole) (TP X pins σ Q) X.xe s
instance {X:Cx} {e:Expr} {t:TT}:CoeFun (PW X e t) fun _=>∀ (whole:Sem Value) (pins:List (Addr×Obj)) (s:Shared) (σ:St) (H:Hp) (Q:Bool→Hp→Prop),Inv X pins σ H s→t σ H Q→wpAny (model X.prog X.w) X.A (isTrue e X.env whole) (TP X pins σ Q) X.xe s:=⟨fun h=>h.go⟩
theorem PW.pt {X:Cx} {e:Expr} {t:TT} (h:PW X e t):PT X e t:=⟨h.go _⟩
structure PA (X:Cx) (es:List Expr) (t:TA):Prop where
 go:∀ (pos:Pos) (pins:List (Addr×Obj)) (s:Shared) (σ:St) (H:Hp) (Q:List V→Hp→Prop),Inv X pins σ H s→t σ H Q→wpAny (model X.prog X.w) X.A (spliced (backTo pos (starEach es X.env))) (AP X pins σ Q) X.xe s
instance {X:Cx} {es:List Expr} {t:TA}:CoeFun (PA X es t) fun _=>∀ (pos:Pos) (pins:List (Addr×Obj)) (s:Shared) (σ:St) (H:Hp) (Q:List V→Hp→Prop),Inv X pins σ H s→t σ H Q→wpAny (model X.prog X.w) X.A (spliced (backTo pos (starEach es X.env))) (AP X pins σ Q) X.xe s:=⟨fun h=>h.go⟩
structure PS (X:Cx) (st:Stmt) (t:TS):Prop where
 go:∀ (pins:List (Addr×Obj)) (s:Shared) (σ:St) (H:Hp) (D:Ends),Inv X pins σ H s→t D σ H→wpAny (model X.prog X.w) X.A (exec st X.env) (SP X pins D) X.xe s
instance {X:Cx} {st:Stmt} {t:TS}:CoeFun (PS X st t) fun _=>∀ (pins:List (Addr×Obj)) (s:Shared) (σ:St) (H:Hp) (D:Ends),Inv X pins σ H s→t D σ H→wpAny (model X.prog X.w) X.A (exec st X.env) (SP X pins D) X.xe s:=⟨fun h=>h.go⟩
structure PSs (X:Cx) (st:List Stmt) (t:TS):Prop where
 go:∀ (pins:List (Addr×Obj)) (s:Shared) (σ:St) (H:Hp) (D:Ends),Inv X pins σ H s→t D σ H→wpAny (model X.prog X.w) X.A (execs st X.env) (SP X pins D) X.xe s
instance {X:Cx} {st:List Stmt} {t:TS}:CoeFun (PSs X st t) fun _=>∀ (pins:List (Addr×Obj)) (s:Shared) (σ:St) (H:Hp) (D:Ends),Inv X pins σ H s→t D σ H→wpAny (model X.prog X.w) X.A (execs st X.env) (SP X pins D) X.xe s:=⟨fun h=>h.go⟩
theorem thn {α:Type} {t:Sem α} {Q Q' : α→Shared→Prop} {M:Model} {A:Around} {E:Value→Shared→Prop} {s:Shared} (h:wpAny M A t Q E s) (hQ:∀ a s,Q a s→Q' a s):wpAny M A t Q' E s:=wpAny_mono h hQ fun _ _ x=>x
section
variable {X:Cx}
theorem bin {a b:Expr} {ta tb:TE} (ha:PE X a ta) (hb:PE X b tb) {pins:List (Addr×Obj)} {s:Shared} {σ:St} {H:Hp} {R:V→V→Hp→Prop} (I:Inv X pins σ H s) (h:ta σ H fun x H1=>tb σ H1 fun y H2=>R x y H2)
 {α:Type} {Q : α→Shared→Prop} {f:Value→Value→Sem α}
 (hf:∀ v u s2 x y H2,Inv X pins σ H2 s2→a7 x v→a7 y u→R x y H2→wpAny (model X.prog X.w) X.A (f v u) Q X.xe s2) :
 wpAny (model X.prog X.w) X.A (eval a X.env) (fun v s₁=>wpAny (model X.prog X.w) X.A (eval b X.env) (fun u s₂=>wpAny (model X.prog X.w) X.A (f v u) Q X.xe s₂) X.xe s₁) X.xe s:=by
 refine thn (ha pins s σ H _ I h) fun v s1 ⟨x,H1,I1,r1,q1⟩=>?_
 refine thn (hb pins s1 σ H1 _ I1 q1) fun u s2 ⟨y,H2,I2,r2,q2⟩=>?_
 exact hf v u s2 x y H2 I2 r1 r2 q2
def tVar (i:Nat):TE:=fun σ H Q=>∃ v,σ[i]? = some (some v)∧Q v H
def tC (v:V):TE:=fun _ H Q=>Q v H
theorem dS {i:Nat} {x:Str} {pos:Pos} (hN:X.N[i]? = some x) (hv:Vis X.env.scope x) (hd:(x == ("__debug__":Str))=false:=by decide) (hcd:(x == ("__classdict__":Str))=false:=by decide):PE X (.Name x pos) (tVar i):=by
 (try refine ⟨?_⟩); intro pins s σ H Q I h
 obtain ⟨v,e,h⟩:=h
 obtain ⟨m,hn,hl⟩:=I.loc
 obtain ⟨u,r,l⟩:=hl i x v hN e hv
 have fin:EP X pins σ Q u s:=⟨v,H,I,r,h⟩
 rcases l with ⟨hk,hm⟩ | ⟨hk,c,hc,hcell⟩
 ·exact wpAny_Name (wpAny_loadName_local I.ok.kind hk hn hm fin) hd
 ·rcases hk with hk | hk
  ·exact wpAny_Name (wpAny_loadName_cell I.ok.kind hk hc hcell fin) hd
  ·exact wpAny_Name (wpAny_loadName_free I.ok.kind hk hc hcell fin hcd) hd
theorem wb {i j pos}:PE X (.Constant (.int i) j pos) (tC (.int i)):=⟨fun _ _ _ H _ I h=>wpAny_Constant_int ⟨.int i,H,I.tok _,⟨_,rfl⟩,h⟩⟩
theorem pe_bl {b j pos}:PE X (.Constant (.bool b) j pos) (tC (.bl b)):=⟨fun _ _ _ H _ I h=>Constant_bool ⟨.bl b,H,I,rfl,h⟩⟩
theorem vS {j pos}:PE X (.Constant .none j pos) (tC .non):=⟨fun _ _ _ H _ I h=>Constant_none ⟨.non,H,I,rfl,h⟩⟩
theorem qM {x j pos}:PE X (.Constant (.str x) j pos) (tC (.str x)):=⟨fun _ _ _ H _ I h=>Calls.Constant_str ⟨.str x,H,I.tok _,⟨_,rfl⟩,h⟩⟩
def Gl (X:Cx) (x:Str):Prop:=X.env.kindOf x=some .globalImplicit
theorem lr {E:Value→Shared→Prop} {pins:List (Addr×Obj)} {s:Shared} {σ:St} {H:Hp} {x:Str} {u:Value} {pos:Pos} {Q:Value→Shared→Prop} (I:Inv X pins σ H s) (hg:Gl X x) (hm:X.mg x=some u) (h:Q u s)
 (hd:(x == ("__debug__":Str))=false:=by decide):wpAny (model X.prog X.w) X.A (eval (.Name x pos) X.env) Q E s :=
 Calls.Name_function_global I.ok.kind hg (Calls.loadGlobal_global (by rw [I.ok.glob]; exact I.mod.glob.keeps I.bk) hm h) hd
theorem dD {E:Value→Shared→Prop} {pins:List (Addr×Obj)} {s:Shared} {σ:St} {H:Hp} {x:Str} {u:Value} {pos:Pos} {Q:Value→Shared→Prop} (I:Inv X pins σ H s) (hg:Gl X x) (hm:X.mg x=none) (hv:bootBuiltins x=some u) (h:Q u s)
 (hn:x ≠ "__name__":=by decide) (hd:(x == ("__debug__":Str))=false:=by decide):wpAny (model X.prog X.w) X.A (eval (.Name x pos) X.env) Q E s:=by
 obtain ⟨mb,h1,h2⟩:=I.mod.blt
 exact Calls.Name_function_global I.ok.kind hg (Calls.loadGlobal_builtin (by rw [I.ok.glob]; exact I.mod.glob.keeps I.bk) hm (by rw [I.ok.blt]; exact h1.keeps I.bk) ((h2 x hn).trans hv) h) hd
theorem lx {x:Str} {v:V} {u:Value} {pos:Pos} (hg:Gl X x) (hm:X.mg x=some u) (r:a7 v u) (hd:(x == ("__debug__":Str))=false:=by decide):PE X (.Name x pos) (tC v):=⟨fun _ _ _ H _ I h=>lr I hg hm ⟨v,H,I,r,h⟩ hd⟩
theorem bD {x:Str} {v:V} {u:Value} {pos:Pos} (hg:Gl X x) (hm:X.mg x=none) (hv:bootBuiltins x=some u) (r:a7 v u) (hn:x ≠ "__name__":=by decide) (hd:(x == ("__debug__":Str))=false:=by decide):PE X (.Name x pos) (tC v):=⟨fun _ _ _ H _ I h=>dD I hg hm hv ⟨v,H,I,r,h⟩ hn hd⟩
variable {a b:Expr} {ta tb:TE} {pos:Pos}
def tB (t:TE):TT:=fun σ H Q=>t σ H fun x H1=>∃ c,x = .bl c∧Q c H1
theorem v_ {e:Expr} {t:TE} (h:PE X e t) (he:∀ whole,isTrue e X.env whole=(do let v ← whole; standAt e.pos; holding [v] (truthy v)):=by intro _; rfl):PT X e (tB t):=by
 (try refine ⟨?_⟩); intro pins s σ H Q I hw
 refine isTrue_plain (thn (h pins s σ H _ I hw) fun v s1 ⟨x,H1,I1,r1,q1⟩=>?_) (he _)
 obtain ⟨d,rfl,q⟩:=q1
 cases r1
 exact wpAny_truthy_bool ⟨H1,I1,q⟩
variable {tA tB':TT} {rest:List Expr}
def tOr (t u:TT):TT:=fun σ H Q=>t σ H fun c H1=>if c=true then Q true H1 else u σ H1 Q
def tNot (t:TT):TT:=fun σ H Q=>t σ H fun c H1=>Q (!c) H1
theorem uz (ha:PT X a tA):PW X (.BoolOp .Or [a] pos) tA:=by
 (try refine ⟨?_⟩); intro wh pins s σ H Q I h
 refine isTrue_or (thn (ha pins s σ H Q I h) fun c s1 e=>?_)
 cases c with
 | false=>exact isTrue_or_nil e
 | true=>exact e
theorem pw_or (ha:PT X a tA) (hb:PW X (.BoolOp .Or (b :: rest) pos) tB'):PW X (.BoolOp .Or (a :: b :: rest) pos) (tOr tA tB'):=by
 (try refine ⟨?_⟩); intro wh pins s σ H Q I h
 refine isTrue_or (thn (ha pins s σ H _ I h) fun c s1 ⟨H1,I1,q1⟩=>?_)
 cases c with
 | true=>exact ⟨H1,I1,q1⟩
 | false=>exact hb wh pins s1 σ H1 Q I1 q1
theorem wP (ha:PT X a tA):PT X (.UnaryOp .Not a pos) (tNot tA):=by
 (try refine ⟨?_⟩); intro pins s σ H Q I h
 exact isTrue_not (ha pins s σ H (fun c H1=>Q (!c) H1) I h)
def tAndV (ta tb:TE):TE:=fun σ H Q=>ta σ H fun x H1=>∃ c,x = .bl c∧if c=true then tb σ H1 Q else Q (.bl false) H1
def tNotV (ta:TE):TE:=fun σ H Q=>ta σ H fun x H1=>∃ c,x = .bl c∧Q (.bl (!c)) H1
theorem wM {op} {t:TE} (h:PE X a t):PE X (.BoolOp op [a] pos) t:=⟨fun pins s σ H Q I hw=>BoolOp_one (h pins s σ H Q I hw)⟩
theorem vF (ha:PE X a ta) (hb:PE X (.BoolOp .And (b :: rest) pos) tb):PE X (.BoolOp .And (a :: b :: rest) pos) (tAndV ta tb):=by
 (try refine ⟨?_⟩); intro pins s σ H Q I h
 refine BoolOp_and (thn (ha pins s σ H _ I h) fun v s1 ⟨x,H1,I1,r1,q1⟩=>?_)
 obtain ⟨c,rfl,q1⟩:=q1
 cases r1
 refine wpAny_truthy_bool ?_
 cases c with
 | true=>exact hb pins s1 σ H1 Q I1 q1
 | false=>exact ⟨.bl false,H1,I1,rfl,q1⟩
theorem vM (ha:PE X a ta):PE X (.UnaryOp .Not a pos) (tNotV ta):=by
 (try refine ⟨?_⟩); intro pins s σ H Q I h
 refine UnaryOp_ (thn (ha pins s σ H _ I h) fun v s1 ⟨x,H1,I1,r1,q1⟩=>?_)
 obtain ⟨c,rfl,q1⟩:=q1
 cases r1
 exact not_of (wpAny_truthy_bool ⟨.bl (!c),H1,I1,rfl,q1⟩)
def tIf (t:TT) (ta tb:TE):TE:=fun σ H Q=>t σ H fun c H1=>if c=true then ta σ H1 Q else tb σ H1 Q
theorem rL {c:Expr} (hc:PT X c tA) (ha:PE X a ta) (hb:PE X b tb):PE X (.IfExp c a b pos) (tIf tA ta tb):=by
 (try refine ⟨?_⟩); intro pins s σ H Q I h
 refine wpAny_IfExp (thn (hc pins s σ H _ I h) fun d s1 ⟨H1,I1,q1⟩=>?_)
 cases d with
 | true=>exact ha pins s1 σ H1 Q I1 q1
 | false=>exact hb pins s1 σ H1 Q I1 q1
end
def SqL (K:PySem.W.Frag) (H:Hp) (a:Addr) (xs:List V):Prop :=
 Rd H a (.lst xs) ∨
  ∃ (o:Obj) (its:Array Value) (n:Nat),K.lookup a=some o∧o.cls = .type "list" ∧ o.dict=none∧o.data = .seq its n∧its.size≤sizeLine∧aN xs its.toList
def SqT (K:PySem.W.Frag) (H:Hp) (a:Addr) (xs:List V):Prop :=
 Rd H a (.tup xs) ∨
  ∃ (o:Obj) (its:Array Value) (n:Nat),K.lookup a=some o∧o.cls = .type "tuple" ∧ o.data = .seq its n∧its.size≤sizeLine∧aN xs its.toList
def absV:Value→Option V
 | .none=>some .non
 | .bool b=>some (.bl b)
 | .int i _=>some (.int i)
 | .str x _=>some (.str x)
 | .bytes b _=>some (.byt b)
 | .float b _=>some (.flt b)
 | .ref a=>some (.ref a)
 | .type n=>some (.ty n)
 | _=>none
theorem a7.abs {x:V} {u:Value} (r:a7 x u):absV u=some x:=by
 cases x with
 | non=>cases r; rfl
 | bl _=>cases r; rfl
 | int _=>obtain ⟨t,rfl⟩:=r; rfl
 | str _=>obtain ⟨t,rfl⟩:=r; rfl
 | byt _=>obtain ⟨t,rfl⟩:=r; rfl
 | flt _=>obtain ⟨t,rfl⟩:=r; rfl
 | ref _=>cases r; rfl
 | ty _=>cases r; rfl
theorem a7.inj {x y:V} {u:Value} (r:a7 x u) (q:a7 y u):x=y:=Option.some.inj (r.abs.symm.trans q.abs)
theorem aN.inj:∀ {xs ys:List V} {us:List Value},aN xs us→aN ys us→xs=ys
 | _,_,_,.nil,.nil=>rfl
 | _,_,_,.cons r t,.cons r' t'=>by rw [r.inj r',aN.inj t t']
section
variable {X:Cx} {pins:List (Addr×Obj)} {σ:St} {H:Hp} {s:Shared} {a:Addr} {xs ys:List V}
theorem SqL.of {K:PySem.W.Frag} (h:H a=some (.lst xs)):SqL K H a xs:=.inl (.inl h)
theorem SqT.of {K:PySem.W.Frag} (h:H a=some (.tup xs)):SqT K H a xs:=.inl (.inl h)
theorem Inv.list (I:Inv X pins σ H s) (h:SqL X.K H a xs):∃ its:List Value,aN xs its∧PlainL s.heap a its.toArray∧xs.length≤sizeLine:=by
 rcases h with h | ⟨o,its,n,hk,hc,hd,hs,hz,r⟩
 ·obtain ⟨z,its,n,r,e⟩:=h.ok I.hok
  exact ⟨its,r,⟨_,n,e,rfl,rfl,rfl⟩,z⟩
 ·refine ⟨its.toList,r,⟨o,n,I.kIn a o hk,hc,hd,by simpa using hs⟩,?_⟩
  have e:=r.length
  simp only [Array.length_toList] at e
  omega
theorem Inv.tuple (I:Inv X pins σ H s) (h:SqT X.K H a xs):∃ its:List Value,aN xs its∧IsTup s.heap a its.toArray∧xs.length≤sizeLine:=by
 rcases h with h | ⟨o,its,n,hk,hc,hs,hz,r⟩
 ·obtain ⟨z,its,r,p⟩:=h.ok I.hok
  exact ⟨its,r,p,z⟩
 ·refine ⟨its.toList,r,⟨o,I.kIn a o hk,hc,n,by simpa using hs⟩,?_⟩
  have e:=r.length
  simp only [Array.length_toList] at e
  omega
theorem Inv.list_inj (I:Inv X pins σ H s) (h:SqL X.K H a xs) (h':SqL X.K H a ys):xs=ys:=by
 obtain ⟨its,r,⟨o,n,e,_,_,d⟩,_⟩:=I.list h
 obtain ⟨its',r',⟨o',n',e',_,_,d'⟩,_⟩:=I.list h'
 rw [e] at e'; cases e'
 rw [d] at d'
 injection d' with d1 _
 have:its=its':=by simpa using congrArg Array.toList d1
 subst this
 exact r.inj r'
end
abbrev Cx.wish (X:Cx) (E:Value→Shared→Prop):Cx:={ X with xe:=E }
abbrev Cx.nox (X:Cx):Cx:=X.wish fun _ _=>False
theorem Cx.Ok.wish {X:Cx} (ok:X.Ok) (E:Value→Shared→Prop):(X.wish E).Ok :=
 ⟨ok.mod,ok.kind,ok.glob,ok.blt,ok.above,ok.inj,ok.has,ok.cab,ok.hd,ok.frames,ok.stk,ok.exf,ok.bs,ok.bsz,ok.noex,ok.exfs,ok.funs,ok.frf,ok.tb⟩
theorem Cx.Ok.unwish {X:Cx} {E:Value→Shared→Prop} (ok:(X.wish E).Ok):X.Ok :=
 ⟨ok.mod,ok.kind,ok.glob,ok.blt,ok.above,ok.inj,ok.has,ok.cab,ok.hd,ok.frames,ok.stk,ok.exf,ok.bs,ok.bsz,ok.noex,ok.exfs,ok.funs,ok.frf,ok.tb⟩
section
variable {X:Cx} {pins:List (Addr×Obj)} {σ:St} {H:Hp} {s:Shared} {E:Value→Shared→Prop}
theorem Inv.wish (I:Inv X pins σ H s) (E:Value→Shared→Prop):Inv (X.wish E) pins σ H s:=⟨I.ok.wish E,I.os,I.bare,I.base,I.loc,I.cell,I.free,I.freeC,I.pin,I.hok,I.len⟩
theorem Inv.unwish (I:Inv (X.wish E) pins σ H s):Inv X pins σ H s:=⟨I.ok.unwish,I.os,I.bare,I.base,I.loc,I.cell,I.free,I.freeC,I.pin,I.hok,I.len⟩
theorem SP.unwish {D:Ends} {f:Flow} {s':Shared} (h:SP (X.wish E) pins D f s'):SP X pins D f s':=by
 cases f with
 | next=>obtain ⟨σ',H',I,q⟩:=h; exact ⟨σ',H',I.unwish,q⟩
 | brk=>obtain ⟨σ',H',I,q⟩:=h; exact ⟨σ',H',I.unwish,q⟩
 | cont=>obtain ⟨σ',H',I,q⟩:=h; exact ⟨σ',H',I.unwish,q⟩
 | ret u=>obtain ⟨v,σ',H',I,r,q⟩:=h; exact ⟨v,σ',H',I.unwish,r,q⟩
theorem PSs.nox {st:List Stmt} {t:TS} (h:PSs X.nox st t):PSs X st t:=⟨fun pins s σ H D I hw =>
 wpAny_mono (h pins s σ H D (I.wish _) hw) (fun _ _ q=>q.unwish) fun _ _ z=>False.elim z⟩
end
section
variable {X:Cx} {st:Stmt} {rest:List Stmt} {t u:TS} {e:Expr} {te:TE} {pos:Pos}
def tNext:TS:=fun D σ H=>D.nx σ H
def tSeq (t u:TS):TS:=fun D σ H=>t { D with nx:=u D } σ H
theorem r_:PSs X [] tNext:=⟨fun _ _ σ H _ I h=>wpAny_execs_nil ⟨σ,H,I,h⟩⟩
theorem pS (h1:PS X st t) (h2:PSs X rest u):PSs X (st :: rest) (tSeq t u):=by
 (try refine ⟨?_⟩); intro pins s σ H D I h
 refine wpAny_execs_cons (thn (h1 pins s σ H { D with nx:=u D } I h) fun f s1 q=>?_)
 cases f with
 | next =>
  obtain ⟨σ',H',I',q⟩:=q
  exact h2 pins s1 σ' H' D I' q
 | ret v=>exact q
 | brk=>exact q
 | cont=>exact q
theorem sP (h1:PS X st t):PSs X [st] t:=by
 (try refine ⟨?_⟩); intro pins s σ H D I h
 refine wpAny_execs_cons (thn (h1 pins s σ H D I h) fun f s1 q=>?_)
 cases f with
 | next=>exact wpAny_execs_nil q
 | ret v=>exact q
 | brk=>exact q
 | cont=>exact q
theorem Inv.quiet {pins:List (Addr×Obj)} {σ:St} {H:Hp} {s:Shared} (I:Inv X pins σ H s):interactive X.env=false:=by simp [interactive,I.ok.kind]
def tDrop (te:TE):TS:=fun D σ H=>te σ H fun _ H1=>D.nx σ H1
theorem iz (he:PE X e te) (hs:swapsWith e none pos.line X.env=pure false:=by rfl):PS X (.Expr e pos) (tDrop te):=by
 (try refine ⟨?_⟩); intro pins s σ H D I h
 exact wpAny_Expr_any (thn (he pins s σ H _ I h) fun v s1 ⟨x,H1,I1,r1,q1⟩=>⟨σ,H1,I1,q1⟩) I.quiet hs
def tRet (te:TE):TS:=fun D σ H=>te σ H D.rt
theorem pq (he:PE X e te):PS X (.Return (some e) pos) (tRet te):=by
 (try refine ⟨?_⟩); intro pins s σ H D I h
 exact wpAny_Return_some (thn (he pins s σ H _ I h) fun v s1 ⟨x,H1,I1,r1,q1⟩=>⟨x,σ,H1,I1,r1,q1⟩)
def tIfS (c:TT) (t u:TS):TS:=fun D σ H=>c σ H fun b H1=>if b=true then t D σ H1 else u D σ H1
theorem ps_if {c:Expr} {a b:List Stmt} {tc:TT} (hc:PT X c tc) (ha:PSs X a t) (hb:PSs X b u):PS X (.If c a b pos) (tIfS tc t u):=by
 (try refine ⟨?_⟩); intro pins s σ H D I h
 refine wpAny_If (thn (hc pins s σ H _ I h) fun d s1 ⟨H1,I1,q1⟩=>?_)
 cases d with
 | true=>exact ha pins s1 σ H1 D I1 q1
 | false=>exact hb pins s1 σ H1 D I1 q1
def wD:TS:=fun _ _ _=>False
theorem oV:PS X st wD:=⟨fun _ _ _ _ _ _ h=>h.elim⟩
end
abbrev TG:=V→St→Hp→(St→Hp→Prop)→Prop
abbrev TGs:=List V→St→Hp→(St→Hp→Prop)→Prop
structure PG (X:Cx) (target:Expr) (t:TG):Prop where
 go:∀ (pins:List (Addr×Obj)) (s:Shared) (σ:St) (H:Hp) (v:V) (u:Value) (Q:St→Hp→Prop),Inv X pins σ H s→a7 v u→t v σ H Q →
  wpAny (model X.prog X.w) X.A (assign target X.env u) (fun _ s'=>∃ σ' H',Inv X pins σ' H' s'∧Q σ' H') X.xe s
instance {X:Cx} {target:Expr} {t:TG}:CoeFun (PG X target t) fun _=>∀ (pins:List (Addr×Obj)) (s:Shared) (σ:St) (H:Hp) (v:V) (u:Value) (Q:St→Hp→Prop),Inv X pins σ H s→a7 v u→t v σ H Q →
 wpAny (model X.prog X.w) X.A (assign target X.env u) (fun _ s'=>∃ σ' H',Inv X pins σ' H' s'∧Q σ' H') X.xe s:=⟨fun h=>h.go⟩
structure PGs (X:Cx) (ts:List Expr) (t:TGs):Prop where
 go:∀ (pins:List (Addr×Obj)) (s:Shared) (σ:St) (H:Hp) (vs:List V) (us:List Value) (Q:St→Hp→Prop),Inv X pins σ H s→aN vs us→t vs σ H Q →
  wpAny (model X.prog X.w) X.A (assignInOrder ((assignEach ts X.env).map (·.2)) us) (fun _ s'=>∃ σ' H',Inv X pins σ' H' s'∧Q σ' H') X.xe s
instance {X:Cx} {ts:List Expr} {t:TGs}:CoeFun (PGs X ts t) fun _=>∀ (pins:List (Addr×Obj)) (s:Shared) (σ:St) (H:Hp) (vs:List V) (us:List Value) (Q:St→Hp→Prop),Inv X pins σ H s→aN vs us→t vs σ H Q →
 wpAny (model X.prog X.w) X.A (assignInOrder ((assignEach ts X.env).map (·.2)) us) (fun _ s'=>∃ σ' H',Inv X pins σ' H' s'∧Q σ' H') X.xe s:=⟨fun h=>h.go⟩
abbrev qR:=V→V→V→Hp→(Hp→Prop)→Prop
def PSet (X:Cx) (t:qR):Prop :=
 ∀ (pins:List (Addr×Obj)) (s:Shared) (σ:St) (H:Hp) (o i v:V) (ov iv u:Value) (Q:Hp→Prop),Inv X pins σ H s→a7 o ov→a7 i iv→a7 v u→t o i v H Q →
  wpAny (model X.prog X.w) X.A (setItem ov iv u) (fun _ s'=>∃ H',Inv X pins σ H' s'∧Q H') X.xe s
abbrev TIp:=V→V→Hp→VK→Prop
def PIp (X:Cx) (op:Operator) (t:TIp):Prop :=
 ∀ (pins:List (Addr×Obj)) (s:Shared) (σ:St) (H:Hp) (x y:V) (v u:Value) (Q:VK),Inv X pins σ H s→a7 x v→a7 y u→t x y H Q →
  wpAny (model X.prog X.w) X.A (inplaceOp op v u) (EP X pins σ Q) X.xe s
section
variable {X:Cx} {pos:Pos}
def gw (i:Nat):TG:=fun v σ H Q=>Q (σ.set i (some v)) H
theorem bc {i:Nat} {x:Str} (hN:X.N.Nodup) (hi:X.N[i]? = some x) (hx:Loc X.env.scope x) (hf:X.fn x=true∨X.env.scope.names.lookup x=some .local:=by first | exact .inl rfl | exact .inr rfl | assumption):PG X (.Name x pos) (gw i):=by
 (try refine ⟨?_⟩); intro pins s σ H v u Q I r h
 exact wpAny_assign_Name (eU I hN hi hx r (fun s' I'=>⟨_,H,I',h⟩) hf)
def gNil:TGs:=fun vs σ H Q=>vs=[]∧Q σ H
def gCons (t:TG) (u:TGs):TGs:=fun vs σ H Q=>∃ v r,vs=v :: r∧t v σ H fun σ' H'=>u r σ' H' Q
theorem lg:PGs X [] gNil:=by
 (try refine ⟨?_⟩); intro pins s σ H vs us Q I r h
 obtain ⟨e,h⟩:=h
 subst e
 cases r
 exact assignInOrder_nil ⟨σ,H,I,h⟩
theorem gq {e:Expr} {es:List Expr} {t:TG} {u:TGs} (h1:PG X e t) (h2:PGs X es u)
 (hs:(assignEach (e :: es) X.env).map (·.2)=assign e X.env :: (assignEach es X.env).map (·.2):=by rfl):PGs X (e :: es) (gCons t u):=by
 (try refine ⟨?_⟩); intro pins s σ H vs us Q I r h
 obtain ⟨v,vr,e1,h⟩:=h
 subst e1
 cases r with
 | cons r rr =>
  rw [hs]
  refine assignInOrder_cons (thn (h1 pins s σ H _ _ _ I r h) fun _ s1 ⟨σ1,H1,I1,q1⟩=>?_)
  exact h2 pins s1 σ1 H1 _ _ Q I1 rr q1
def gTup (K:PySem.W.Frag) (n:Nat) (t:TGs):TG:=fun v σ H Q=>∃ a xs,v = .ref a∧SqT K H a xs∧xs.length=n∧t xs σ H Q
theorem q9 {es:List Expr} {k:Nat} {t:TGs} {n:Nat} (hc:X.calm=true) (h:PGs X es t)
 (hn:(assignEach es X.env).length=n:=by rfl) (hst:(assignEach es X.env).findIdx? (·.1)=none:=by rfl):PG X (.Tuple es k pos) (gTup X.K n t):=by
 (try refine ⟨?_⟩); intro pins s σ H v u Q I r hw
 obtain ⟨a,xs,e1,hq,hl,hw⟩:=hw
 subst e1
 cases r
 obtain ⟨its,rv,ht,hz⟩:=I.tuple hq
 refine assign_Tuple_tuple (I.ok.hd hc) ht (by simp [hn,← hl,rv.length]) hst fun h' hx=>?_
 have I1:Inv X pins σ H { s with heap:=h' }:=I.kept (t':=s.toks) fun b o e=>hx b o (Nat.ne_of_lt (Heap.lt_size e)) e
 exact h pins _ σ H xs _ Q I1 (by simpa using rv) hw
def gSub (to ti:TE) (t:qR):TG:=fun v σ H Q=>to σ H fun o H1=>ti σ H1 fun i H2=>t o i v H2 fun H3=>Q σ H3
theorem wR {o i:Expr} {to ti:TE} {t:qR} (ho:PE X o to) (hi:PE X i ti) (hs:PSet X t)
 (ha:∀ v,assign (.Subscript o i pos) X.env v=(do
  let ov ← holding [v] (eval o X.env)
  let iv ← holding [v,ov] (eval i X.env)
  standAt pos
  holding [v,ov,iv] (setItem ov iv v)
  release [v,ov,iv] []):=by intro _; rfl):PG X (.Subscript o i pos) (gSub to ti t):=by
 (try refine ⟨?_⟩); intro pins s σ H v u Q I r h
 rw [ha]
 refine wpAny_bind (wpAny_holding (thn (ho pins s σ H _ I h) fun ov s1 ⟨x,H1,I1,r1,q1⟩=>?_))
 refine wpAny_bind (wpAny_holding (thn (hi pins s1 σ H1 _ I1 q1) fun iv s2 ⟨y,H2,I2,r2,q2⟩=>?_))
 refine wpAny_bind (wpAny_standAt (wpAny_bind (wpAny_holding (thn (hs pins s2 σ H2 x y v ov iv u _ I2 r1 r2 r q2) fun _ s3 ⟨H3,I3,q3⟩=>?_))))
 exact wpAny_release ⟨σ,H3,I3,q3⟩
def pB (te:TE) (g:TG):TS:=fun D σ H=>te σ H fun x H1=>g x σ H1 D.nx
theorem kK {tg e:Expr} {te:TE} {g:TG} (he:PE X e te) (hg:PG X tg g) (hs:swapsWithSole [tg] e pos.line X.env=pure false:=by rfl) (hw:swappedStores [tg] e X.env=pure none:=by rfl)
 (h1:(assignEach [tg] X.env).map (·.2)=[assign tg X.env]:=by rfl):PS X (.Assign [tg] e pos) (pB te g):=by
 (try refine ⟨?_⟩); intro pins s σ H D I h
 refine wpAny_Assign_stores (thn (he pins s σ H _ I h) fun v s1 ⟨x,H1,I1,r1,q1⟩=>?_) hs hw
 rw [h1]
 exact thn (hg pins s1 σ H1 x v _ I1 r1 q1) fun _ s2 q=>q
theorem pW {i:Nat} {x:Str} {e:Expr} {te:TE} {pos':Pos} (hN:X.N.Nodup) (hi:X.N[i]? = some x) (hx:Loc X.env.scope x) (he:PE X e te) (hs:swapsWith e (some (.Name x pos')) pos.line X.env=pure false:=by rfl) (hf:X.fn x=true∨X.env.scope.names.lookup x=some .local:=by first | exact .inl rfl | exact .inr rfl | assumption) :
 PS X (.Assign [.Name x pos'] e pos) (pB te (gw i)):=by
 (try refine ⟨?_⟩); intro pins s σ H D I h
 refine wpAny_Assign_Name (thn (he pins s σ H _ I h) fun v s1 ⟨y,H1,I1,r1,q1⟩=>?_) hs
 exact eU I1 hN hi hx r1 (fun s2 I2=>⟨_,H1,I2,q1⟩) hf
def tPar (i j:Nat) (ta:TA):TS:=fun D σ H=>ta σ H fun vs H1=>∃ v w,vs=[v,w]∧D.nx ((σ.set i (some v)).set j (some w)) H1
theorem ww {i j:Nat} {x y:Str} {a b:Expr} {ta:TA} {px py pt:Pos} {kt k2 pt2} (hc:X.calm=true) (hN:X.N.Nodup) (hi:X.N[i]? = some x) (hj:X.N[j]? = some y) (hij:i≠j)
 (hx:X.env.scope.names.lookup x=some .local) (hy:X.env.scope.names.lookup y=some .local) (ha:PA X [a,b] ta)
 (hw:swappedStores [.Tuple [.Name x px,.Name y py] kt pt] (.Tuple [a,b] k2 pt2) X.env=pure (some [x,y]))
 (hs:swapsWithSole [.Tuple [.Name x px,.Name y py] kt pt] (.Tuple [a,b] k2 pt2) pos.line X.env=pure false:=by rfl) :
 PS X (.Assign [.Tuple [.Name x px,.Name y py] kt pt] (.Tuple [a,b] k2 pt2) pos) (tPar i j ta):=by
 (try refine ⟨?_⟩); intro pins s σ H D I h
 rw [exec_Assign_arm]
 refine wpAny_bind (wpAny_standAt ?_)
 rw [hs]
 refine wpAny_bind (wpAny_pure ?_)
 rw [if_neg (by decide)]
 refine wpAny_bind (Tuple_ (thn (ha _ pins s σ H _ I h) fun us s1 ⟨vs,H1,I1,r1,q1⟩=>?_))
 obtain ⟨v,w,e1,q1⟩:=q1
 subst e1
 obtain ⟨u1,u2,rfl,rv,rw'⟩:∃ u1 u2,us=[u1,u2]∧a7 v u1∧a7 w u2:=by
  cases r1 with
  | cons p q =>
   cases q with
   | cons p' q' =>
    cases q'
    exact ⟨_,_,rfl,p,p'⟩
 refine wpAny_newObj_type ?_ (by show 2≤sizeLine; decide)
 have I2:Inv X pins σ H1 { s1 with heap:=s1.heap.push { cls:=.type "tuple",data:=.seq [u1,u2].toArray } }:=I1.kept (t':=s1.toks) fun b o e=>Heap.get?_push_of_some _ e
 rw [hw]
 refine wpAny_bind (wpAny_pure ?_)
 show wpAny (model X.prog X.w) X.A (do rule "assign.swapped-stores"; let items ← unpackItems (.ref s1.heap.objs.size) 2 none; assignInOrder [fun v=>bindName X.env y v,fun v=>bindName X.env x v] items.reverse; pure Flow.next) _ _ _
 refine wpAny_bind (wpAny_rule (wpAny_bind (unpackItems_tuple (items:=#[u1,u2]) (I.ok.hd hc) (IsTup.new s1.heap _) fun h' hx'=>?_)))
 have I3:=I2.kept (h':=h') (t':=s1.toks) fun b o e=>hx' b o (Nat.ne_of_lt (Heap.lt_size e)) e
 show wpAny _ _ (assignInOrder [fun v=>bindName X.env y v,fun v=>bindName X.env x v] [u2,u1] >>= fun _=>pure Flow.next) _ _ _
 refine wpAny_bind (assignInOrder_cons (wpAny_bindName (eU I3 hN hj (.inl hy) rw' (fun s2 I4=>?_) (.inr hy))))
 refine assignInOrder_cons (wpAny_bindName (eU I4 hN hi (.inl hx) rv (fun s3 I5=>assignInOrder_nil (wpAny_pure ?_)) (.inr hx)))
 rw [List.set_comm _ _ (Ne.symm hij)] at I5
 exact ⟨_,H1,I5,q1⟩
def tAugS (to ti te:TE) (tget:V→V→Hp→VK→Prop) (tip:TIp) (tset:qR):TS:=fun D σ H=>to σ H fun o H1=>ti σ H1 fun i H2=>tget o i H2 fun x H3=>te σ H3 fun y H4=>tip x y H4 fun z H5=>tset o i z H5 fun H6=>D.nx σ H6
def PGet (X:Cx) (t:V→V→Hp→VK→Prop):Prop :=
 ∀ (pins:List (Addr×Obj)) (s:Shared) (σ:St) (H:Hp) (o i:V) (ov iv:Value) (Q:VK),Inv X pins σ H s→a7 o ov→a7 i iv→t o i H Q →
  wpAny (model X.prog X.w) X.A (getItem ov iv) (EP X pins σ Q) X.xe s
theorem tH {o i e:Expr} {to ti te:TE} {tget:V→V→Hp→VK→Prop} {tip:TIp} {tset:qR} {op:Operator} {tpos:Pos} (ho:PE X o to) (hi:PE X i ti) (hg:PGet X tget) (he:PE X e te) (hp:PIp X op tip) (hs:PSet X tset)
 (ha:∀ ov iv new,augStore i ov iv new=(do holding [new,ov,iv] (setItem ov iv new); release [new,ov,iv] []; pure .next):=by intros; rfl):PS X (.AugAssign (.Subscript o i tpos) op e pos) (tAugS to ti te tget tip tset):=by
 (try refine ⟨?_⟩); intro pins s σ H D I h
 refine wpAny_AugAssign_SubscriptAny (thn (ho pins s σ H _ I h) fun ov s1 ⟨x1,H1,I1,r1,q1⟩=>?_) ha
 refine thn (hi pins s1 σ H1 _ I1 q1) fun iv s2 ⟨x2,H2,I2,r2,q2⟩=>?_
 refine thn (hg pins s2 σ H2 x1 x2 ov iv _ I2 r1 r2 q2) fun old s3 ⟨x3,H3,I3,r3,q3⟩=>?_
 refine thn (he pins s3 σ H3 _ I3 q3) fun v s4 ⟨x4,H4,I4,r4,q4⟩=>?_
 refine thn (hp pins s4 σ H4 x3 x4 old v _ I4 r3 r4 q4) fun new s5 ⟨x5,H5,I5,r5,q5⟩=>?_
 exact thn (hs pins s5 σ H5 x1 x2 x5 ov iv new _ I5 r1 r2 r5 q5) fun _ s6 ⟨H6,I6,q6⟩=>⟨σ,H6,I6,q6⟩
def ipI (f:Int→Int→Int):TIp:=fun x y H Q=>∃ i j,x = .int i∧y = .int j∧Q (.int (f i j)) H
theorem xm:PIp X .Add (ipI fun i j=>i + j):=by
 (try refine ⟨?_⟩); intro pins s σ H x y v u Q I r1 r2 h
 obtain ⟨i,j,e1,e2,q⟩:=h
 subst e1; subst e2
 obtain ⟨t,rfl⟩:=r1
 obtain ⟨t',rfl⟩:=r2
 exact iadd_int ⟨.int _,H,I.tok _,⟨_,rfl⟩,q⟩
end
section
variable {X:Cx} {pos:Pos}
def wS (c:TT) (tb:TS):TS:=fun D σ H=>∃ W:Nat→St→Hp→Prop,(∃ m,W m σ H)∧∀ m σ H,W m σ H →
 c σ H fun b H1=>if b=true then ∃ N:St→Hp→Prop,(∀ σ' H',N σ' H'→∃ m',m'<m∧W m' σ' H')∧tb { D with nx:=N,ct:=N,bk:=D.nx } σ H1 else D.nx σ H1
theorem rf {c:Expr} {body:List Stmt} {tc:TT} {tb:TS} (hp:PassesOwn (model X.prog X.w) X.A X.env X.xe) (hc:PT X c tc) (hb:PSs X body tb):PS X (.While c body [] pos) (wS tc tb):=by
 (try refine ⟨?_⟩); intro pins s σ H D I h
 obtain ⟨W,⟨m0,w0⟩,turn⟩:=h
 refine wpAny_While (codeAny_whileLoop (fun n s'=>∃ σ' H',Inv X pins σ' H' s'∧W n σ' H') ?_ m0 ⟨σ,H,I,w0⟩)
 rintro n s1 ⟨σ1,H1,I1,w1⟩
 refine wpAny_passesOwn hp (thn (hc pins s1 σ1 H1 _ I1 (turn n σ1 H1 w1)) fun b s2 ⟨H2,I2,q2⟩=>?_)
 cases b with
 | true =>
  obtain ⟨N,hN,q2⟩:=q2
  rw [if_pos rfl]
  refine wpAny_passesOwn hp (thn (hb pins s2 σ1 H2 _ I2 q2) fun f s3 q3=>?_)
  cases f with
  | next =>
   obtain ⟨σ3,H3,I3,n3⟩:=q3
   obtain ⟨m',hm,w3⟩:=hN σ3 H3 n3
   exact ⟨m',hm,σ3,H3,I3,w3⟩
  | cont =>
   obtain ⟨σ3,H3,I3,n3⟩:=q3
   obtain ⟨m',hm,w3⟩:=hN σ3 H3 n3
   exact ⟨m',hm,σ3,H3,I3,w3⟩
  | brk=>exact q3
  | ret v=>exact q3
 | false =>
  rw [if_neg Bool.false_ne_true]
  exact wpAny_execs_nil ⟨σ1,H2,I2,q2⟩
end
structure It where
 go:Nat→Hp→Prop
 yld:Nat→Hp→V→Hp→Prop
 stop:Nat→Hp→Prop
def iY (X:Cx) (pins:List (Addr×Obj)) (H:Hp) (b:Addr):Prop :=
 H b=none∧b≠X.env.locals∧b ∉ X.fs∧(b∈X.ex∨X.s₀.heap.objs.size≤b)∧(∀ x c,X.env.cells.lookup x=some c→c≠b)∧∀ p∈X.pn++pins,p.1≠b
theorem Inv.fpOk {X:Cx} {pins:List (Addr×Obj)} {σ:St} {H H':Hp} {s:Shared} {b:Addr} (I:Inv X pins σ H s) (hb:s.heap.objs.size≤b) (hn:H' b=none):iY X pins H' b:=by
 refine ⟨hn,Nat.ne_of_gt (Nat.lt_of_lt_of_le I.lt hb),I.nofs hb,.inr (Nat.le_trans I.sz hb),fun x c e z=>?_,fun p hp z=>?_⟩
 ·obtain ⟨v,q⟩:=I.cell x c e
  exact absurd (Nat.lt_of_lt_of_le q.lt (by rw [z]; exact hb)) (Nat.lt_irrefl _)
 ·exact absurd (Nat.lt_of_lt_of_le (Heap.lt_size (I.pin p hp).1) (by rw [z]; exact hb)) (Nat.lt_irrefl _)
structure Turn (P:Program) (w:World) (K:PySem.W.Frag) (tg:Expr) (J:It) (fp:List Addr) (it:Addr) (tn:Nat→Heap→Prop):Prop where
 mem:it∈fp
 obj:∀ i h,tn i h→∀ b∈fp,∃ o,h.get? b=some o∧∀ v,o.data≠.cell v
 keep:∀ i h h',tn i h→(∀ b∈fp,∀ o,h.get? b=some o→h'.get? b=some o)→tn i h'
 item:∀ (X:Cx),X.prog=P→X.w=w→X.K=K→X.calm=true→∀ (i:Nat) (pins:List (Addr×Obj)) (s:Shared) (σ:St) (H:Hp) (E:Value→Shared→Prop),Inv X pins σ H s→(∀ b∈fp,iY X pins H b)→tn i s.heap→J.go i H →
  wpAny (model P w) X.A (pyNext (.ref it)) (fun r s1=>∃ u,r=some u ∧
   wpAny (model P w) X.A (letOwnedTupleGo tg (.ref it) u) (fun _ s2=>∃ x H',Inv X pins σ H' s2∧a7 x u∧J.yld i H x H'∧tn (i + 1) s2.heap∧∀ b∈fp,H' b=none) E s1) E s
 done:∀ (X:Cx),X.prog=P→X.w=w→X.K=K→X.calm=true→∀ (i:Nat) (pins:List (Addr×Obj)) (s:Shared) (σ:St) (H:Hp) (E:Value→Shared→Prop),Inv X pins σ H s→(∀ b∈fp,iY X pins H b)→tn i s.heap→J.stop i H →
  wpAny (model P w) X.A (pyNext (.ref it)) (fun r s1=>r=none∧Inv X pins σ H s1) E s
 self:∀ (A:Around) (i:Nat) (s:Shared) (Q:Value→Shared→Prop) (E:Value→Shared→Prop),tn i s.heap→Q (.ref it) s→wpAny (model P w) A (pyIter (.ref it)) Q E s
abbrev TI:=St→Hp→(It→Hp→Prop)→Prop
def PIE (X:Cx) (pins:List (Addr×Obj)) (σ:St) (tg:Expr) (R:It→Hp→Prop) (itv:Value) (s2:Shared):Prop :=
 ∃ (it:Addr) (fp:List Addr) (tn:Nat→Heap→Prop) (J:It) (H':Hp),itv = .ref it∧Inv X pins σ H' s2∧Turn X.prog X.w X.K tg J fp it tn∧tn 0 s2.heap∧(∀ b∈fp,iY X pins H' b)∧R J H'
structure PI (X:Cx) (tg iter:Expr) (wi:TI):Prop where
 go:∀ (pins:List (Addr×Obj)) (s:Shared) (σ:St) (H:Hp) (R:It→Hp→Prop),Inv X pins σ H s→wi σ H R →
  wpAny (model X.prog X.w) X.A (eval iter X.env) (fun v s1=>wpAny (model X.prog X.w) X.A (pyIter v) (PIE X pins σ tg R) X.xe s1) X.xe s
instance {X:Cx} {tg iter:Expr} {wi:TI}:CoeFun (PI X tg iter wi) fun _=>∀ (pins:List (Addr×Obj)) (s:Shared) (σ:St) (H:Hp) (R:It→Hp→Prop),Inv X pins σ H s→wi σ H R →
 wpAny (model X.prog X.w) X.A (eval iter X.env) (fun v s1=>wpAny (model X.prog X.w) X.A (pyIter v) (PIE X pins σ tg R) X.xe s1) X.xe s:=⟨fun h=>h.go⟩
theorem ln {M:Model} {A:Around} {E:Value→Shared→Prop} {s:Shared} {tg:Expr} {it:Addr} {u:Value} {o:Obj} {n:String} {vs:Array Value} {Q:Unit→Shared→Prop} (ho:s.heap.get? it=some o) (hc:o.cls = .type n) (hd:o.data = .fields vs)
 (hn : ["enumerate","zip","dict_itemiterator","dict_reverseitemiterator","odict_iterator","itertools.zip_longest","itertools.pairwise"].contains n=false) (hQ:Q () s):wpAny M A (letOwnedTupleGo tg (.ref it) u) Q E s:=by
 unfold letOwnedTupleGo
 cases tg <;> first
  | exact wpAny_pure hQ
  | (cases u <;> first
   | exact wpAny_pure hQ
   | (refine wpAny_bind (wpAny_load ho ?_)
      rw [hc,hd]
      show wpAny M A (if (["enumerate","zip","dict_itemiterator","dict_reverseitemiterator","odict_iterator","itertools.zip_longest","itertools.pairwise"].contains n&&vs[0]? == some (rawInt _))=true then _ else _) Q E s
      rw [if_neg (by intro h; rw [hn,Bool.false_and] at h; cases h)]
      exact wpAny_pure hQ))
def Itl (K:PySem.W.Frag) (a:Addr):It :=
 ⟨fun i H=>∃ xs x,SqL K H a xs∧xs[i]? = some x,fun i H x H'=>H'=H∧∀ xs,SqL K H a xs→xs[i]? = some x,fun i H=>∃ xs,SqL K H a xs∧xs.length≤i⟩
def Itr (lo:Int) (n:Nat):It:=⟨fun i _=>i<n,fun i H x H'=>H'=H∧x = .int (lo + i),fun i _=>n≤i⟩
theorem m8 {P:Program} {w:World} {K:PySem.W.Frag} {tg:Expr} (a it:Addr):Turn P w K tg (Itl K a) [it] it (fun i h=>h.IsListIter it a i) where
 mem:=by simp
 obj:=fun i h st b hb=>by
  have e:b=it:=by simpa using hb
  subst e
  obtain ⟨o,e,c,d⟩:=st
  exact ⟨o,e,fun v z=>by rw [d] at z; cases z⟩
 keep:=fun i h h' st k=>st.at fun o e=>k it (by simp) o e
 item:=by
  intro X hP hw hK hc i pins s σ H E I hf st hg
  subst hP hw hK
  obtain ⟨xs,x,hq,hx⟩:=hg
  obtain ⟨its,rv,p,hz⟩:=I.list hq
  obtain ⟨u,hu,ru⟩:=rv.get hx
  obtain ⟨f0,f1,f2,f3,f4,f5⟩:=hf it (by simp)
  refine wpAny_pyNext_list_item st p.isList (x:=u) (by simpa using hu) fun h' st' sb=>?_
  have I1:Inv X pins σ H { s with heap:=h' }:=I.turned (t':=s.toks) (fun b o hb e=>(sb.2 b hb).trans e) f0 f1 f3 f4 f5
  obtain ⟨o,e,c,d⟩:=id st'
  exact ⟨u,rfl,ln (s:={ s with heap:=h' }) e c d (by decide) ⟨x,H,I1,ru,⟨rfl,fun ys hy=>by rw [I.list_inj hy hq]; exact hx⟩,st',fun b hb=>(hf b hb).1⟩⟩
 done:=by
  intro X hP hw hK hc i pins s σ H E I hf st hg
  subst hP hw hK
  obtain ⟨xs,hq,hx⟩:=hg
  obtain ⟨its,rv,p,hz⟩:=I.list hq
  obtain ⟨f0,f1,f2,f3,f4,f5⟩:=hf it (by simp)
  have hl:=rv.length
  exact wpAny_pyNext_list_end (I.ok.hd hc) st p.isList (by simp; omega) fun h' eb=>⟨rfl,I.turned (t':=s.toks) (fun b o hb e=>eb b o hb e) f0 f1 f3 f4 f5⟩
 self:=fun _ _ _ _ _ st h=>wpAny_pyIter_listiter st h
theorem kN {P:Program} {w:World} {K:PySem.W.Frag} {tg:Expr} (it:Addr) (lo:Int) (n:Nat):Turn P w K tg (Itr lo n) [it] it (fun i h=>IsRangeIter h it (lo + (i:Nat) * 1) ((n:Int) - (i:Nat)) 1) where
 mem:=by simp
 obj:=fun i h st b hb=>by
  have e:b=it:=by simpa using hb
  subst e
  exact ⟨_,st,fun v z=>by
   have z':Data.fields _=Data.cell v:=z
   cases z'⟩
 keep:=fun i h h' st k=>k it (by simp) _ st
 item:=by
  intro X hP hw hK hc i pins s σ H E I hf st hg
  subst hP hw hK
  obtain ⟨f0,f1,f2,f3,f4,f5⟩:=hf it (by simp)
  have W:=Walks.range (prog:=X.prog) (w:=X.w) (I.ok.hd hc) it lo 1 n
  refine W.item i s _ _ hg st fun v h' tk hv st' kk=>?_
  obtain ⟨t,rfl⟩:=hv
  have I1:Inv X pins σ H { s with heap:=h',toks:=tk }:=I.turned (fun b o hb e=>kk b o (by simpa using hb) e) f0 f1 f3 f4 f5
  refine ⟨_,rfl,ln (s:={ s with heap:=h',toks:=tk }) (n:="range_iterator") st' rfl rfl (by decide) ⟨.int (lo + i),H,I1,⟨t,?_⟩,⟨rfl,rfl⟩,st',fun b hb=>(hf b hb).1⟩⟩
  rw [Int.mul_one]
 done:=by
  intro X hP hw hK hc i pins s σ H E I hf st hg
  subst hP hw hK
  obtain ⟨f0,f1,f2,f3,f4,f5⟩:=hf it (by simp)
  exact wpAny_pyNext_range_end (I.ok.hd hc) st (by have:n≤i:=hg; omega) fun h' eb=>⟨rfl,I.turned (t':=s.toks) (fun b o hb e=>eb b o hb e) f0 f1 f3 f4 f5⟩
 self:=fun _ _ _ _ _ st h=>wpAny_pyIter_rangeiter st h
section
variable {X:Cx} {tg:Expr}
def iList (K:PySem.W.Frag) (tl:TE):TI:=fun σ H R=>tl σ H fun x H1=>∃ a,x = .ref a∧(∃ xs,SqL K H1 a xs)∧R (Itl K a) H1
theorem tw {l:Expr} {tl:TE} (hl:PE X l tl):PI X tg l (iList X.K tl):=by
 (try refine ⟨?_⟩); intro pins s σ H R I h
 refine thn (hl pins s σ H _ I h) fun v s1 ⟨x,H1,I1,r1,q1⟩=>?_
 obtain ⟨a,e,⟨xs,hq⟩,q⟩:=q1
 subst e
 cases r1
 obtain ⟨its,rv,p,hz⟩:=I1.list hq
 refine wpAny_pyIter_list p.isList ?_
 refine ⟨s1.heap.objs.size,[s1.heap.objs.size],_,_,H1,rfl,I1.kept (t':=s1.toks) fun b o e=>Heap.get?_push_of_some _ e,m8 a _,⟨_,Heap.get?_push_size _ rfl,rfl,rfl⟩,fun b hb=>?_,q⟩
 have e:b=s1.heap.objs.size:=by simpa using hb
 subst e
 exact I1.fpOk (Nat.le_refl _) (I1.hok.fresh (Nat.le_refl _))
theorem p5 {pins:List (Addr×Obj)} {σ:St} {H:Hp} {s:Shared} {R:It→Hp→Prop} {E:Value→Shared→Prop} {lo hi:Int} {t u v:Tok} {tk:Nat} (I:Inv X pins σ H s) (h1 : -(2 ^ 62)≤lo) (h2:lo<2 ^ 62) (h3 : -(2 ^ 62)≤hi) (h4:hi<2 ^ 62)
 (q:R (Itr lo (hi - lo).toNat) H):wpAny (model X.prog X.w) X.A (pyIter (.ref s.heap.objs.size)) (PIE X pins σ tg R) E { s with heap:=s.heap.push { cls:=.type "range",data:=.fields #[.int lo t,.int hi u,.int 1 v] },toks:=tk }:=by
 refine wpAny_pyIter_range (IsRange.new ..) (small_one h1 h2 h3 h4) ?_
 have I1:Inv X pins σ H { s with heap:=s.heap.push { cls:=.type "range",data:=.fields #[.int lo t,.int hi u,.int 1 v] },toks:=tk }:=I.kept fun b o e=>Heap.get?_push_of_some _ e
 refine ⟨(s.heap.push { cls:=.type "range",data:=.fields #[.int lo t,.int hi u,.int 1 v] }).objs.size,[(s.heap.push { cls:=.type "range",data:=.fields #[.int lo t,.int hi u,.int 1 v] }).objs.size],_,_,H,rfl,
  I1.kept (t':=tk) fun b o e=>Heap.get?_push_of_some _ e,kN _ lo (hi - lo).toNat,?_,fun b hb=>?_,q⟩
 ·have e1:lo + ((0:Nat):Int) * 1=lo:=by simp
  have e2:(((hi - lo).toNat:Nat):Int) - ((0:Nat):Int)=Builtin.Range.rangeSize lo hi 1:=by rw [rangeSize_one]; split <;> omega
  show IsRangeIter _ _ (lo + ((0:Nat):Int) * 1) ((((hi - lo).toNat:Nat):Int) - ((0:Nat):Int)) 1
  rw [e1,e2]
  exact Heap.get?_push_size _ rfl
 ·have e:b=(s.heap.push { cls:=.type "range",data:=.fields #[.int lo t,.int hi u,.int 1 v] }).objs.size:=by simpa using hb
  subst e
  exact I1.fpOk (Nat.le_refl _) (I1.hok.fresh (Nat.le_refl _))
def iRng1 (ta:TA):TI:=fun σ H R=>ta σ H fun vs H1=>∃ j:Int,vs=[.int j]∧-(2 ^ 62)≤j∧j<2 ^ 62∧R (Itr 0 j.toNat) H1
theorem mU {a:Expr} {ta:TA} {p pos:Pos} (hg:Gl X "range") (hm:X.mg "range" = none) (ha:PA X [a] ta) (hs:starEach [a] X.env=[(false,eval a X.env)]:=by rfl):PI X tg (.Call (.Name "range" p) [a] [] pos) (iRng1 ta):=by
 (try refine ⟨?_⟩); intro pins s σ H R I h
 refine Call_ (dD I hg hm boot_range (PyProof.Rows.callWith_type1 (thn (ha pos pins s σ H _ I h) fun us s1 ⟨vs,H1,I1,r1,q1⟩=>?_) hs rfl))
 obtain ⟨j,e,q1,q2,q⟩:=q1
 subst e
 cases r1 with
 | cons r rr =>
  cases rr
  obtain ⟨t,rfl⟩:=r
  exact call_range_1 (p5 I1 (by omega) (by omega) q1 q2 (by simpa using q))
def tFor (wi:TI) (g:TG) (tb:TS):TS:=fun D σ H=>wi σ H fun J H1=>∃ W:Nat→Nat→St→Hp→Prop,(∃ m,W 0 m σ H1)∧∀ i m σ H,W i m σ H →
 (J.stop i H∧D.nx σ H)∨(J.go i H∧∃ N:St→Hp→Prop,(∀ σ' H',N σ' H'→∃ m',m'<m∧W (i + 1) m' σ' H')∧∀ x H',J.yld i H x H'→g x σ H' fun σ2 H2=>tb { D with nx:=N,ct:=N,bk:=D.nx } σ2 H2)
def gO (fp:List Addr) (h:Heap):List (Addr×Obj):=fp.filterMap fun b=>(h.get? b).map fun o=>(b,o)
theorem cu {fp:List Addr} {h:Heap} {b:Addr} {o:Obj} (hb:b∈fp) (e:h.get? b=some o):(b,o)∈gO fp h:=List.mem_filterMap.mpr ⟨b,hb,by rw [e]; rfl⟩
theorem g7 {fp:List Addr} {h:Heap} {p:Addr×Obj} (hp:p∈gO fp h):p.1∈fp∧h.get? p.1=some p.2:=by
 obtain ⟨b,hb,e⟩:=List.mem_filterMap.mp hp
 cases q:h.get? b with
 | none=>rw [q] at e; cases e
 | some o =>
  rw [q] at e
  have e':(b,o)=p:=Option.some.inj e
  subst e'
  exact ⟨hb,q⟩
theorem Inv.pinned {pins:List (Addr×Obj)} {σ:St} {H:Hp} {s:Shared} {fp:List Addr} (I:Inv X pins σ H s) (hf:∀ b∈fp,iY X pins H b) (ho:∀ b∈fp,∃ o,s.heap.get? b=some o∧∀ v,o.data≠.cell v):Inv X (pins++gO fp s.heap) σ H s :=
 I.pins_of fun p hp=>(List.mem_append.mp hp).elim (fun z=>I.pin p (List.mem_append_right _ z)) fun z=>by
  obtain ⟨hb,e⟩:=g7 z
  obtain ⟨f0,f1,f2,_⟩:=hf p.1 hb
  obtain ⟨o,e',d⟩:=ho p.1 hb
  rw [e] at e'; cases e'
  exact ⟨e,f0,f1,f2,d⟩
theorem Inv.unpinned {pins pl:List (Addr×Obj)} {σ:St} {H:Hp} {s:Shared} (I:Inv X (pins++pl) σ H s):Inv X pins σ H s:=I.pins_of fun p hp=>I.pin p (List.mem_append_right _ (List.mem_append_left _ hp))
theorem u6 {iter:Expr} {body:List Stmt} {wi:TI} {g:TG} {tb:TS} {pos:Pos} (hp:PassesOwn (model X.prog X.w) X.A X.env X.xe) (hc:X.calm=true) (hi:PI X tg iter wi) (hg:PG X tg g) (hb:PSs X body tb)
 (hs:∀ x,foldedSetIterable iter X.env x=pure x:=by intro _; rfl):PS X (.For tg iter body [] pos) (tFor wi g tb):=by
 (try refine ⟨?_⟩); intro pins s σ H D I h
 refine wpAny_For (thn (hi pins s σ H _ I h) fun v s1 h1=>thn h1 fun itv s2 h2=>?_) hs
 obtain ⟨it,fp,tn,J,H2,e,I2,T,st2,f2,W,⟨m0,w0⟩,turn⟩:=h2
 subst e
 -- what stays true of the iterator's objects through the loop
 have stat:∀ {H':Hp},(∀ b∈fp,H' b=none)→∀ b∈fp,iY X pins H' b:=fun hn b hb=>⟨hn b hb,(f2 b hb).2⟩
 refine codeAny_forLoop_any (fun n s'=>∃ i σ' H',Inv X pins σ' H' s'∧tn i s'.heap∧(∀ b∈fp,H' b=none)∧W i n σ' H') ?_ m0 ⟨0,σ,H2,I2,st2,fun b hb=>(f2 b hb).1,w0⟩
 rintro n s3 ⟨i,σ3,H3,I3,st3,fr3,w3⟩
 rcases turn i n σ3 H3 w3 with ⟨stop,qn⟩ | ⟨go,N,hN,step⟩
 ·refine wpAny_passesOwn hp (thn (T.done X rfl rfl rfl hc i pins s3 σ3 H3 X.xe I3 (stat fr3) st3 stop) fun r s4 ⟨hr,I4⟩=>?_)
  subst hr
  exact wpAny_execs_nil ⟨σ3,H3,I4,qn⟩
 ·refine wpAny_passesOwn hp (thn (T.item X rfl rfl rfl hc i pins s3 σ3 H3 X.xe I3 (stat fr3) st3 go) fun r s4 ⟨u,hr,h4⟩=>?_)
  subst hr
  refine wpAny_passesOwn hp (thn h4 fun _ s5 ⟨x,H5,I5,r5,y5,st5,fr5⟩=>?_)
  have I5':=I5.pinned (stat fr5) (T.obj _ _ st5)
  refine wpAny_passesOwn hp (thn (hg _ s5 σ3 H5 x u _ I5' r5 (step x H5 y5)) fun _ s6 ⟨σ6,H6,I6,q6⟩=>?_)
  refine wpAny_passesOwn hp (thn (hb _ s6 σ6 H6 _ I6 q6) fun f s7 q7=>?_)
  have again:∀ {σ7:St} {H7:Hp},Inv X (pins++gO fp s5.heap) σ7 H7 s7→N σ7 H7→∃ m,m<n∧∃ i σ' H',Inv X pins σ' H' s7∧tn i s7.heap∧(∀ b∈fp,H' b=none)∧W i m σ' H':=fun {σ7 H7} I7 n7=>by
   obtain ⟨m',hm,w7⟩:=hN σ7 H7 n7
   refine ⟨m',hm,i + 1,σ7,H7,I7.unpinned,T.keep _ _ _ st5 fun b hb o e=>(I7.pin (b,o) (List.mem_append_right _ (List.mem_append_right _ (cu hb e)))).1,fun b hb=>?_,w7⟩
   obtain ⟨o,e,d⟩:=T.obj _ _ st5 b hb
   exact (I7.pin (b,o) (List.mem_append_right _ (List.mem_append_right _ (cu hb e)))).2.1
  cases f with
  | next=>obtain ⟨σ7,H7,I7,n7⟩:=q7; exact again I7 n7
  | cont=>obtain ⟨σ7,H7,I7,n7⟩:=q7; exact again I7 n7
  | brk=>obtain ⟨σ7,H7,I7,q7⟩:=q7; exact ⟨σ7,H7,I7.unpinned,q7⟩
  | ret v=>obtain ⟨x7,σ7,H7,I7,r7,q7⟩:=q7; exact ⟨x7,σ7,H7,I7.unpinned,r7,q7⟩
end
abbrev R2:=V→V→Hp→VK→Prop
def OpR (X:Cx) (f:Value→Value→Sem Value) (r:R2):Prop :=
 ∀ (pins:List (Addr×Obj)) (s:Shared) (σ:St) (H:Hp) (x y:V) (v u:Value) (Q:VK),Inv X pins σ H s→a7 x v→a7 y u→r x y H Q →
  wpAny (model X.prog X.w) X.A (f v u) (EP X pins σ Q) X.xe s
def UnR (X:Cx) (f:Value→Sem Value) (r:V→Hp→VK→Prop):Prop :=
 ∀ (pins:List (Addr×Obj)) (s:Shared) (σ:St) (H:Hp) (x:V) (v:Value) (Q:VK),Inv X pins σ H s→a7 x v→r x H Q →
  wpAny (model X.prog X.w) X.A (f v) (EP X pins σ Q) X.xe s
def bX (X:Cx) (f:Value) (r:List V→Hp→VK→Prop):Prop :=
 ∀ (pins:List (Addr×Obj)) (s:Shared) (σ:St) (H:Hp) (xs:List V) (us:List Value) (Q:VK),Inv X pins σ H s→aN xs us→r xs H Q →
  wpAny (model X.prog X.w) X.A (call f us) (EP X pins σ Q) X.xe s
def TruR (X:Cx) (r:V→Hp→(Bool→Hp→Prop)→Prop):Prop :=
 ∀ (pins:List (Addr×Obj)) (s:Shared) (σ:St) (H:Hp) (x:V) (v:Value) (Q:Bool→Hp→Prop),Inv X pins σ H s→a7 x v→r x H Q →
  wpAny (model X.prog X.w) X.A (truthy v) (TP X pins σ Q) X.xe s
def tOp (r:R2) (ta tb:TE):TE:=fun σ H Q=>ta σ H fun x H1=>tb σ H1 fun y H2=>r x y H2 Q
def tUn (r:V→Hp→VK→Prop) (ta:TE):TE:=fun σ H Q=>ta σ H fun x H1=>r x H1 Q
def rI (C:Int→Int→Prop) (g:Int→Int→V):R2:=fun x y H Q=>∃ i j,x = .int i∧y = .int j∧C i j∧Q (g i j) H
def rI0 (g:Int→Int→V):R2:=fun x y H Q=>∃ i j,x = .int i∧y = .int j∧Q (g i j) H
def rU (g:Int→V):V→Hp→VK→Prop:=fun x H Q=>∃ i,x = .int i∧Q (g i) H
section
variable {X:Cx} {a b c:Expr} {ta tb tc:TE} {pos:Pos}
theorem binT (ha:PE X a ta) (hb:PE X b tb) {pins:List (Addr×Obj)} {s:Shared} {σ:St} {H:Hp} {R:V→V→Hp→Prop} (I:Inv X pins σ H s)
 (h:ta σ H fun x H1=>tb σ H1 fun y H2=>R x y H2) {Q:Value→Shared→Prop} {f:Value→Value→Sem Value}
 (hf:∀ v u s2 x y H2,Inv X pins σ H2 s2→a7 x v→a7 y u→R x y H2→wpAny (model X.prog X.w) X.A (f v u) Q X.xe s2) :
 wpAny (model X.prog X.w) X.A (eval a X.env) (fun v s₁=>wpAny (model X.prog X.w) X.A (eval b X.env) (fun u s₂=>wpAny (model X.prog X.w) X.A (f v u) Q X.xe s₂) X.xe s₁) X.xe s:=by
 refine thn (ha pins s σ H _ I h) fun v s1 ⟨x,H1,I1,r1,q1⟩=>?_
 refine thn (hb pins s1 σ H1 _ I1 q1) fun u s2 ⟨y,H2,I2,r2,q2⟩=>?_
 exact hf v u s2 x y H2 I2 r1 r2 q2
theorem pE {op:Operator} {r:R2} (ho:OpR X (binaryOp op) r) (ha:PE X a ta) (hb:PE X b tb):PE X (.BinOp a op b pos) (tOp r ta tb):=by
 (try refine ⟨?_⟩); intro pins s σ H Q I h
 exact wpAny_BinOp (binT ha hb I h fun v u s2 x y H2 I2 rx ry q=>ho pins s2 σ H2 x y v u Q I2 rx ry q)
theorem pe_un {op:UnaryOp} {r:V→Hp→VK→Prop} (ho:UnR X (unaryOp op) r) (ha:PE X a ta):PE X (.UnaryOp op a pos) (tUn r ta):=by
 (try refine ⟨?_⟩); intro pins s σ H Q I h
 exact UnaryOp_ (thn (ha pins s σ H _ I h) fun v s1 ⟨x,H1,I1,r1,q1⟩=>ho pins s1 σ H1 x v Q I1 r1 q1)
theorem opI {f:Value→Value→Sem Value} {C:Int→Int→Prop} {g:Int→Int→Int}
 (rule:∀ (i j:Int) (t u:Tok) (s:Shared) (Q:Value→Shared→Prop) (E:Value→Shared→Prop),C i j→Q (.int (g i j) s.toks) { s with toks:=s.toks + 1 }→wpAny (model X.prog X.w) X.A (f (.int i t) (.int j u)) Q E s) :
 OpR X f (rI C fun i j=>.int (g i j)):=by
 (try refine ⟨?_⟩); intro pins s σ H x y v u Q I rx ry h
 obtain ⟨i,j,rfl,rfl,hc,q⟩:=h
 obtain ⟨t,rfl⟩:=rx
 obtain ⟨t',rfl⟩:=ry
 exact rule i j t t' s _ _ hc ⟨.int (g i j),H,I.tok _,⟨_,rfl⟩,q⟩
theorem opI0 {f:Value→Value→Sem Value} {g:Int→Int→Int}
 (rule:∀ (i j:Int) (t u:Tok) (s:Shared) (Q:Value→Shared→Prop) (E:Value→Shared→Prop),Q (.int (g i j) s.toks) { s with toks:=s.toks + 1 }→wpAny (model X.prog X.w) X.A (f (.int i t) (.int j u)) Q E s) :
 OpR X f (rI0 fun i j=>.int (g i j)):=by
 (try refine ⟨?_⟩); intro pins s σ H x y v u Q I rx ry h
 obtain ⟨i,j,rfl,rfl,q⟩:=h
 obtain ⟨t,rfl⟩:=rx
 obtain ⟨t',rfl⟩:=ry
 exact rule i j t t' s _ _ ⟨.int (g i j),H,I.tok _,⟨_,rfl⟩,q⟩
theorem opB0 {f:Value→Value→Sem Value} {g:Int→Int→Bool}
 (rule:∀ (i j:Int) (t u:Tok) (s:Shared) (Q:Value→Shared→Prop) (E:Value→Shared→Prop),Q (.bool (g i j)) s→wpAny (model X.prog X.w) X.A (f (.int i t) (.int j u)) Q E s) :
 OpR X f (rI0 fun i j=>.bl (g i j)):=by
 (try refine ⟨?_⟩); intro pins s σ H x y v u Q I rx ry h
 obtain ⟨i,j,rfl,rfl,q⟩:=h
 obtain ⟨t,rfl⟩:=rx
 obtain ⟨t',rfl⟩:=ry
 exact rule i j t t' s _ _ ⟨.bl (g i j),H,I,rfl,q⟩
def CDiv (i j:Int):Prop:=0<j∧j<1073741824
def CPow (i j:Int):Prop:=0≤j∧j≤1000000∧i.natAbs<2 ^ 64
def CMul (i j:Int):Prop:=(-(2 ^ 64)<i∧i<2 ^ 64)∨(-(2 ^ 64)<j∧j<2 ^ 64)
theorem CMul.ok {i j:Int} (h:CMul i j):IntMulOk i j:=by
 rcases h with ⟨h1,h2⟩ | ⟨h1,h2⟩
 ·exact .of_left (intBits_le_64 h1 h2)
 ·exact .of_right (intBits_le_64 h1 h2)
theorem cr:OpR X (binaryOp .Add) (rI0 fun i j=>.int (i + j)):=opI0 fun _ _ _ _ _ _ _ q=>add_int q
theorem dc:OpR X (binaryOp .Sub) (rI0 fun i j=>.int (i - j)):=opI0 fun _ _ _ _ _ _ _ q=>sub_int q
theorem dY:OpR X (binaryOp .Mult) (rI CMul fun i j=>.int (i * j)):=opI fun _ _ _ _ _ _ _ hc q=>mul_int q hc.ok
theorem su:OpR X (binaryOp .FloorDiv) (rI CDiv fun i j=>.int (i / j)):=opI fun i j _ _ _ _ _ hc q=>by
 have h1:(0:Int)<j:=hc.1
 have h2:j<1073741824:=hc.2
 exact floordiv_int (by omega) (by rw [Int.fdiv_eq_ediv_of_nonneg i (by omega)]; exact q) (.inl (PyProof.noPylong_small (by omega)))
theorem dL:OpR X (binaryOp .Mod) (rI (fun _ j=>0<j) fun i j=>.int (i % j)):=opI fun i j _ _ _ _ _ hc q=>by
 have h1:(0:Int)<j:=hc
 exact mod_int' (by omega) (by rw [Int.fmod_eq_emod_of_nonneg i (by omega)]; exact q)
theorem eN:OpR X (binaryOp .Pow) (rI CPow fun i j=>.int (i ^ j.toNat)):=opI fun _ _ _ _ _ _ _ hc q=>pow_int_small hc.1 hc.2.1 hc.2.2 q
theorem unI {f:Value→Sem Value} {g:Int→Int}
 (rule:∀ (i:Int) (t:Tok) (s:Shared) (Q:Value→Shared→Prop) (E:Value→Shared→Prop),Q (.int (g i) s.toks) { s with toks:=s.toks + 1 }→wpAny (model X.prog X.w) X.A (f (.int i t)) Q E s) :
 UnR X f (rU fun i=>.int (g i)):=by
 (try refine ⟨?_⟩); intro pins s σ H x v Q I rx h
 obtain ⟨i,rfl,q⟩:=h
 obtain ⟨t,rfl⟩:=rx
 exact rule i t s _ _ ⟨.int (g i),H,I.tok _,⟨_,rfl⟩,q⟩
theorem vI:UnR X (unaryOp .USub) (rU fun i=>.int (-i)):=unI fun _ _ _ _ _ q=>neg_int q
end
def scal:V→V→Bool
 | .non,.non=>true | .non,.int _=>true | .int _,.non=>true | .non,.bl _=>true | .bl _,.non=>true | .non,.str _=>true | .str _,.non=>true
 | .int _,.int _=>true | .bl _,.bl _=>true | .str _,.str _=>true | .byt _,.byt _=>true
 | .int _,.str _=>true | .str _,.int _=>true | .bl _,.str _=>true | .str _,.bl _=>true
 | _,_=>false
def rEq:R2:=fun x y H Q=>scal x y=true∧Q (.bl (decide (x=y))) H
def rNe:R2:=fun x y H Q=>scal x y=true∧Q (.bl (!decide (x=y))) H
theorem lj {i j:Int}:decide (V.int i=V.int j)=(i == j):=by
 rw [Bool.eq_iff_iff]
 simp
theorem qW {i j:Bool}:decide (V.bl i=V.bl j)=(i == j):=by
 rw [Bool.eq_iff_iff]
 simp
theorem lF {i j:Str}:decide (V.str i=V.str j)=(i == j):=by
 rw [Bool.eq_iff_iff]
 simp
theorem lB {i j:Array UInt8}:decide (V.byt i=V.byt j)=(i.toList == j.toList):=by
 rw [Bool.eq_iff_iff]
 cases i
 cases j
 simp
section
variable {X:Cx} {a b c:Expr} {ta tb tc:TE} {pos:Pos}
theorem aR {pins:List (Addr×Obj)} {σ:St} {H:Hp} {s:Shared} {Q:VK} {k k':Bool} (I:Inv X pins σ H s) (q:Q (.bl k) H) (e:k=k'):EP X pins σ Q (.bool k') s:=by
 subst e
 exact ⟨.bl k,H,I,rfl,q⟩
theorem lO:OpR X (compareOp .Eq) rEq:=by
 (try refine ⟨?_⟩); intro pins s σ H x y v u Q I rx ry h
 obtain ⟨hs,q⟩:=h
 cases x with
 | non =>
  cases rx
  cases y with
  | non=>cases ry; exact PySem.EqNone.eq_none_none (aR I q (by simp))
  | bl j=>cases ry; exact PySem.EqNone.eq_none_bool (aR I q (by simp))
  | int j=>obtain ⟨t',rfl⟩:=ry; exact PySem.EqNone.eq_none_int (aR I q (by simp))
  | str j=>obtain ⟨t',rfl⟩:=ry; exact PySem.EqNone.eq_none_str (aR I q (by simp))
  | _=>exact absurd (show false=true from hs) Bool.false_ne_true
 | bl i =>
  cases rx
  cases y with
  | non=>cases ry; exact PySem.EqNone.eq_bool_none (aR I q (by simp))
  | bl j=>cases ry; exact eq_bool (aR I q qW)
  | str j=>obtain ⟨t',rfl⟩:=ry; exact PySem.EqMixed.eq_bool_str (aR I q (by simp))
  | _=>exact absurd (show false=true from hs) Bool.false_ne_true
 | int i =>
  obtain ⟨t,rfl⟩:=rx
  cases y with
  | non=>cases ry; exact PySem.EqNone.eq_int_none (aR I q (by simp))
  | int j=>obtain ⟨t',rfl⟩:=ry; exact eq_int (aR I q lj)
  | str j=>obtain ⟨t',rfl⟩:=ry; exact PySem.EqMixed.eq_int_str (aR I q (by simp))
  | _=>exact absurd (show false=true from hs) Bool.false_ne_true
 | str i =>
  obtain ⟨t,rfl⟩:=rx
  cases y with
  | non=>cases ry; exact PySem.EqNone.eq_str_none (aR I q (by simp))
  | bl j=>cases ry; exact PySem.EqMixed.eq_str_bool (aR I q (by simp))
  | int j=>obtain ⟨t',rfl⟩:=ry; exact PySem.EqMixed.eq_str_int (aR I q (by simp))
  | str j=>obtain ⟨t',rfl⟩:=ry; exact eq_str (aR I q lF)
  | _=>exact absurd (show false=true from hs) Bool.false_ne_true
 | byt i =>
  obtain ⟨t,rfl⟩:=rx
  cases y with
  | byt j=>obtain ⟨t',rfl⟩:=ry; exact PySem.W.eq_bytes (aR I q lB)
  | _=>exact absurd (show false=true from hs) Bool.false_ne_true
 | _=>cases y <;> exact absurd (show false=true from hs) Bool.false_ne_true
theorem pV:OpR X (compareOp .NotEq) rNe:=by
 (try refine ⟨?_⟩); intro pins s σ H x y v u Q I rx ry h
 obtain ⟨hs,q⟩:=h
 cases x with
 | non =>
  cases rx
  cases y with
  | non=>cases ry; exact PySem.EqNone.ne_none_none (aR I q (by simp))
  | bl j=>cases ry; exact PySem.EqNone.ne_none_bool (aR I q (by simp))
  | int j=>obtain ⟨t',rfl⟩:=ry; exact PySem.EqNone.ne_none_int (aR I q (by simp))
  | str j=>obtain ⟨t',rfl⟩:=ry; exact PySem.EqNone.ne_none_str (aR I q (by simp))
  | _=>exact absurd (show false=true from hs) Bool.false_ne_true
 | bl i =>
  cases rx
  cases y with
  | non=>cases ry; exact PySem.EqNone.ne_bool_none (aR I q (by simp))
  | bl j=>cases ry; exact ne_bool (aR I q (congrArg not qW))
  | str j=>obtain ⟨t',rfl⟩:=ry; exact PySem.EqMixed.ne_bool_str (aR I q (by simp))
  | _=>exact absurd (show false=true from hs) Bool.false_ne_true
 | int i =>
  obtain ⟨t,rfl⟩:=rx
  cases y with
  | non=>cases ry; exact PySem.EqNone.ne_int_none (aR I q (by simp))
  | int j=>obtain ⟨t',rfl⟩:=ry; exact ne_int (aR I q (congrArg not lj))
  | str j=>obtain ⟨t',rfl⟩:=ry; exact PySem.EqMixed.ne_int_str (aR I q (by simp))
  | _=>exact absurd (show false=true from hs) Bool.false_ne_true
 | str i =>
  obtain ⟨t,rfl⟩:=rx
  cases y with
  | non=>cases ry; exact PySem.EqNone.ne_str_none (aR I q (by simp))
  | bl j=>cases ry; exact PySem.EqMixed.ne_str_bool (aR I q (by simp))
  | int j=>obtain ⟨t',rfl⟩:=ry; exact PySem.EqMixed.ne_str_int (aR I q (by simp))
  | str j=>obtain ⟨t',rfl⟩:=ry; exact ne_str (aR I q (congrArg not lF))
  | _=>exact absurd (show false=true from hs) Bool.false_ne_true
 | byt i =>
  obtain ⟨t,rfl⟩:=rx
  cases y with
  | byt j=>obtain ⟨t',rfl⟩:=ry; exact PySem.W.ne_bytes (aR I q (congrArg not lB))
  | _=>exact absurd (show false=true from hs) Bool.false_ne_true
 | _=>cases y <;> exact absurd (show false=true from hs) Bool.false_ne_true
theorem lu:OpR X (compareOp .Lt) (rI0 fun i j=>.bl (decide (i<j))):=opB0 fun _ _ _ _ _ _ _ q=>lt_int q
theorem gF:OpR X (compareOp .LtE) (rI0 fun i j=>.bl (decide (i≤j))):=opB0 fun _ _ _ _ _ _ _ q=>le_int q
theorem jG:OpR X (compareOp .Gt) (rI0 fun i j=>.bl (decide (j<i))):=opB0 fun _ _ _ _ _ _ _ q=>gt_int q
theorem op_ge:OpR X (compareOp .GtE) (rI0 fun i j=>.bl (decide (j≤i))):=opB0 fun _ _ _ _ _ _ _ q=>ge_int q
theorem uI:OpR X (compareOp .Is) (fun x y H Q=>y = .non∧Q (.bl (decide (x = .non))) H):=by
 (try refine ⟨?_⟩); intro pins s σ H x y v u Q I rx ry h
 obtain ⟨rfl,q⟩:=h
 cases ry
 refine is_none_gen (aR I q ?_)
 cases x <;> first
  | (cases rx; rfl)
  | (obtain ⟨t,rfl⟩:=rx; rfl)
theorem sj:OpR X (compareOp .IsNot) (fun x y H Q=>y = .non∧Q (.bl (!decide (x = .non))) H):=by
 (try refine ⟨?_⟩); intro pins s σ H x y v u Q I rx ry h
 obtain ⟨rfl,q⟩:=h
 cases ry
 refine isnot_none_gen (aR I q ?_)
 cases x <;> first
  | (cases rx; rfl)
  | (obtain ⟨t,rfl⟩:=rx; rfl)
theorem aE (b:Expr) {op:CmpOp} (h:op≠.In:=by decide) (h2:op≠.NotIn:=by decide):behindInMarks op b=false:=by
 have e1:(op == CmpOp.In)=false:=by cases op <;> first | rfl | exact absurd rfl h
 have e2:(op == CmpOp.NotIn)=false:=by cases op <;> first | rfl | exact absurd rfl h2
 cases b <;> simp [behindInMarks,e1,e2]
theorem sF {op:CmpOp} {r:R2} (ho:OpR X (compareOp op) r) (ha:PE X a ta) (hb:PE X b tb) (hm:behindInMarks op b=false):PE X (.Compare a [op] [b] pos) (tOp r ta tb):=by
 (try refine ⟨?_⟩); intro pins s σ H Q I h
 exact wpAny_Compare1 (binT ha hb I h fun v u s2 x y H2 I2 rx ry q=>ho pins s2 σ H2 x y v u Q I2 rx ry q) hm
def n_ (t:TE):TT:=fun σ H Q=>t σ H fun x H'=>∃ k,x = .bl k∧Q k H'
theorem sW {op:CmpOp} {r:R2} (ho:OpR X (compareOp op) r) (ha:PE X a ta) (hb:PE X b tb) (hm:behindInMarks op b=false):PT X (.Compare a [op] [b] pos) (n_ (tOp r ta tb)):=by
 (try refine ⟨?_⟩); intro pins s σ H Q I h
 refine wpAny_isTrue_Compare1 (thn (ha pins s σ H _ I h) fun v s1 ⟨x,H1,I1,r1,q1⟩=>thn (hb pins s1 σ H1 _ I1 q1) fun u s2 ⟨y,H2,I2,r2,q2⟩ =>
  thn (ho pins s2 σ H2 x y v u _ I2 r1 r2 q2) fun c s3 ⟨z,H3,I3,r3,k,e,q3⟩=>?_) hm
 subst e
 cases r3
 exact wpAny_truthy_bool ⟨H3,I3,q3⟩
def k9 (r r':R2) (ta tb tc:TE):TE:=fun σ H Q=>ta σ H fun x H1=>tb σ H1 fun y H2=>r x y H2 fun z H3=>∃ k,z = .bl k ∧
 (if k=true then tc σ H3 fun w' H4=>r' y w' H4 Q else Q (.bl false) H3)
theorem oh {op op':CmpOp} {r r':R2} (ho:OpR X (compareOp op) r) (ho':OpR X (compareOp op') r') (ha:PE X a ta) (hb:PE X b tb) (hc:PE X c tc)
 (hm:lastMarks [op,op'] [b,c]=false:=by with_unfolding_all rfl):PE X (.Compare a [op,op'] [b,c] pos) (k9 r r' ta tb tc):=by
 (try refine ⟨?_⟩); intro pins s σ H Q I h
 refine Compare_chain (thn (ha pins s σ H _ I h) fun v s1 ⟨x,H1,I1,r1,q1⟩=>chain_link (thn (hb pins s1 σ H1 _ I1 q1) fun u s2 ⟨y,H2,I2,r2,q2⟩ =>
  thn (ho pins s2 σ H2 x y v u _ I2 r1 r2 q2) fun d s3 ⟨z,H3,I3,r3,k,e,q3⟩=>?_)) hm
 subst e
 cases r3
 refine wpAny_truthy_bool ?_
 cases k with
 | false=>exact ite_ff ⟨.bl false,H3,I3,rfl,q3⟩
 | true=>exact ite_tt (chain_last (thn (hc pins s3 σ H3 _ I3 q3) fun w' s4 ⟨z',H4,I4,r4,q4⟩=>ho' pins s4 σ H4 y z' u w' Q I4 r2 r4 q4))
theorem rb {op op':CmpOp} {r r':R2} (ho:OpR X (compareOp op) r) (ho':OpR X (compareOp op') r') (ha:PE X a ta) (hb:PE X b tb) (hc:PE X c tc)
 (hm:lastMarks [op,op'] [b,c]=false:=by with_unfolding_all rfl):PT X (.Compare a [op,op'] [b,c] pos) (n_ (k9 r r' ta tb tc)):=by
 (try refine ⟨?_⟩); intro pins s σ H Q I h
 refine isTrue_chain (thn (ha pins s σ H _ I h) fun v s1 ⟨x,H1,I1,r1,q1⟩=>test_link (thn (hb pins s1 σ H1 _ I1 q1) fun u s2 ⟨y,H2,I2,r2,q2⟩ =>
  thn (ho pins s2 σ H2 x y v u _ I2 r1 r2 q2) fun d s3 ⟨z,H3,I3,r3,k,e,q3⟩=>?_)) hm
 subst e
 cases r3
 refine wpAny_truthy_bool ?_
 cases k with
 | false =>
  obtain ⟨k',e',q'⟩:=q3
  cases e'
  exact ite_ff ⟨H3,I3,q'⟩
 | true =>
  refine ite_tt (test_last (thn (hc pins s3 σ H3 _ I3 q3) fun w' s4 ⟨z',H4,I4,r4,q4⟩=>thn (ho' pins s4 σ H4 y z' u w' _ I4 r2 r4 q4) fun d' s5 ⟨z2,H5,I5,r5,k2,e2,q5⟩=>?_))
  subst e2
  cases r5
  exact wpAny_truthy_bool ⟨H5,I5,q5⟩
def TruV (K:PySem.W.Frag) (x:V) (H:Hp) (k:Bool):Prop :=
 match x with
 | .non=>k=false
 | .bl b=>k=b
 | .int i=>k=(i != 0)
 | .str y=>y.length≤sizeLine∧k=((y.length:Int) != 0)
 | .byt y=>y.size≤sizeLine∧k=((y.size:Int) != 0)
 | .ref p=>(∃ xs,SqL K H p xs∧k = !xs.isEmpty)∨(∃ xs,SqT K H p xs∧k = !xs.isEmpty)∨∃ kvs,H p=some (.dK kvs)∧k = !kvs.isEmpty
 | _=>False
theorem kG {κ:Type} {kvs:List (κ×V)} {vs:List (κ×Value)} (r:KV kvs vs):(!vs.isEmpty) = !kvs.isEmpty:=by
 cases r <;> rfl
theorem gi {xs:List V} {its:List Value} (r:aN xs its):(!its.toArray.isEmpty) = !xs.isEmpty:=by
 cases r <;> simp
theorem eK:(sizeLine:Nat)<2 ^ 63:=by rw [sizeLine_eq]; decide
theorem uo:TruR X (fun x H Q=>∃ k,TruV X.K x H k∧Q k H):=by
 (try refine ⟨?_⟩); intro pins s σ H x v Q I rx h
 obtain ⟨k,e,q⟩:=h
 have hl:=eK
 have hs:sizeLine=16777216:=sizeLine_eq
 cases x with
 | non =>
  cases rx
  have e':k=false:=e
  subst e'
  exact truthy_none ⟨H,I,q⟩
 | bl b =>
  cases rx
  have e':k=b:=e
  subst e'
  exact wpAny_truthy_bool ⟨H,I,q⟩
 | int i =>
  obtain ⟨t,rfl⟩:=rx
  have e':k=(i != 0):=e
  subst e'
  exact PySem.P.truthy_int ⟨H,I,q⟩
 | str y =>
  obtain ⟨t,rfl⟩:=rx
  obtain ⟨hy,e'⟩:y.length≤sizeLine∧k=((y.length:Int) != 0):=e
  subst e'
  exact PySem.P.truthy_str (by omega) ⟨H,I.tok _,q⟩
 | byt y =>
  obtain ⟨t,rfl⟩:=rx
  obtain ⟨hy,e'⟩:y.size≤sizeLine∧k=((y.size:Int) != 0):=e
  subst e'
  exact PySem.W.truthy_bytes (by omega) ⟨H,I.tok _,q⟩
 | ref p =>
  cases rx
  have e':(∃ xs,SqL X.K H p xs∧k = !xs.isEmpty)∨(∃ xs,SqT X.K H p xs∧k = !xs.isEmpty)∨∃ kvs,H p=some (.dK kvs)∧k = !kvs.isEmpty:=e
  rcases e' with ⟨xs,hx,e'⟩ | ⟨xs,hx,e'⟩ | ⟨kvs,hx,e'⟩
  ·subst e'
   obtain ⟨its,r,pl,hz⟩:=I.list hx
   have hlen:=r.length
   exact wpAny_truthy_list pl.isList (by simp only [List.size_toArray]; omega) ⟨H,I.tok _,by rw [gi r]; exact q⟩
  ·subst e'
   obtain ⟨its,r,pl,hz⟩:=I.tuple hx
   have hlen:=r.length
   exact truthy_tuple pl (by simp only [List.size_toArray]; omega) ⟨H,I.tok _,by rw [gi r]; exact q⟩
  ·subst e'
   obtain ⟨hz,hS,vs,r,m⟩:kvs.length≤sizeLine∧(p == sysModules)=false∧∃ vs,KV kvs vs∧s.heap.DictOf (iV X.prog X.w) p vs:=I.hok p _ hx
   have hlen:kvs.length=vs.length:=Paired.length r
   exact wpAny_truthy_dict hS m (by omega) ⟨H,I.tok _,by rw [kG r]; exact q⟩
 | _=>exact (show False from e).elim
theorem oQ (ha:PE X a ta) (he:∀ whole,isTrue a X.env whole=(do let v ← whole; standAt a.pos; holding [v] (truthy v))) :
 PT X a (fun σ H Q=>ta σ H fun x H'=>∃ k,TruV X.K x H' k∧Q k H'):=by
 (try refine ⟨?_⟩); intro pins s σ H Q I h
 exact isTrue_plain (thn (ha pins s σ H _ I h) fun v s1 ⟨x,H1,I1,r1,q1⟩=>uo pins s1 σ H1 x v Q I1 r1 q1) (he _)
theorem cH {x:V} {us:List Value} (r:aN [x] us):∃ u,us=[u]∧a7 x u:=by
 cases r with
 | cons r1 r2=>cases r2; exact ⟨_,rfl,r1⟩
theorem lC {x y:V} {us:List Value} (r:aN [x,y] us):∃ u w',us=[u,w']∧a7 x u∧a7 y w':=by
 cases r with
 | cons r1 r2 =>
  cases r2 with
  | cons r3 r4=>cases r4; exact ⟨_,_,rfl,r1,r3⟩
theorem oI:bX X (.builtin "abs") (fun xs H Q=>∃ i,xs=[.int i]∧Q (.int (if i<0 then -i else i)) H):=by
 (try refine ⟨?_⟩); intro pins s σ H xs us Q I r h
 obtain ⟨i,rfl,q⟩:=h
 obtain ⟨u,rfl,t,rfl⟩:=cH r
 exact call_abs_int fun u tk=>⟨.int (if i<0 then -i else i),H,I.tok _,⟨_,rfl⟩,q⟩
theorem ir (hc:X.calm=true):bX X (.builtin "max") (fun xs H Q=>∃ i j,xs=[.int i,.int j]∧Q (.int (if j > i then j else i)) H):=by
 (try refine ⟨?_⟩); intro pins s σ H xs us Q I r h
 obtain ⟨i,j,rfl,q⟩:=h
 obtain ⟨u,w',rfl,⟨t,rfl⟩,⟨t',rfl⟩⟩:=lC r
 refine max_two_ints (I.ok.hd hc) fun h' tk k=>⟨_,H,I.kept k,?_,q⟩
 by_cases hj:j > i
 ·rw [if_pos hj,if_pos hj]; exact ⟨_,rfl⟩
 ·rw [if_neg hj,if_neg hj]; exact ⟨_,rfl⟩
theorem ie (hc:X.calm=true):bX X (.builtin "min") (fun xs H Q=>∃ i j,xs=[.int i,.int j]∧Q (.int (if j<i then j else i)) H):=by
 (try refine ⟨?_⟩); intro pins s σ H xs us Q I r h
 obtain ⟨i,j,rfl,q⟩:=h
 obtain ⟨u,w',rfl,⟨t,rfl⟩,⟨t',rfl⟩⟩:=lC r
 refine min_two_ints (I.ok.hd hc) fun h' tk k=>⟨_,H,I.kept k,?_,q⟩
 by_cases hj:j<i
 ·rw [if_pos hj,if_pos hj]; exact ⟨_,rfl⟩
 ·rw [if_neg hj,if_neg hj]; exact ⟨_,rfl⟩
theorem ik:bX X (.type "int") (fun xs H Q=>(∃ i,xs=[.int i]∧Q (.int i) H)∨∃ k,xs=[.bl k]∧Q (.int (if k then 1 else 0)) H):=by
 (try refine ⟨?_⟩); intro pins s σ H xs us Q I r h
 rcases h with ⟨i,rfl,q⟩ | ⟨k,rfl,q⟩
 ·obtain ⟨u,rfl,t,rfl⟩:=cH r
  exact call_int_int ⟨.int i,H,I,⟨_,rfl⟩,q⟩
 ·obtain ⟨u,rfl,r1⟩:=cH r
  cases r1
  exact call_int_bool ⟨.int (if k then 1 else 0),H,I.tok _,⟨_,rfl⟩,q⟩
theorem bQ:bX X (.type "str") (fun xs H Q=>∃ i,xs=[.int i]∧i.natAbs.log2<1920∧Q (.str (toString i)) H):=by
 (try refine ⟨?_⟩); intro pins s σ H xs us Q I r h
 obtain ⟨i,rfl,hz,q⟩:=h
 obtain ⟨u,rfl,t,rfl⟩:=cH r
 exact PySem.P.str_of_int hz ⟨.str _,H,I.tok _,⟨_,rfl⟩,q⟩
end
structure ObjM (h:Heap) (x dx C:Addr) (mA:Str→Option Value):Prop where
 obj:h.get? x=some (PySem.W.instObj C dx)
 ns:h.Ns1 dx mA
 ne:dx≠x
theorem l_ {h:Heap} {dx:Addr} {mA:Str→Option Value} (n:h.Ns1 dx mA):∃ od,h.get? dx=some od∧∀ name,PySem.W.lookIn name od=some (mA name):=by
 obtain ⟨o,es,ep,ho,hd,hk,_,hm⟩:=n
 refine ⟨o,ho,fun name=>?_⟩
 have e:=hm name
 unfold nsFind findBy at e
 rw [← Array.find?_toList] at e
 unfold PySem.W.lookIn
 rw [hd]
 dsimp only
 split
 ·rename_i y q
  rw [q] at e
  exact congrArg some e
 ·rename_i q
  rw [q] at e
  have a:es.toList.any (·.refKey)=false:=by
   rw [List.any_eq_false]
   intro y hy
   obtain ⟨z,t,hkey⟩:=hk y (Array.mem_toList_iff.mp hy)
   simp [DictEntry.refKey,hkey]
  have a' : ¬ es.toList.any (·.refKey)=true:=by rw [a]; exact Bool.false_ne_true
  rw [if_neg a']
  exact congrArg some e
theorem ObjM.look {h:Heap} {x dx C:Addr} {mA:Str→Option Value} (I:ObjM h x dx C mA):∃ od,PySem.W.InstAt h x (PySem.W.instObj C dx) C (some od)∧∀ name,PySem.W.lookIn name od=some (mA name) :=
 let ⟨od,ho,hl⟩:=l_ I.ns
 ⟨od,⟨I.obj,rfl,rfl,ho⟩,hl⟩
section
variable {prog:Program} {w:World} {A:Around} {E:Value→Shared→Prop} {s:Shared} {K:PySem.W.Frag} {x dx C f:Addr} {mA:Str→Option Value} {name:Str} {v:Value}
end
section
variable {P:Program} {w:World} {H H':Hp} {h h':Heap} {a C dx:Addr} {fs fs':List (Str×V)}
theorem sy (hok:HOk P w H h) (e:H a=some (.ins C dx fs)):∃ mA,ObjM h a dx C mA∧(∀ f,RelO (fs.lookup f) (mA f))∧PySem.Within mA (fs.map (·.1))∧fs.length≤1000∧H dx=some (.own a):=by
 obtain ⟨d,z,ne,ob,mA,n,r,q⟩:=(show bJ P w H h a (.ins C dx fs) from hok a _ e)
 exact ⟨mA,⟨ob,n,ne⟩,r,q,z,d⟩
end
structure Cls (K:PySem.W.Frag) (C:Addr):Prop where
 pg:PySem.W.plainGet K C Str.empty=true
 hd:PySem.W.hasDictIn K C=true
 po:PySem.W.plainOver K C=true
 sa:PySem.W.findIn K (.ref C) "__setattr__" = some (some (.builtin "object.__setattr__"))
theorem Cls.get {K:PySem.W.Frag} {C:Addr} (c:Cls K C) (f:Str):PySem.W.plainGet K C f=true:=c.pg
section
variable {X:Cx} {pins:List (Addr×Obj)} {σ:St} {H:Hp} {s:Shared} {a C dx:Addr} {fs:List (Str×V)} {f:Str} {v:V} {A:Around} {E:Value→Shared→Prop}
end
section
variable {X:Cx} {o e value:Expr} {f:Str} {pos pos' tpos:Pos} {ta tv:TE}
end
section
variable {X:Cx} {pins:List (Addr×Obj)} {σ:St} {H:Hp} {s:Shared} {A:Around} {E:Value→Shared→Prop} {Q:Value→Shared→Prop} {c:Value} {b:Bool}
inductive TyOf (K:PySem.W.Frag) (H:Hp):V→Value→Prop where
 | non:TyOf K H .non (.type "NoneType")
 | bl (x:Bool):TyOf K H (.bl x) (.type "bool")
 | int (i:Int):TyOf K H (.int i) (.type "int")
 | str (x:Str):TyOf K H (.str x) (.type "str")
 | flt (x:UInt64):TyOf K H (.flt x) (.type "float")
 | lst {a:Addr} {xs:List V} (e:H a=some (.lst xs)):TyOf K H (.ref a) (.type "list")
 | frz {a:Addr} {o:Obj} {xs:List V} (e:H a=some (.frz o (.lst xs))):TyOf K H (.ref a) (.type "list")
 | tup {a:Addr} {xs:List V} (e:H a=some (.tup xs)):TyOf K H (.ref a) (.type "tuple")
 | dK {a:Addr} {kvs:List (Key×V)} (e:H a=some (.dK kvs)):TyOf K H (.ref a) (.type "dict")
 | dT {a:Addr} {kvs:List (List Key×V)} (e:H a=some (.dT kvs)):TyOf K H (.ref a) (.type "dict")
 | ins {a C dx:Addr} {fs:List (Str×V)} (e:H a=some (.ins C dx fs)) (cl:Cls K C) (ha:PySem.W.findIn K (.ref C) "__class__" = some (some (.builtin "object.__class__")))
  (hn:PySem.W.specialIn K (.builtin "object.__class__") "__get__" = some (some (.builtin "getset_descriptor.__get__"))) (htk:PySem.W.takesIn K (.builtin "object.__class__")=some true)
  (hm:PySem.W.mroIn K C (.type "object")=some true):TyOf K H (.ref a) (.ref C)
theorem mD {x:V} {u t:Value} (I:Inv X pins σ H s) (rx:a7 x u) (ty:TyOf X.K H x t) (e:PySem.W.kitOne X.K t c=some b) (h:∀ tk,Q (.bool b) { s with toks:=tk }) :
 wpAny (model X.prog X.w) A (call (.builtin "isinstance") [u,c]) Q E s:=by
 cases ty with
 | non=>cases (show u=Value.none from rx); exact PySem.W.kia_one PySem.W.kitx_none I.kIn True.intro e (fun z=>nomatch z) h
 | bl y=>cases (show u=Value.bool y from rx); exact PySem.W.kia_one PySem.W.kitx_bool I.kIn True.intro e (fun z=>nomatch z) h
 | int i=>obtain ⟨t,q⟩:=(show ∃ t,u=Value.int i t from rx); cases q; exact PySem.W.kia_one PySem.W.kitx_int I.kIn True.intro e (fun z=>nomatch z) h
 | str y=>obtain ⟨t,q⟩:=(show ∃ t,u=Value.str y t from rx); cases q; exact PySem.W.kia_one PySem.W.kitx_str I.kIn True.intro e (fun z=>nomatch z) h
 | flt y=>obtain ⟨t,q⟩:=(show ∃ t,u=Value.float y t from rx); cases q; exact PySem.W.kia_one PySem.W.kitx_float I.kIn True.intro e (fun z=>nomatch z) h
 | @lst a xs ea =>
  cases (show u=Value.ref a from rx)
  obtain ⟨_,_,n,_,h1⟩:=(show bJ X.prog X.w H s.heap a (.lst xs) from I.hok a _ ea)
  exact PySem.W.kia_one PySem.W.kitx_list I.kIn ⟨_,h1,rfl⟩ e (fun z=>nomatch z) h
 | @frz a ob xs ea =>
  cases (show u=Value.ref a from rx)
  obtain ⟨_,_,_,n,_,h1⟩:=(show bJ X.prog X.w H s.heap a (.frz ob (.lst xs)) from I.hok a _ ea)
  exact PySem.W.kia_one PySem.W.kitx_list I.kIn ⟨_,h1,rfl⟩ e (fun z=>nomatch z) h
 | @tup a xs ea =>
  cases (show u=Value.ref a from rx)
  obtain ⟨_,_,_,p⟩:=(show bJ X.prog X.w H s.heap a (.tup xs) from I.hok a _ ea)
  obtain ⟨o,h1,h2,_⟩:=p
  exact PySem.W.kia_one PySem.W.kitx_tuple I.kIn ⟨o,h1,h2⟩ e (fun z=>nomatch z) h
 | @dK a kvs ea =>
  cases (show u=Value.ref a from rx)
  obtain ⟨_,_,vs,_,p⟩:=(show bJ X.prog X.w H s.heap a (.dK kvs) from I.hok a _ ea)
  obtain ⟨o,es,ep,h1,h2,_⟩:=p
  exact PySem.W.kia_one PySem.W.kitx_dict I.kIn ⟨o,h1,h2.1⟩ e (fun z=>nomatch z) h
 | @dT a kvs ea =>
  cases (show u=Value.ref a from rx)
  obtain ⟨_,_,xs,_,o,es,ep,h1,h2,_⟩:=(show bJ X.prog X.w H s.heap a (.dT kvs) from I.hok a _ ea)
  exact PySem.W.kia_one PySem.W.kitx_dict I.kIn ⟨o,h1,h2.1⟩ e (fun z=>nomatch z) h
 | @ins a C dx fs ea cl ha hn htk hm =>
  cases (show u=Value.ref a from rx)
  obtain ⟨mA,O,_⟩:=sy I.hok ea
  obtain ⟨od,J,_⟩:=O.look
  exact PySem.W.kia_one (PySem.W.kitx_own (cl.get _) cl.hd ha hn htk hm) I.kIn J e (fun z=>nomatch z) h
end
structure Room (k:Nat) (A:Around):Prop where
 hd:A.handled=none
 dp:A.depth + 3 * k + 5<recursionLimit
 un:A.units + 16 * k + 200<cLine
 gd:A.guards=some []
theorem Room.mono {j k:Nat} {A:Around} (r:Room k A) (h:j≤k):Room j A:=⟨r.hd,by have:=r.dp; omega,by have:=r.un; omega,r.gd⟩
theorem Room.deeper {k:Nat} {A:Around} (r:Room (k + 1) A) (env:Env):Room k (A.deeper env) :=
 ⟨r.hd,by have:=r.dp; show A.depth + 1 + 3 * k + 5<_; omega,by have:=r.un; show A.units + 3 + 16 * k + 200<_; omega,r.gd⟩
theorem Room.in1 {k:Nat} {A:Around} (r:Room (k + 1) A):Room k A.in1 :=
 ⟨r.hd,by have:=r.dp; show A.depth + 3 * k + 5<_; omega,by have:=r.un; show A.units + 1 + 16 * k + 200<_; omega,r.gd⟩
theorem Room.depth {k:Nat} {A:Around} (r:Room k A):A.depth<recursionLimit:=by have:=r.dp; omega
theorem Room.units {k:Nat} {A:Around} (r:Room k A):A.units + 64<cLine:=by have:=r.un; omega
def tNil:TA:=fun _ H Q=>Q [] H
def tCons (ta:TE) (tr:TA):TA:=fun σ H Q=>ta σ H fun x H1=>tr σ H1 fun xs H2=>Q (x :: xs) H2
section
variable {X:Cx} {e:Expr} {es:List Expr} {te:TE} {t:TA} {pos:Pos}
theorem dr:PA X [] tNil:=⟨fun _ _ _ _ H Q I h=>Calls.spliced_nil ⟨[],H,I,.nil,h⟩⟩
theorem bK (ha:PE X e te) (hr:PA X es t) (hs:starEach (e :: es) X.env=(false,eval e X.env) :: starEach es X.env:=by rfl):PA X (e :: es) (tCons te t):=by
 (try refine ⟨?_⟩); intro pos pins s σ H Q I h
 rw [hs]
 show wpAny _ _ (spliced ((false,eval e X.env) :: backTo pos (starEach es X.env))) _ _ s
 refine Calls.spliced_cons (thn (ha pins s σ H _ I h) fun u s1 ⟨x,H1,I1,r1,q1⟩=>?_)
 exact thn (hr pos pins s1 σ H1 _ I1 q1) fun us s2 ⟨xs,H2,I2,r2,q2⟩=>⟨x :: xs,H2,I2,.cons r1 r2,q2⟩
def tTup (t:TA):TE:=fun σ H Q=>t σ H fun xs H1=>xs.length≤sizeLine∧∀ p,H1 p=none→Q (.ref p) (upd H1 p (.tup xs))
def tLst (t:TA):TE:=fun σ H Q=>t σ H fun xs H1=>xs.length≤sizeLine∧∀ p,H1 p=none→Q (.ref p) (upd H1 p (.lst xs))
theorem qA {x1} (h:PA X es t):PE X (.Tuple es x1 pos) (tTup t):=by
 (try refine ⟨?_⟩); intro pins s σ H Q I hq
 refine wpAny_Tuple_spliced (thn (h pos pins s σ H _ I hq) fun us s1 ⟨xs,H1,I1,r,z,q⟩=>⟨by rw [← r.length]; exact z,?_⟩)
 have hf:H1 s1.heap.objs.size=none:=I1.hok.fresh (Nat.le_refl _)
 refine ⟨.ref s1.heap.objs.size,upd H1 s1.heap.objs.size (.tup xs),I1.laid (t':=s1.toks) (fun b u e=>Heap.get?_push_of_some _ e) (Nat.le_refl _) ?_,rfl,q _ hf⟩
 exact ⟨z,us,r,⟨_,Heap.get?_push_size _ rfl,rfl,_,rfl⟩⟩
theorem om (h:PA X es t):PE X (.List es pos) (tLst t):=by
 (try refine ⟨?_⟩); intro pins s σ H Q I hq
 refine wpAny_List_spliced (thn (h pos pins s σ H _ I hq) fun us s1 ⟨xs,H1,I1,r,z,q⟩=>⟨by rw [← r.length]; exact z,?_⟩)
 have hf:H1 s1.heap.objs.size=none:=I1.hok.fresh (Nat.le_refl _)
 refine ⟨.ref s1.heap.objs.size,upd H1 s1.heap.objs.size (.lst xs),I1.laid (t':=s1.toks) (fun b u e=>Heap.get?_push_of_some _ e) (Nat.le_refl _) ?_,rfl,q _ hf⟩
 exact ⟨z,us,0,r,Heap.get?_push_size _ rfl⟩
end
abbrev Sp:=List V→Hp→VK→XK→Prop
abbrev CXT:=List Env→Hp→Shared→XK→Value→Shared→Prop
structure Env0 (P:Program) (w:World) (K:PySem.W.Frag) (mg:Str→Option Value) (base:Heap) (A:Around) (outer:List Env) (s:Shared) (H:Hp):Prop where
 frames:A.frames=some outer
 mod:Mod K mg base
 bs:∀ b o,base.get? b=some o→s.heap.get? b=some o∧H b=none
 bsz:base.objs.size≤s.heap.objs.size
 funs:s.heap.FunFrames base outer
 frf:∀ b∈frs outer,H b=none
 hok:HOk P w H s.heap
 bare:AllBare s.gens
 tb:TbM base H
def CE (outer:List Env) (P:Program) (w:World) (H:Hp) (s:Shared) (Q:VK) (u:Value) (s':Shared):Prop :=
 ∃ v H',s'.os=s.os∧AllBare s'.gens∧Un (frs outer) [] H H' s.heap s'.heap∧HOk P w H' s'.heap∧a7 v u∧Q v H'
def CR (CX:CXT) (outer:List Env) (P:Program) (w:World) (H:Hp) (s:Shared) (Q:VK) (E:XK) (r:Result) (s':Shared):Prop :=
 match r with
 | .ok (.ret u)=>CE outer P w H s Q u s'
 | .ok _=>False
 | .error e=>CX outer H s E e s'
structure FnOk (P:Program) (w:World) (K:PySem.W.Frag) (mg:Str→Option Value) (base:Heap) (CX:CXT) (k:Nat) (f:Addr) (fd:FuncData) (ps:List Str) (sp:Sp):Prop where
 len:∀ vs H Q E,sp vs H Q E→vs.length=ps.length
 run:∀ (A:Around) (outer:List Env) (s:Shared) (H:Hp) (args:Args) (us:List Value) (vs:List V) (Q:VK) (E:XK),Room k A→Env0 P w K mg base A outer s H→BindsTo s fd args (ps.zip us)→aN vs us→sp vs H Q E →
  codeAny (model P w) A (.call (.ref f) args) (CR CX outer P w H s Q E) s
theorem FnOk.imp {P:Program} {w:World} {K:PySem.W.Frag} {mg:Str→Option Value} {base:Heap} {CX:CXT} {k:Nat} {f:Addr} {fd:FuncData} {ps:List Str} {sp sp':Sp} (F:FnOk P w K mg base CX k f fd ps sp)
 (h:∀ vs H Q E,sp' vs H Q E→sp vs H Q E):FnOk P w K mg base CX k f fd ps sp' :=
 ⟨fun vs H Q E q=>F.len vs H Q E (h _ _ _ _ q),fun A outer s H args us vs Q E hr he hb hv hs=>F.run A outer s H args us vs Q E hr he hb hv (h _ _ _ _ hs)⟩
section
variable {X:Cx} {pins:List (Addr×Obj)} {σ:St} {H:Hp} {s s':Shared}
theorem Inv.env0 (I:Inv X pins σ H s):Env0 X.prog X.w X.K X.mg X.base X.A X.stack s H :=
 ⟨I.ok.frames,I.ok.mod,I.bs,Nat.le_trans I.ok.bsz I.sz,I.stack,I.stkFree,I.hok,I.bare,I.ok.tb.un I.base⟩
theorem Inv.after {Q:VK} {u:Value} (I:Inv X pins σ H s) (h:CE X.stack X.prog X.w H s Q u s'):EP X pins σ Q u s':=by
 obtain ⟨v,H',os,bare,un,hok,r,q⟩:=h
 obtain ⟨hh,g,d,t,os'⟩:=s'
 obtain rfl:os'=s.os:=os
 exact ⟨v,H',I.call (h':=hh) (g':=g) (d':=d) (t':=t) (ch:=[]) un hok bare (fun b z=>absurd z (by simp)),r,q⟩
end
def tCall (sp:Sp) (dvs:List V) (E:XK) (t:TA):TE:=fun σ H Q=>t σ H fun vs H1=>sp (vs++dvs) H1 Q E
def fX (K:PySem.W.Frag) (fd:FuncData) (ps:List Str) (ds:List Value):Prop :=
 ∀ (s:Shared) (us:List Value),K.In s.heap→(us++ds).length=ps.length→BindsTo s fd ⟨us,[]⟩ (ps.zip (us++ds))
theorem fX.all {K:PySem.W.Frag} {fd:FuncData} {ps:List Str} (h:∀ us:List Value,us.length=ps.length→bindArgs fd ⟨us,[]⟩=pure (ps.zip us)):fX K fd ps []:=fun s us _ hl=>by
 rw [List.append_nil] at hl ⊢
 exact .of_eq (h us hl)
def ku (CX:CXT) (X:Cx) (E:XK):Prop:=∀ (pins:List (Addr×Obj)) (σ:St) (H:Hp) (s:Shared) (e:Value) (s':Shared),Inv X pins σ H s→CX X.stack H s E e s'→X.xe e s'
section
variable {X:Cx} {CX:CXT} {k:Nat} {f C:Addr} {fd:FuncData} {ps:List Str} {sp:Sp} {dvs:List V} {ds:List Value} {E:XK} {x m:Str} {p pos apos:Pos} {e o:Expr} {es:List Expr} {ta:TE} {t:TA}
theorem uY {pins:List (Addr×Obj)} {σ:St} {H:Hp} {s:Shared} {Q:VK} {us:List Value} {vs:List V} (F:FnOk X.prog X.w X.K X.mg X.base CX k f fd ps sp) (hr:Room k X.A) (hb:fX X.K fd ps ds) (hd:aN dvs ds) (hx:ku CX X E)
 (I:Inv X pins σ H s) (r:aN vs us) (h:sp (vs++dvs) H Q E):wpAny (model X.prog X.w) X.A (call (.ref f) us) (EP X pins σ Q) X.xe s:=by
 have r2:aN (vs++dvs) (us++ds):=r.append hd
 have hl:(us++ds).length=ps.length:=by rw [← r2.length]; exact F.len _ _ _ _ h
 refine wpAny_call (codeAny_mono (F.run X.A X.stack s H ⟨us,[]⟩ (us++ds) (vs++dvs) Q E hr I.env0 (hb s us I.kIn hl) r2 h) fun r s' hq=>?_)
 cases r with
 | error e=>exact hx pins σ H s e s' I hq
 | ok fl =>
  cases fl with
  | ret u=>exact I.after hq
  | next=>exact False.elim hq
  | brk=>exact False.elim hq
  | cont=>exact False.elim hq
theorem l6 (F:FnOk X.prog X.w X.K X.mg X.base CX k f fd ps sp) (hr:Room k X.A) (hg:Gl X x) (hm:X.mg x=some (.ref f)) (hk:PySem.W.keepIn X.K (.ref f)=true) (hb:fX X.K fd ps ds) (hd:aN dvs ds) (hx:ku CX X E)
 (ha:PA X (e :: es) t) (hdb:(x == ("__debug__":Str))=false:=by decide) (he:starEach (e :: es) X.env=(false,eval e X.env) :: starEach es X.env:=by rfl) (hpl:(backTo pos (starEach es X.env)).any (·.1)=false:=by rfl) :
 PE X (.Call (.Name x p) (e :: es) [] pos) (tCall sp dvs E t):=by
 (try refine ⟨?_⟩); intro pins s σ H Q I h
 refine wpAny_Call_Name_kw (lr I hg hm ?_ hdb)
 refine PySem.W.callWith_K (h₀:=X.base) I.ok.mod.kin hk (thn (ha pos pins s σ H _ I h) fun us s1 ⟨vs,H1,I1,r,q⟩=>⟨I1.kIn,?_⟩) he hpl
 exact uY F hr hb hd hx I1 r q
end
section
variable {X:Cx} {CX:CXT} {k:Nat} {f C:Addr} {fd:FuncData} {ps ks:List Str} {sp:Sp} {E:XK} {x m:Str} {p pos apos kpos:Pos} {e o:Expr} {es:List Expr} {kws:List Keyword} {te ta:TE} {t tk:TA} {nm:Option Str}
variable {g:List Value→List Value→List Value} {gV:List V→List V→List V}
end
structure FnScope (N P:List Str) (sc:Scope):Prop where
 kind:sc.kind = .function
 co:sc.isCoroutine=false
 gen:sc.isGenerator=false
 nd:N.Nodup
 pre:N.take P.length=P
 par:∀ x∈P,sc.names.lookup x=some .local∨sc.names.lookup x=some .cell
 nofree:∀ y∈sc.names,y.2≠.free
theorem h_ {kindOf:Str→Option NameKind} {x:Str}:∀ {binds:List (Str×Value)} {m:Str→Option Value},(∀ v,(x,v) ∉ binds)→bindL kindOf binds m x=m x
 | [],_,_=>rfl
 | (n,v) :: r,m,h=>by
  unfold bindL
  rw [h_ fun w hw=>h w (List.mem_cons_of_mem _ hw)]
  split
  ·have:x≠n:=by rintro rfl; exact h v List.mem_cons_self
   simp [this]
  ·rfl
theorem io {kindOf:Str→Option NameKind} {x:Str}:∀ {binds:List (Str×Value)} {m:Str→Option Value},(∀ v,(x,v) ∉ binds)→bindC kindOf binds m x=m x
 | [],_,_=>rfl
 | (n,v) :: r,m,h=>by
  unfold bindC
  rw [io fun w hw=>h w (List.mem_cons_of_mem _ hw)]
  split
  ·rfl
  ·have:x≠n:=by rintro rfl; exact h v List.mem_cons_self
   simp [this]
theorem il {kindOf:Str→Option NameKind} {x:Str} {v:Value}:∀ {P:List Str} {vs:List Value} {i:Nat} {m:Str→Option Value},P.Nodup→P[i]? = some x→vs[i]? = some v→kindOf x=some .local →
 bindL kindOf (P.zip vs) m x=some v
 | [],_,_,_,_,h,_,_=>by simp at h
 | _ :: _,[],_,_,_,_,h,_=>by simp at h
 | p :: P,w :: vs,0,m,nd,h1,h2,hk=>by
  simp at h1 h2; subst h1; subst h2
  show bindL kindOf ((p,w) :: P.zip vs) m p=_
  unfold bindL
  rw [h_ fun v hv=>(List.nodup_cons.mp nd).1 (List.of_mem_zip hv).1,if_pos hk]
  simp
 | p :: P,w :: vs,i + 1,m,nd,h1,h2,hk=>by
  show bindL kindOf ((p,w) :: P.zip vs) m x=_
  unfold bindL
  exact il (i:=i) (List.nodup_cons.mp nd).2 (by simpa using h1) (by simpa using h2) hk
theorem iq {kindOf:Str→Option NameKind} {x:Str} {v:Value}:∀ {P:List Str} {vs:List Value} {i:Nat} {m:Str→Option Value},P.Nodup→P[i]? = some x→vs[i]? = some v→kindOf x≠some .local →
 bindC kindOf (P.zip vs) m x=some v
 | [],_,_,_,_,h,_,_=>by simp at h
 | _ :: _,[],_,_,_,_,h,_=>by simp at h
 | p :: P,w :: vs,0,m,nd,h1,h2,hk=>by
  simp at h1 h2; subst h1; subst h2
  show bindC kindOf ((p,w) :: P.zip vs) m p=_
  unfold bindC
  rw [io fun v hv=>(List.nodup_cons.mp nd).1 (List.of_mem_zip hv).1,if_neg hk]
  simp
 | p :: P,w :: vs,i + 1,m,nd,h1,h2,hk=>by
  show bindC kindOf ((p,w) :: P.zip vs) m x=_
  unfold bindC
  exact iq (i:=i) (List.nodup_cons.mp nd).2 (by simpa using h1) (by simpa using h2) hk
def cS (N:List Str) (vs:List V):St:=vs.map some++List.replicate (N.length - vs.length) none
def jh (CX:CXT) (P:Program) (w:World) (K:PySem.W.Frag) (mg:Str→Option Value) (base:Heap) (N:List Str) (qual:Str) (scope:Scope) (f:Addr) (cd:Value) (A:Around) (outer:List Env) (s:Shared) (H:Hp) (E:XK):Cx where
 prog:=P
 w:=w
 K:=K
 mg:=mg
 base:=base
 A:=A.deeper (envOfC qual scope s.heap.objs.size f cd)
 N:=N
 s₀:=s
 H₀:=H
 env:=envOfC qual scope s.heap.objs.size f cd
 outer:=outer
 stack:=envOfC qual scope s.heap.objs.size f cd :: outer
 ex:=[]
 calm:=true
 fn:=fun _=>true
 pn:=[]
 xe:=fun e s'=>wpAny (model P w) (A.deeper (envOfC qual scope s.heap.objs.size f cd)) (leaving (envOfC qual scope s.heap.objs.size f cd) e) (fun _ s''=>CX outer H s E e s'') (fun e' s''=>CX outer H s E e' s'') s'
theorem ju {sc:Scope} {n:Nat} {x:Str} (h:sc.names.lookup x=some .cell):∃ c,(cellsFrom n sc.names []).lookup x=some c:=by
 have q:=PySem.W.cellsFrom_some sc.names n [] (.inl h)
 exact Option.isSome_iff_exists.mp q
theorem mN {CX:CXT} {P:Program} {w:World} {K:PySem.W.Frag} {mg:Str→Option Value} {base:Heap} {N ps:List Str} {qual:Str} {scope:Scope} {f:Addr} {cd:Value} {A:Around} {outer:List Env} {s s1:Shared} {H:Hp} {E:XK} {us:List Value} {vs:List V}
 (S:FnScope N ps scope) (hd:A.handled=none) (e0:Env0 P w K mg base A outer s H) (hl:vs.length=ps.length) (r:aN vs us)
 (x:InCallC s s.heap.objs.size (bindL (envOfC qual scope s.heap.objs.size f cd).kindOf (ps.zip us) fun _=>none) (cellsFrom (s.heap.objs.size + 1) scope.names []) (bindC (envOfC qual scope s.heap.objs.size f cd).kindOf (ps.zip us) fun _=>none) s1) :
 Inv (jh CX P w K mg base N qual scope f cd A outer s H E) [] (cS N vs) H s1:=by
 have hpl:ps.length≤N.length:=by have:=congrArg List.length S.pre; rw [List.length_take] at this; omega
 obtain ⟨h1,tk,rfl,hk⟩:=x.done
 have noA:∀ b:Addr,b ∉ (jh CX P w K mg base N qual scope f cd A outer s H E).ex:=fun b z=>absurd (show b∈([]:List Addr) from z) (by simp)
 refine ⟨⟨e0.mod,S.kind,rfl,rfl,Nat.le_refl _,fun y z c h1 h2=>?_,fun y hy=>?_,fun y c _ h=>?_,fun _=>hd,Around.frames_deeper e0.frames,.inr ⟨rfl,rfl⟩,fun b z=>absurd z (noA b),e0.bs,e0.bsz,fun b _ _=>noA b,fun b z=>absurd z (noA b),e0.funs,e0.frf,e0.tb⟩,
  rfl,e0.bare,Un.kept hk,⟨_,x.toInCall.ns,fun i y v h1 h2 h3=>?_⟩,fun y c h=>⟨_,x.cell y c h⟩,e0.hok.fresh (Nat.le_refl _),fun y c h=>?_,fun p hp=>absurd (show p∈([]:List (Addr×Obj)) from hp) (by simp),e0.hok.kept hk,?_⟩
 ·exact name_of_addr x.apart (PySem.mem_of_lookup h1) (PySem.mem_of_lookup h2)
 ·have hy:scope.names.lookup y=some .cell∨scope.names.lookup y=some .free:=hy
  rcases hy with hy | hy
  ·exact ju hy
  ·exact absurd rfl (S.nofree _ (PySem.mem_of_lookup hy))
 ·exact Nat.le_of_lt (x.above y c (PySem.mem_of_lookup h))
 ·have hi:i<vs.length:=by
   unfold cS at h2
   by_cases hi:i<vs.length
   ·exact hi
   ·rw [List.getElem?_append_right (by simpa using hi)] at h2
    rw [List.getElem?_replicate] at h2
    split at h2 <;> cases h2
  have ha:vs[i]? = some v:=by
   unfold cS at h2
   rw [List.getElem?_append_left (by simpa using hi),List.getElem?_map] at h2
   cases e:vs[i]? with
   | none=>rw [e] at h2; cases h2
   | some a=>rw [e] at h2; cases h2; rfl
  obtain ⟨u,hu,rv⟩:=r.get ha
  have hp:ps[i]? = some y:=by
   rw [← S.pre,List.getElem?_take_of_lt (by omega)]; exact h1
  have ndP:ps.Nodup:=by rw [← S.pre]; exact S.nd.sublist (List.take_sublist _ _)
  refine ⟨u,rv,?_⟩
  rcases S.par y (List.mem_of_getElem? hp) with k | k
  ·exact .inl ⟨k,il ndP hp hu k⟩
  ·obtain ⟨c,e⟩:=ju (n:=s.heap.objs.size + 1) k
   refine .inr ⟨.inl k,c,e,?_⟩
   have q:=x.cell y c e
   rw [iq ndP hp hu (by show scope.names.lookup y≠_; rw [k]; decide)] at q
   exact q
 ·exact e0.hok.fresh (Nat.le_of_lt (x.above y c (PySem.mem_of_lookup h)))
 ·unfold cS
  show _=N.length
  rw [List.length_append,List.length_map,List.length_replicate]
  omega
theorem t5 {CX:CXT} {P:Program} {w:World} {K:PySem.W.Frag} {mg:Str→Option Value} {base:Heap} {k:Nat} {f:Addr} {name qual:Str} {params:Arguments} {body:List Stmt} {scope:Scope} {dV kV doc pm cdv ct oc:Value} {an od:Option Addr}
 {osl:Array (Option Value)} {N ps:List Str} {sp:Sp} (lk:K.lookup f=some ⟨oc,od,.func (PySem.W.fnOf name qual params body scope dV kV doc pm an cdv ct),osl⟩) (hcd:PySem.W.codeIn K cdv qual=true) (S:FnScope N ps scope)
 (len:∀ vs H Q E,sp vs H Q E→vs.length=ps.length)
 (hbody:∀ (A:Around) (outer:List Env) (s:Shared) (H:Hp) (vs:List V) (Q:VK) (E:XK),Room k (A.deeper (envOfC qual scope s.heap.objs.size f cdv))→sp vs H Q E →
  ∃ t,PSs (jh CX P w K mg base N qual scope f cdv A outer s H E) body t∧t { nx:=fun _ H'=>Q .non H',rt:=Q } (cS N vs) H) :
 FnOk P w K mg base CX (k + 1) f (PySem.W.fnOf name qual params body scope dV kV doc pm an cdv ct) ps sp:=by
 refine ⟨len,fun A outer s H args us vs Q E hr e0 hb r hsp=>?_⟩
 have hl:=len _ _ _ _ hsp
 have KX:K.In s.heap:=e0.mod.kin.keeps fun b o e=>(e0.bs b o e).1
 have lim:s.heap.NoLimit:=e0.mod.nolimit.keeps fun b o e=>(e0.bs b o e).1
 have hkind:∀ y∈ps.zip us,scope.names.lookup y.1=some .local∨(scope.names.lookup y.1=some .cell∧((cellsFrom (s.heap.objs.size + 1) scope.names []).lookup y.1).isSome=true):=fun ⟨n,v⟩ hy=>by
  rcases S.par n (List.of_mem_zip hy).1 with q | q
  ·exact .inl q
  ·exact .inr ⟨q,PySem.W.cellsFrom_some _ _ _ (.inl q)⟩
 refine codeAny_call_function hr.depth (KX _ _ lk) rfl S.co S.gen rfl (PySem.W.codeRec_of KX hcd) (hb _ _ _ _ ?_)
 refine wpAny_newFunctionEnv_cells S.kind hkind fun env he s1 x=>?_
 subst he
 refine ⟨lim.keeps x.toInCall.keep,codeAny_func ?_⟩
 obtain ⟨t,ht,hq⟩:=hbody A outer s H vs Q E (hr.deeper _) hsp
 have I:Inv (jh CX P w K mg base N qual scope f cdv A outer s H E) [] (cS N vs) H s1:=mN S hr.hd e0 hl r x
 refine wpAny_mono (ht [] s1 (cS N vs) H _ I hq) (fun fl s' hs=>?_) fun e s' hs=>hs
 have fin:∀ {σ':St} {H':Hp} {v:V} {u:Value},Inv (jh CX P w K mg base N qual scope f cdv A outer s H E) [] σ' H' s'→a7 v u→Q v H'→CE outer P w H s Q u s' :=
  fun {σ' H' v u} J rv q=>⟨v,H',J.os,J.bare,J.base,J.hok,rv,q⟩
 cases fl with
 | ret u =>
  obtain ⟨v,σ',H',J,rv,q⟩:=hs
  exact fin J rv q
 | next =>
  obtain ⟨σ',H',J,q⟩:=hs
  exact fin (v:=V.non) (u:=Value.none) J rfl q
 | brk =>
  obtain ⟨_,_,_,q⟩:=hs
  exact False.elim q
 | cont =>
  obtain ⟨_,_,_,q⟩:=hs
  exact False.elim q
section
variable {X:Cx} {x:Str} {p pos:Pos} {e:Expr} {es:List Expr} {t:TA} {id T:String} {r:List V→Hp→VK→Prop}
def tCB (r:List V→Hp→VK→Prop) (t:TA):TE:=fun σ H Q=>t σ H fun vs H1=>r vs H1 Q
theorem gr (hc:bX X (.builtin id) r) (hg:Gl X x) (hm:X.mg x=none) (hv:bootBuiltins x=some (.builtin id)) (ha:PA X (e :: es) t) (hn:x ≠ "__name__":=by decide) (hdb:(x == ("__debug__":Str))=false:=by decide)
 (he:starEach (e :: es) X.env=(false,eval e X.env) :: starEach es X.env:=by rfl) (hpl:(backTo pos (starEach es X.env)).any (·.1)=false:=by rfl):PE X (.Call (.Name x p) (e :: es) [] pos) (tCB r t):=by
 (try refine ⟨?_⟩); intro pins s σ H Q I h
 refine wpAny_Call_Name_kw (dD I hg hm hv ?_ hn hdb)
 exact PyProof.Rows.callWith_builtin1 (thn (ha pos pins s σ H _ I h) fun us s1 ⟨vs,H1,I1,r1,q1⟩=>hc pins s1 σ H1 vs us Q I1 r1 q1) he hpl
theorem fy (hc:bX X (.type T) r) (hg:Gl X x) (hm:X.mg x=none) (hv:bootBuiltins x=some (.type T)) (ha:PA X (e :: es) t) (hn:x ≠ "__name__":=by decide) (hdb:(x == ("__debug__":Str))=false:=by decide)
 (he:starEach (e :: es) X.env=(false,eval e X.env) :: starEach es X.env:=by rfl) (hpl:(backTo pos (starEach es X.env)).any (·.1)=false:=by rfl):PE X (.Call (.Name x p) (e :: es) [] pos) (tCB r t):=by
 (try refine ⟨?_⟩); intro pins s σ H Q I h
 refine wpAny_Call_Name_kw (dD I hg hm hv ?_ hn hdb)
 exact PyProof.Rows.callWith_type1 (thn (ha pos pins s σ H _ I h) fun us s1 ⟨vs,H1,I1,r1,q1⟩=>hc pins s1 σ H1 vs us Q I1 r1 q1) he hpl
end
end L2
namespace HT
open PySem PyProof.Rows
section
open PySem.SeqAt
open PySem.AutoSeq1 (wpAny_loadPart')
open PySem.MeetsSeq PySem.MeetsSeq2 PySem.MeetsSeq3
end
section
variable {prog:Program} {w:World} {A:Around} {E:Value→Shared→Prop} {s:Shared}
def sIx (n d:Nat):Option Int→Nat
 | none=>d
 | some v=>if v<0 then (v + (n:Int)).toNat else min v.toNat n
theorem sIx_none (n d:Nat):sIx n d none=d:=rfl
theorem sIx_nat (n d k:Nat):sIx n d (some (k:Int))=min k n:=by
 show (if (k:Int)<0 then ((k:Int) + (n:Int)).toNat else min (k:Int).toNat n)=min k n
 rw [if_neg (by omega),Int.toNat_natCast]
end
end HT
namespace L2
open PySem PySem.Spec PyProof.Rows
abbrev TO:=St→Hp→(Option Int→Hp→Prop)→Prop
structure PO (X:Cx) (e:Option Expr) (t:TO):Prop where
 go:∀ (pins:List (Addr×Obj)) (s:Shared) (σ:St) (H:Hp) (Q:Option Int→Hp→Prop),Inv X pins σ H s→t σ H Q →
  wpAny (model X.prog X.w) X.A (evalPart e X.env) (fun u s'=>∃ o H',Inv X pins σ H' s'∧IsPart u o∧Q o H') X.xe s
instance {X:Cx} {e:Option Expr} {t:TO}:CoeFun (PO X e t) fun _=>∀ (pins:List (Addr×Obj)) (s:Shared) (σ:St) (H:Hp) (Q:Option Int→Hp→Prop),Inv X pins σ H s→t σ H Q →
 wpAny (model X.prog X.w) X.A (evalPart e X.env) (fun u s'=>∃ o H',Inv X pins σ H' s'∧IsPart u o∧Q o H') X.xe s:=⟨fun h=>h.go⟩
def sV:TO:=fun _ H Q=>Q none H
def tPart (t:TE):TO:=fun σ H Q=>t σ H fun x H1=>∃ i,x = .int i∧Q (some i) H1
theorem gt {ns:List Int}:∀ {us:List Value},aN (ns.map V.int) us→IntsAre us ns:=by
 induction ns with
 | nil=>intro us r; rw [List.map_nil] at r; cases r; exact .nil
 | cons n ns ih =>
  intro us r
  rw [List.map_cons] at r
  cases r with
  | cons r1 r2 =>
   obtain ⟨t,e⟩:=r1
   subst e
   exact .cons n t (ih r2)
section
variable {X:Cx} {e:Expr} {te:TE} {lo hi:Option Expr} {tl th:TO} {pos p2:Pos}
theorem rT:PO X none sV:=by
 (try refine ⟨?_⟩); intro pins s σ H Q I h
 rw [evalPart_none]
 exact wpAny_pure ⟨none,H,I,.none,h⟩
theorem tE (h:PE X e te):PO X (some e) (tPart te):=by
 (try refine ⟨?_⟩); intro pins s σ H Q I hw
 rw [evalPart_some]
 refine thn (h pins s σ H _ I hw) fun u s1 ⟨x,H1,I1,r1,q1⟩=>?_
 obtain ⟨i,rfl,q⟩:=q1
 obtain ⟨t,rfl⟩:=r1
 exact ⟨some i,H1,I1,.int i t,q⟩
def SlR (X:Cx) (r:V→Option Int→Option Int→Hp→VK→Prop):Prop :=
 ∀ (pins:List (Addr×Obj)) (s:Shared) (σ:St) (H:Hp) (x:V) (v vl vu:Value) (lo hi:Option Int) (sl:Addr) (Q:VK),Inv X pins σ H s→a7 x v→s.heap.IsSliceOf sl vl vu .none→IsPart vl lo→IsPart vu hi→r x lo hi H Q →
  ∃ T id,typeLookup (.type T) "__getitem__" = pure (some (.builtin id))∧s.TypeIs v T∧wpAny (model X.prog X.w) X.A (getItem v (.ref sl)) (EP X pins σ Q) X.xe s
def tSl (r:V→Option Int→Option Int→Hp→VK→Prop) (te:TE) (tl th:TO):TE:=fun σ H Q=>te σ H fun x H1=>tl σ H1 fun l H2=>th σ H2 fun u H3=>r x l u H3 Q
theorem oM {r:V→Option Int→Option Int→Hp→VK→Prop} (hr:SlR X r) (he:PE X e te) (hl:PO X lo tl) (hu:PO X hi th):PE X (.Subscript e (.Slice lo hi none p2) pos) (tSl r te tl th):=by
 (try refine ⟨?_⟩); intro pins s σ H Q I h
 refine Subscript_ (thn (he pins s σ H _ I h) fun v s1 ⟨x,H1,I1,r1,q1⟩=>?_)
 refine wpAny_Slice (thn (hl pins s1 σ H1 _ I1 q1) fun vl s2 ⟨l,H2,I2,pl,q2⟩=>thn (hu pins s2 σ H2 _ I2 q2) fun vu s3 ⟨u,H3,I3,pu,q3⟩=>?_)
 rw [evalPart_none]
 refine wpAny_pure ?_
 have I4:Inv X pins σ H3 { s3 with heap:=s3.heap.push { cls:=.type "slice",data:=.fields #[vl,vu,.none] } }:=I3.kept (t':=s3.toks) fun b ob q=>Heap.get?_push_of_some _ q
 obtain ⟨T,id,hT,ht,hg⟩:=hr pins { s3 with heap:=s3.heap.push { cls:=.type "slice",data:=.fields #[vl,vu,.none] } } σ H3 x v vl vu l u s3.heap.objs.size Q I4 r1 (Heap.IsSliceOf.new ..) pl pu q3
 show wpAny (model X.prog X.w) X.A (subscriptTail e (.Slice lo hi none p2) v (.ref s3.heap.objs.size)) (EP X pins σ Q) X.xe { s3 with heap:=s3.heap.push { cls:=.type "slice",data:=.fields #[vl,vu,.none] } }
 exact tail_any (ops:=[.ref s3.heap.objs.size,v]) ht hT hg (by with_unfolding_all rfl)
def kF (xs:List V) (lo hi:Option Int):List V:=(xs.drop (HT.sIx xs.length 0 lo)).take (HT.sIx xs.length xs.length hi - HT.sIx xs.length 0 lo)
theorem jk (xs:List V) (lo hi:Option Int):(kF xs lo hi).length≤xs.length:=by
 unfold kF
 rw [List.length_take,List.length_drop]
 omega
end
def ixN (n:Nat) (i:Int):Option Nat:=if 0≤i then (if i<n then some i.toNat else none) else if -(n:Int)≤i then some (i + n).toNat else none
def atI {α:Type} (xs:List α) (i:Int):Option α:=(ixN xs.length i).bind fun j=>xs[j]?
theorem i7 {n:Nat} {i:Int} {j:Nat} (h:ixN n i=some j):seqIndex? i n=some j∧j<n∧-(n:Int)≤i∧i<n:=by
 unfold ixN at h
 by_cases h0 : 0≤i
 ·rw [if_pos h0] at h
  by_cases h1:i<n
  ·rw [if_pos h1] at h
   have e:i.toNat=j:=Option.some.inj h
   exact ⟨by rw [seqIndex_of h0 h1,e],by omega,by omega,h1⟩
  ·rw [if_neg h1] at h; cases h
 ·rw [if_neg h0] at h
  by_cases h1 : -(n:Int)≤i
  ·rw [if_pos h1] at h
   have e:(i + n).toNat=j:=Option.some.inj h
   exact ⟨by rw [seqIndex_neg (by omega) h1,e],by omega,h1,by omega⟩
  ·rw [if_neg h1] at h; cases h
theorem e_ {α:Type} {xs:List α} {i:Int} {v : α} (h:atI xs i=some v):∃ j,seqIndex? i xs.length=some j∧xs[j]? = some v∧j<xs.length∧-(xs.length:Int)≤i∧i<xs.length:=by
 unfold atI at h
 cases e:ixN xs.length i with
 | none=>rw [e] at h; cases h
 | some j =>
  rw [e] at h
  obtain ⟨h1,h2,h3,h4⟩:=i7 e
  exact ⟨j,h1,h,h2,h3,h4⟩
theorem d4 {α:Type} {xs:List α} {j:Nat} {v : α} (h:xs[j]? = some v):atI xs (j:Int)=some v:=by
 have hj:j<xs.length:=(List.getElem?_eq_some_iff.mp h).1
 have e:ixN xs.length (j:Int)=some j:=by
  unfold ixN
  rw [if_pos (by omega),if_pos (by omega)]; simp
 unfold atI; rw [e]; exact h
def iA (b:Expr):Prop:=∀ o i,subscripted b false o i=operate [o,i] (getItem o i)
def IxR (X:Cx) (r:R2):Prop :=
 ∀ (value slice:Expr) (pins:List (Addr×Obj)) (s:Shared) (σ:St) (H:Hp) (x y:V) (v u:Value) (Q:VK),Inv X pins σ H s→a7 x v→a7 y u→r x y H Q →
  subscripted slice false v u=operate [v,u] (getItem v u)→wpAny (model X.prog X.w) X.A (subscriptTail value slice v u) (EP X pins σ Q) X.xe s
def MtR (X:Cx) (id:String) (r:V→List V→Hp→VK→Prop):Prop :=
 ∀ (pins:List (Addr×Obj)) (s:Shared) (σ:St) (H:Hp) (x:V) (xs:List V) (v:Value) (us:List Value) (Q:VK),Inv X pins σ H s→a7 x v→aN xs us→r x xs H Q →
  wpAny (model X.prog X.w) X.A (call (.builtin id) (v :: us)) (EP X pins σ Q) X.xe s
section
variable {X:Cx} {a b:Expr} {ta tb:TE} {pos:Pos}
theorem IxR.or {r r':R2} (h:IxR X r) (h':IxR X r'):IxR X (fun x y H Q=>r x y H Q∨r' x y H Q):=by
 intro value slice pins s σ H x y v u Q I rx ry q hs
 rcases q with q | q
 ·exact h value slice pins s σ H x y v u Q I rx ry q hs
 ·exact h' value slice pins s σ H x y v u Q I rx ry q hs
theorem tS {r:R2} (hr:IxR X r) (ha:PE X a ta) (hb:PE X b tb) (hs:iA b):PE X (.Subscript a b pos) (tOp r ta tb):=by
 (try refine ⟨?_⟩); intro pins s σ H Q I h
 exact Subscript_ (binT ha hb I h fun v u s2 x y H2 I2 rx ry q=>hr a b pins s2 σ H2 x y v u Q I2 rx ry q (hs _ _))
def rIxL (K:PySem.W.Frag):R2:=fun x y H Q=>∃ p xs i v,x = .ref p∧y = .int i∧SqL K H p xs∧atI xs i=some v∧Q v H
def rIxT (K:PySem.W.Frag):R2:=fun x y H Q=>∃ p xs i v,x = .ref p∧y = .int i∧SqT K H p xs∧atI xs i=some v∧Q v H
def rIxS:R2:=fun x y H Q=>∃ z i c,x = .str z∧y = .int i∧z.length≤sizeLine∧atI z.cps.toList i=some c∧Q (.str ⟨#[c]⟩) H
theorem sQ:IxR X (rIxL X.K):=by
 intro value slice pins s σ H x y v u Q I rx ry h hs
 obtain ⟨p,xs,i,z,rfl,rfl,hq,he,q⟩:=h
 cases rx
 obtain ⟨t,rfl⟩:=ry
 obtain ⟨its,r,pl,hz⟩:=I.list hq
 obtain ⟨j,h1,h2,h3,h4,h5⟩:=e_ he
 obtain ⟨w,ew,rw'⟩:=r.get h2
 have hl:=r.length
 have hn:=eK
 have fin:EP X pins σ Q w s:=⟨z,H,I,rw',q⟩
 by_cases h0 : 0≤i
 ·have hj:i.toNat=j:=by
   rw [seqIndex_of h0 h5] at h1
   exact Option.some.inj h1
  exact item_listR pl.isList h0 (by omega) (by rw [hj]; simpa using ew) fin hs
 ·have hj:(i + (its.toArray.size:Int)).toNat=j:=by
   rw [seqIndex_neg (by omega) h4] at h1
   rw [List.size_toArray,← hl]
   exact Option.some.inj h1
  exact subscriptTail_builtinR (x:=w) pl.isList.typeIs slot_list_getitem.lookup
   (wpAny_getItem_list_neg (Q:=fun r s'=>r=w∧EP X pins σ Q r s') pl.isList (by omega) (by rw [List.size_toArray] <;> omega) (by omega) (by rw [hj]; simpa using ew) ⟨rfl,fin⟩) hs
theorem oK:IxR X (rIxT X.K):=by
 intro value slice pins s σ H x y v u Q I rx ry h hs
 obtain ⟨p,xs,i,z,rfl,rfl,hq,he,q⟩:=h
 cases rx
 obtain ⟨t,rfl⟩:=ry
 obtain ⟨its,r,pl,hz⟩:=I.tuple hq
 obtain ⟨j,h1,h2,h3,h4,h5⟩:=e_ he
 obtain ⟨w,ew,rw'⟩:=r.get h2
 have hl:=r.length
 have hn:=eK
 have fin:EP X pins σ Q w s:=⟨z,H,I,rw',q⟩
 exact subscriptTail_builtinR (x:=w) pl.typeIs slot_tuple_getitem.lookup
  (getItem_tuple (j:=j) (Q:=fun r s'=>r=w∧EP X pins σ Q r s') pl (by omega) (by omega) (by rw [List.size_toArray,← hl]; exact h1) (by simpa using ew) ⟨rfl,fin⟩) hs
theorem rK:IxR X rIxS:=by
 intro value slice pins s σ H x y v u Q I rx ry h hs
 obtain ⟨z,i,c,rfl,rfl,hz,he,q⟩:=h
 obtain ⟨t,rfl⟩:=rx
 obtain ⟨t',rfl⟩:=ry
 obtain ⟨j,h1,h2,h3,h4,h5⟩:=e_ he
 have hl:z.cps.toList.length=z.length:=by simp [Str.length]
 rw [hl] at h1 h4 h5
 have hn:=eK
 exact tail_any (typeIs_str s z t) slot_str_getitem.lookup (getItem_str (c:=c) (by
  have e1:decide (i < -(2 ^ 63:Int))=false:=decide_eq_false (by omega)
  have e2:decide (i ≥ 2 ^ 63)=false:=decide_eq_false (by omega)
  rw [e1,e2,Bool.or_false]) (by rw [h1]; simpa using h2) ⟨.str ⟨#[c]⟩,H,I.tok _,⟨_,rfl⟩,q⟩) hs
def rIx (K:PySem.W.Frag):R2:=fun x y H Q=>rIxL K x y H Q∨rIxT K x y H Q∨rIxS x y H Q
theorem ap:IxR X (rIx X.K):=sQ.or (oK.or rK)
theorem kW (its:List Value) (n j:Nat) (u:Value):Obj.mapSeq (·.setIfInBounds j u) { cls:=.type "list",data:=.seq its.toArray n } = { cls:=.type "list",data:=.seq (its.set j u).toArray n }:=by
 simp [Obj.mapSeq]
theorem Inv.lst {pins:List (Addr×Obj)} {σ:St} {H:Hp} {s:Shared} {p:Addr} {xs:List V} (I:Inv X pins σ H s) (h:H p=some (.lst xs)) :
 ∃ (its:List Value) (n:Nat),aN xs its∧s.heap.get? p=some { cls:=.type "list",data:=.seq its.toArray n }∧xs.length≤sizeLine:=by
 obtain ⟨z,its,n,r,e⟩:=I.hok p _ h
 exact ⟨its,n,r,e,z⟩
theorem Inv.lstUpd {pins:List (Addr×Obj)} {σ:St} {H:Hp} {s:Shared} {p:Addr} {xs ys:List V} {its its':List Value} {n n':Nat} {f:Obj→Obj} (I:Inv X pins σ H s) (h:H p=some (.lst xs))
 (ho:s.heap.get? p=some { cls:=.type "list",data:=.seq its.toArray n }) (hf:f { cls:=.type "list",data:=.seq its.toArray n } = { cls:=.type "list",data:=.seq its'.toArray n' }) (r:aN ys its') (hz:ys.length≤sizeLine) (t:Nat) :
 Inv X pins σ (upd H p (.lst ys)) { s with heap:=s.heap.update p f,toks:=t }:=by
 have e:(s.heap.update p f).get? p=some { cls:=.type "list",data:=.seq its'.toArray n' }:=by
  rw [Heap.get?_update_self f ho (by rw [hf] <;> rfl),hf]
 refine I.write (x:=p) (e:=p) (by rw [h]; trivial) (.inl rfl) (fun b u hb q=>(Heap.get?_update_other _ _ (Ne.symm hb)).trans q) ⟨_,e⟩ ?_
 exact ⟨hz,its',n',r,e⟩
def rSetL:V→V→V→Hp→(Hp→Prop)→Prop:=fun o i v H Q=>∃ p xs k j,o = .ref p∧i = .int k∧H p=some (.lst xs)∧ixN xs.length k=some j∧Q (upd H p (.lst (xs.set j v)))
theorem jt:PSet X rSetL:=by
 (try refine ⟨?_⟩); intro pins s σ H o i v ov iv u Q I ro ri rv h
 obtain ⟨p,xs,k,j,rfl,rfl,hp,hj,q⟩:=h
 cases ro
 obtain ⟨t,rfl⟩:=ri
 obtain ⟨its,n,r,ho,hz⟩:=I.lst hp
 obtain ⟨h1,h2,h3,h4⟩:=i7 hj
 have hl:=r.length
 have hn:=eK
 have I':Inv X pins σ (upd H p (.lst (xs.set j v))) { s with heap:=s.heap.update p (Obj.mapSeq (·.setIfInBounds j u)) } :=
  I.lstUpd hp ho (kW its n j u) (r.set rv j) (by rw [List.length_set]; exact hz) s.toks
 by_cases h0 : 0≤k
 ·have hk:k.toNat=j:=by
   rw [seqIndex_of h0 h4] at h1
   exact Option.some.inj h1
  exact PySem.W.ki_setAt ho h0 (by omega) (by rw [List.size_toArray,← hl]; exact h4) (by rw [hk]; exact ⟨_,I',q⟩)
 ·have hk:(k + (its.toArray.size:Int)).toNat=j:=by
   rw [seqIndex_neg (by omega) h3] at h1
   rw [List.size_toArray,← hl]
   exact Option.some.inj h1
  exact PySem.W.ki_setBack ho (by omega) (by rw [List.size_toArray,← hl]; exact h3) (by omega) (by rw [hk]; exact ⟨_,I',q⟩)
theorem iR (lo hi:Option Int) (n:Nat):(sliceBounds lo hi none n).1=((HT.sIx n 0 lo:Nat):Int)∧(sliceBounds lo hi none n).2.1=((HT.sIx n n hi:Nat):Int)∧(sliceBounds lo hi none n).2.2=1:=by
 refine ⟨?_,?_,rfl⟩
 ·cases lo with
  | none=>simp [sliceBounds,HT.sIx]
  | some i =>
   simp only [sliceBounds,HT.sIx,Option.getD_none,show (1:Int) > 0 by decide,if_true]
   by_cases h:i<0
   ·simp only [h,if_true] <;> omega
   ·simp only [h,if_false] <;> omega
 ·cases hi with
  | none=>simp [sliceBounds,HT.sIx]
  | some i =>
   simp only [sliceBounds,HT.sIx,Option.getD_none,show (1:Int) > 0 by decide,if_true]
   by_cases h:i<0
   ·simp only [h,if_true] <;> omega
   ·simp only [h,if_false] <;> omega
theorem g6 (its:List Value) (lo hi:Option Int):slicePick its.toArray lo hi none=((its.drop (HT.sIx its.length 0 lo)).take (HT.sIx its.length its.length hi - HT.sIx its.length 0 lo)).toArray:=by
 obtain ⟨h1,h2,h3⟩:=iR lo hi its.toArray.size
 unfold slicePick
 rw [h1,h2,h3]
 simp only [sliceRange_one,pick_run,List.size_toArray] <;> rfl
def rSlL (K:PySem.W.Frag):V→Option Int→Option Int→Hp→VK→Prop:=fun x lo hi H Q=>∃ a xs,x = .ref a∧SqL K H a xs∧∀ p,H p=none→Q (.ref p) (upd H p (.lst (kF xs lo hi)))
theorem sh:SlR X (rSlL X.K):=by
 (try refine ⟨?_⟩); intro pins s σ H x v vl vu lo hi sl Q I rx hs pl pu h
 obtain ⟨a,xs,rfl,hx,q⟩:=h
 cases rx
 obtain ⟨its,r,ht,hz⟩:=I.list hx
 have hlen:=r.length
 refine ⟨"list",_,slot_list_getitem.lookup,ht.isList.typeIs,?_⟩
 refine wpAny_getItem_list_slice ht.isList hs pl pu .none (by simp) ?_ (by rw [List.size_toArray] <;> omega)
 rw [g6,← hlen]
 refine ⟨.ref s.heap.objs.size,_,I.laid (t':=s.toks) (o:=.lst (kF xs lo hi)) (fun b ob q=>Heap.get?_push_of_some _ q) (Nat.le_refl _) ?_,rfl,q _ (I.hok.fresh (Nat.le_refl _))⟩
 exact ⟨Nat.le_trans (jk xs lo hi) hz,_,0,(r.drop (HT.sIx xs.length 0 lo)).take (HT.sIx xs.length xs.length hi - HT.sIx xs.length 0 lo),Heap.get?_push_size _ rfl⟩
theorem aI:bX X (.builtin "len") (fun xs H Q=>∃ p ys,xs=[.ref p]∧(SqL X.K H p ys∨SqT X.K H p ys)∧Q (.int ys.length) H):=by
 (try refine ⟨?_⟩); intro pins s σ H xs us Q I r h
 obtain ⟨p,ys,rfl,hq,q⟩:=h
 obtain ⟨u,rfl,rx⟩:=cH r
 cases rx
 have hn:=eK
 rcases hq with hq | hq
 ·obtain ⟨its,r',pl,hz⟩:=I.list hq
  have hlen:=r'.length
  exact Calls.call_len_list pl.isList (by simp only [List.size_toArray] <;> omega) ⟨.int ys.length,H,I.tok _,⟨s.toks + 1,by rw [List.size_toArray,hlen]⟩,q⟩
 ·obtain ⟨its,r',pl,hz⟩:=I.tuple hq
  have hlen:=r'.length
  exact len_tuple pl (by simp only [List.size_toArray] <;> omega) ⟨.int ys.length,H,I.tok _,⟨s.toks + 1,by rw [List.size_toArray,hlen]⟩,q⟩
theorem dA:bX X (.type "list") (fun xs H Q=>∃ p ys,xs=[.ref p]∧(SqL X.K H p ys∨SqT X.K H p ys)∧∀ l,H l=none→Q (.ref l) (upd H l (.lst ys))):=by
 (try refine ⟨?_⟩); intro pins s σ H xs us Q I r h
 obtain ⟨p,ys,rfl,hq,q⟩:=h
 obtain ⟨u,rfl,rx⟩:=cH r
 cases rx
 have fin:∀ (its:List Value),aN ys its→ys.length≤sizeLine→∀ (h':Heap) (c':Nat),(∀ b o',s.heap.get? b=some o'→h'.get? b=some o') →
  h'.get? s.heap.objs.size=some { cls:=.type "list",dict:=none,data:=.seq its.toArray c',slots:=#[] }→EP X pins σ Q (.ref s.heap.objs.size) { s with heap:=h' }:=fun its r' hz h' c' kp e =>
  ⟨.ref s.heap.objs.size,_,I.laid (t':=s.toks) kp (Nat.le_refl _) (show bJ X.prog X.w _ h' _ (.lst ys) from ⟨hz,its,c',r',e⟩),rfl,q _ (I.hok.fresh (Nat.le_refl _))⟩
 rcases hq with hq | hq
 ·obtain ⟨its,r',pl,hz⟩:=I.list hq
  have hlen:=r'.length
  obtain ⟨o,ho,hc,n,hd⟩:=pl.isList
  exact call_list_seq p (.inl rfl) ho hc hd (fun h' c' kp e=>fin its r' hz h' c' kp e) (by simp only [List.size_toArray] <;> omega)
 ·obtain ⟨its,r',pl,hz⟩:=I.tuple hq
  have hlen:=r'.length
  obtain ⟨o,ho,hc,n,hd⟩:=pl
  exact call_list_seq p (.inr rfl) ho hc hd (fun h' c' kp e=>fin its r' hz h' c' kp e) (by simp only [List.size_toArray] <;> omega)
def tyV (K:PySem.W.Frag) (T:String) (x:V) (H:Hp):Prop:=match x with
 | .str _=>T = "str"
 | .int _=>T = "int"
 | .ref p=>(T = "list" ∧ ∃ xs,SqL K H p xs)∨(T = "tuple" ∧ ∃ o,K.lookup p=some o∧o.cls = .type "tuple" ∧ o.dict=none) ∨
  (T = "dict" ∧ ((∃ kvs,H p=some (.dK kvs))∨∃ kvs,H p=some (.dT kvs)))∨(T = "set" ∧ ∃ S n,H p=some (.set S n))
 | _=>False
theorem o_ {pins:List (Addr×Obj)} {σ:St} {H:Hp} {s:Shared} {T:String} {x:V} {v:Value} (I:Inv X pins σ H s) (r:a7 x v) (ty:tyV X.K T x H) :
 s.TypeIs v T∧∀ a,v = .ref a→∃ ob,s.heap.get? a=some ob∧ob.dict=none:=by
 cases x with
 | str z =>
  obtain ⟨t,rfl⟩:=r
  cases (show T = "str" from ty)
  exact ⟨typeIs_str s z t,fun _ e=>nomatch e⟩
 | int i =>
  obtain ⟨t,rfl⟩:=r
  cases (show T = "int" from ty)
  exact ⟨typeIs_int s i t,fun _ e=>nomatch e⟩
 | ref p =>
  cases r
  rcases ty with ⟨rfl,xs,hq⟩ | ⟨rfl,o,hk,hc,hd⟩ | ⟨rfl,hk⟩ | ⟨rfl,S,n,hk⟩
  ·obtain ⟨its,_,pl,_⟩:=I.list hq
   refine ⟨pl.isList.typeIs,fun a e=>?_⟩
   cases e
   obtain ⟨o,n,e,c,hd,_⟩:=pl
   exact ⟨o,e,hd⟩
  ·refine ⟨⟨o,I.kIn p o hk,hc⟩,fun a e=>?_⟩
   cases e
   exact ⟨o,I.kIn _ o hk,hd⟩
  ·have z:∃ o,s.heap.get? p=some o∧o.ExactDict:=by
    rcases hk with ⟨kvs,hk⟩ | ⟨kvs,hk⟩
    ·obtain ⟨_,_,_,_,o,_,_,e,ex,_⟩:=I.hok p _ hk
     exact ⟨o,e,ex⟩
    ·obtain ⟨_,_,_,_,o,_,_,e,ex,_⟩:=I.hok p _ hk
     exact ⟨o,e,ex⟩
   obtain ⟨o,e,ex⟩:=z
   refine ⟨⟨o,e,ex.1⟩,fun a e2=>?_⟩
   cases e2
   exact ⟨o,e,ex.2.1⟩
  ·obtain ⟨o,_,_,_,e,ex,_⟩:=I.hok p _ hk
   refine ⟨⟨o,e,ex.1⟩,fun a e2=>?_⟩
   cases e2
   exact ⟨o,e,ex.2.1⟩
 | _=>exact False.elim ty
def tBM0 (K:PySem.W.Frag) (T:String) (r:V→List V→Hp→VK→Prop) (to:TE):TE:=fun σ H Q=>to σ H fun x H1=>tyV K T x H1∧r x [] H1 Q
def tBM (K:PySem.W.Frag) (T:String) (r:V→List V→Hp→VK→Prop) (to:TE) (t:TA):TE:=fun σ H Q=>to σ H fun x H1=>tyV K T x H1∧t σ H1 fun xs H2=>r x xs H2 Q
variable {o e:Expr} {es:List Expr} {to:TE} {t:TA} {name:Str} {apos cpos:Pos} {T id:String} {r:V→List V→Hp→VK→Prop}
theorem wt (pa:PlainAttrs T) (slot:Slot T name id) (hty:typeOf (.builtin id)=pure (.type "method_descriptor")) (hm:MtR X id r) (ho:PE X o to)
 (hbase:attributeBase o name X.env (eval o X.env)=eval o X.env:=by rfl) (hline:(apos.endLine == cpos.line)=true:=by rfl):PE X (.Call (.Attribute o name apos) [] [] cpos) (tBM0 X.K T r to):=by
 (try refine ⟨?_⟩); intro pins s σ H Q I h
 refine wpAny_Call_method0_late hbase hline (thn (ho pins s σ H _ I h) fun v s1 ⟨x,H1,I1,r1,ty,q1⟩=>?_)
 obtain ⟨h1,h2⟩:=o_ I1 r1 ty
 exact ⟨T,id,pa,slot,hty,h1,h2,Calls.callWith_builtin rfl (PySem.evalArgs_none (hm pins s1 σ H1 x [] v [] Q I1 r1 .nil q1))⟩
theorem lv (pa:PlainAttrs T) (slot:Slot T name id) (hty:typeOf (.builtin id)=pure (.type "method_descriptor")) (hm:MtR X id r) (ho:PE X o to) (ha:PA X (e :: es) t)
 (hbase:attributeBase o name X.env (eval o X.env)=eval o X.env:=by rfl)
 (hfew:((backTo cpos (starEach (e :: es) X.env)).all (fun x=>!x.1)&&(backToKw cpos (keywordEach [] X.env)).all (fun x=>x.1.isSome)
  && decide ((e :: es).length + ([]:List Keyword).length + (if ([]:List Keyword).isEmpty then 0 else 1)<30))=true:=by rfl)
 (hline:(apos.endLine == cpos.line)=true:=by rfl) (hs:starEach (e :: es) X.env=(false,eval e X.env) :: starEach es X.env:=by rfl) (hplain:(backTo cpos (starEach es X.env)).any (·.1)=false:=by rfl) :
 PE X (.Call (.Attribute o name apos) (e :: es) [] cpos) (tBM X.K T r to t):=by
 (try refine ⟨?_⟩); intro pins s σ H Q I h
 refine wpAny_Call_method_late hbase hfew hline rfl (thn (ho pins s σ H _ I h) fun v s1 ⟨x,H1,I1,r1,ty,q1⟩=>?_)
 obtain ⟨h1,h2⟩:=o_ I1 r1 ty
 refine ⟨T,id,pa,slot,hty,h1,h2,?_⟩
 have hA:=ha cpos pins s1 σ H1 _ I1 q1
 rw [hs] at hA ⊢
 refine Calls.callWith_builtin (by show (false||(backTo cpos (starEach es X.env)).any (·.1))=false; rw [hplain] <;> rfl) (Calls.evalArgs_plain ?_)
 exact thn hA fun us s2 ⟨vs,H2,I2,r2,q2⟩=>hm pins s2 σ H2 x vs v us Q I2 r1 r2 q2
/- xs.append(e),list.index on a module's tuple .. are MtR facts of 06m -/
end
def MtM (X:Cx) (id:String) (r:V→List V→Hp→VK→Prop):Prop :=
 ∀ (pins:List (Addr×Obj)) (s:Shared) (σ:St) (H:Hp) (x:V) (xs:List V) (v:Value) (us:List Value) (Q:VK),Inv X pins σ H s→a7 x v→aN xs us→r x xs H Q →
  wpAny (model X.prog X.w) X.A (call (.builtin id) (v :: us)) (EP X pins σ Q) X.xe s
theorem aN.one:∀ {x:V} {us:List Value},aN [x] us→∃ u,us=[u]∧a7 x u:=fun h=>by
 cases h with
 | cons r q=>cases q; exact ⟨_,rfl,r⟩
theorem aN.zero:∀ {us:List Value},aN [] us→us=[]
 | _,.nil=>rfl
theorem aN.dropLast {xs:List V} {us:List Value} (h:aN xs us):aN xs.dropLast us.dropLast:=by
 induction h with
 | nil=>exact .nil
 | cons r t ih =>
  cases t with
  | nil=>exact .nil
  | cons q t'=>exact .cons r ih
theorem aN.rep {xs:List V} {us:List Value} (h:aN xs us):∀ k:Nat,aN (List.replicate k xs).flatten (List.replicate k us).flatten
 | 0=>.nil
 | k + 1=>by
  rw [List.replicate_succ,List.replicate_succ,List.flatten_cons,List.flatten_cons]
  exact aN.append h (aN.rep h k)
theorem kj {α:Type} (l:List α):l.eraseIdx (l.length - 1)=l.dropLast:=by
 induction l with
 | nil=>rfl
 | cons a r ih =>
  cases r with
  | nil=>rfl
  | cons b r =>
   have e:(a :: b :: r).length - 1=((b :: r).length - 1) + 1:=by
    have h1:(a :: b :: r).length=r.length + 2:=rfl
    have h2:(b :: r).length=r.length + 1:=rfl
    omega
   rw [e,List.eraseIdx_cons_succ,ih]
   all_goals rfl
theorem hU (its:List Value):∀ (k:Nat) (acc:List Value),
 List.foldl (fun x1 x2=>x1++x2) acc.toArray (List.replicate k its.toArray)=(acc++(List.replicate k its).flatten).toArray
 | 0,acc=>by simp
 | k + 1,acc=>by
  have e:acc.toArray++its.toArray=(acc++its).toArray:=by simp
  have e2:(acc++its)++(List.replicate k its).flatten=acc++(List.replicate (k + 1) its).flatten:=by
   rw [List.replicate_succ,List.flatten_cons,List.append_assoc]
  rw [← e2,← hU its k (acc++its),← e,List.replicate_succ,List.foldl_cons]
section
variable {X:Cx} {pins:List (Addr×Obj)} {σ:St} {H:Hp} {s:Shared} {l b:Addr} {xs ys zs:List V}
theorem Inv.lset {its its':List Value} {n:Nat} {f:Array Value→Array Value} {t':Nat} (I:Inv X pins σ H s) (hH:H l=some (.lst xs))
 (e:s.heap.get? l=some { cls:=.type "list",data:=.seq its.toArray n }) (hf:f its.toArray=its'.toArray) (hv:aN ys its') (hz:ys.length≤sizeLine) :
 Inv X pins σ (upd H l (.lst ys)) { s with heap:=s.heap.update l (Obj.mapSeq f),toks:=t' }:=by
 have q:=PySem.IsL.update e f
 rw [hf] at q
 refine I.write (x:=l) (e:=l) (by rw [hH]; exact trivial) (.inl rfl) (fun b' u hb hu=>(Heap.get?_update_other s.heap (Obj.mapSeq f) (Ne.symm hb)).trans hu) ⟨_,q⟩ ?_
 exact ⟨hz,its',_,hv,q⟩
theorem Inv.lnew {its:List Value} {t':Nat} (I:Inv X pins σ H s) (hv:aN ys its) (hz:ys.length≤sizeLine) :
 Inv X pins σ (upd H s.heap.objs.size (.lst ys)) { s with heap:=s.heap.push { cls:=.type "list",data:=.seq its.toArray },toks:=t' } :=
 I.laid (fun _ _ q=>Heap.get?_push_of_some _ q) (Nat.le_refl _) ⟨hz,its,0,hv,Heap.get?_push_size _ rfl⟩
theorem Inv.fresh (I:Inv X pins σ H s):H s.heap.objs.size=none:=I.hok.fresh (Nat.le_refl _)
theorem Inv.lstM (I:Inv X pins σ H s) (hH:H l=some (.lst xs)):xs.length≤sizeLine∧∃ (its:List Value) (n:Nat),aN xs its∧xs.length=its.length∧s.heap.get? l=some { cls:=.type "list",data:=.seq its.toArray n }:=by
 obtain ⟨z,its,n,r,e⟩:=I.hok l _ hH
 exact ⟨z,its,n,r,r.length,e⟩
theorem nW {n:Nat} (h:n≤sizeLine):Builtin.List.listTooLong n=false:=by
 unfold Builtin.List.listTooLong
 exact decide_eq_false (by omega)
end
section
variable {X:Cx}
def rZ:V→List V→Hp→VK→Prop:=fun x vs H Q=>∃ l xs y,x = .ref l∧vs=[y]∧H l=some (.lst xs)∧xs.length<sizeLine∧Q .non (upd H l (.lst (xs++[y])))
theorem nu:MtM X "list.append" rZ:=by
 (try refine ⟨?_⟩); intro pins s σ H x vs v us Q I rx rv h
 obtain ⟨l,xs,y,rfl,rfl,hH,hz,q⟩:=h
 cases rx
 obtain ⟨u,rfl,ru⟩:=rv.one
 obtain ⟨z,its,n,r,hl,e⟩:=I.lstM hH
 refine call_meets F.slot_list_append ⟨_,e,rfl⟩ F.entry_list_append (F.args_list_append_2 _ _) (PySem.list_append l its.toArray n u (by rw [List.size_toArray]; omega)) ⟨e,?_⟩
 refine ⟨.non,_,I.lset (its':=its++[u]) hH e (by simp) (r.append (.cons ru .nil)) ?_,rfl,q⟩
 rw [List.length_append,List.length_singleton]
 omega
def rPop:V→List V→Hp→VK→Prop:=fun x vs H Q=>∃ l xs y,x = .ref l∧vs=[]∧H l=some (.lst xs)∧xs[xs.length - 1]? = some y∧Q y (upd H l (.lst xs.dropLast))
theorem mt_pop:MtM X "list.pop" rPop:=by
 (try refine ⟨?_⟩); intro pins s σ H x vs v us Q I rx rv h
 obtain ⟨l,xs,y,rfl,rfl,hH,hy,q⟩:=h
 cases rx
 have hus:=rv.zero
 subst hus
 obtain ⟨z,its,n,r,hl,e⟩:=I.lstM hH
 obtain ⟨u,hu,ru⟩:=r.get hy
 have hy':its.toArray[its.toArray.size - 1]? = some u:=by
  show its.toArray[its.length - 1]? = some u
  rw [← Array.getElem?_toList,← hl]
  exact hu
 refine call_meets F.slot_list_pop ⟨_,e,rfl⟩ F.entry_list_pop (F.args_list_pop_1 _) (MeetsSeq.list_pop_last l its.toArray n u hy' (by rw [List.size_toArray]; omega)) ⟨e,?_⟩
 refine ⟨y,_,I.lset (its':=its.dropLast) hH e ?_ r.dropLast ?_,ru,q⟩
 ·show its.toArray.eraseIdxIfInBounds (its.toArray.size - 1)=its.dropLast.toArray
  rw [List.size_toArray,List.eraseIdxIfInBounds_toArray,kj]
 ·rw [List.length_dropLast]
  omega
def uH:V→List V→Hp→VK→Prop:=fun x vs H Q=>∃ l xs,x = .ref l∧vs=[]∧H l=some (.lst xs)∧Q .non (upd H l (.lst []))
theorem pD:MtM X "list.clear" uH:=by
 (try refine ⟨?_⟩); intro pins s σ H x vs v us Q I rx rv h
 obtain ⟨l,xs,rfl,rfl,hH,q⟩:=h
 cases rx
 have hus:=rv.zero
 subst hus
 obtain ⟨z,its,n,r,hl,e⟩:=I.lstM hH
 refine call_meets F.slot_list_clear ⟨_,e,rfl⟩ F.entry_list_clear (F.args_list_clear_1 _) (AutoSeq1.list_clear_list_0 l its.toArray n (by rw [List.size_toArray]; omega)) ⟨e,?_⟩
 exact ⟨.non,_,I.lset (its':=[]) (ys:=[]) hH e rfl .nil (Nat.zero_le _),rfl,q⟩
def rRep:R2:=fun x y H Q=>∃ l k xs,x = .ref l∧y = .int k∧H l=some (.lst xs)∧-(2 ^ 63)≤k∧k<2 ^ 63∧xs.length * k.toNat≤sizeLine ∧
 ∀ p,H p=none→Q (.ref p) (upd H p (.lst (List.replicate k.toNat xs).flatten))
theorem sv {α:Type} (xs:List α) (k:Nat):(List.replicate k xs).flatten.length=k * xs.length:=by
 induction k with
 | zero=>simp
 | succ k ih=>rw [List.replicate_succ,List.flatten_cons,List.length_append,ih,Nat.succ_mul,Nat.add_comm]
theorem fJ:OpR X (binaryOp .Mult) rRep:=by
 (try refine ⟨?_⟩); intro pins s σ H x y v u Q I rx ry h
 obtain ⟨l,k,xs,rfl,rfl,hH,h1,h2,hz,q⟩:=h
 cases rx
 obtain ⟨t,rfl⟩:=ry
 obtain ⟨z,its,n,r,hl,e⟩:=I.lstM hH
 have hlen:its.toArray.size * k.toNat≤sizeLine:=by rw [List.size_toArray,← hl]; exact hz
 have hcap : ¬ its.toArray.size * k.toNat > (2 ^ 63 - 1) / 8:=by
  have:(sizeLine:Nat)≤(2 ^ 63 - 1) / 8:=by decide
  omega
 have hfit : ¬ (!Builtin.List.listFitsIndex k)=true:=by
  rw [fitsIndex_both h1 h2]
  exact Bool.false_ne_true
 have hlong : ¬ Builtin.List.listTooLong (its.toArray.size * k.toNat)=true:=by
  rw [nW hlen]
  exact Bool.false_ne_true
 have hnew:List.foldl (fun x1 x2=>x1++x2) #[] (List.replicate (if its.toArray.isEmpty=true then 0 else k.toNat) its.toArray)=(List.replicate k.toNat its).flatten.toArray:=by
  have f0:∀ m:Nat,List.foldl (fun x1 x2=>x1++x2) #[] (List.replicate m its.toArray)=(List.replicate m its).flatten.toArray:=fun m=>by
   have:=hU its m []
   rw [List.nil_append] at this
   exact this
  rw [f0]
  cases its with
  | nil=>simp
  | cons a r'=>rw [if_neg (by simp)]
 refine wpAny_binaryOp_repeat_ref (T:="list") (U:="int") (by decide) ⟨_,e,rfl⟩ (fun s'=>typeIs_int s' k t) noFill_list_mul F.fills_int_mul F.slot_int_rmul repeat_list F.slot_int_index.lookup
  (call_meets F.slot_int_rmul (typeIs_int s k t) F.entry_int_rmul (F.args_int_rmul_2 _ _) (int___rmul___int_list k t l its.toArray n)
   ⟨e,rfl,⟨_,e,rfl⟩,call_meets F.slot_list_mul ⟨_,e,rfl⟩ F.entry_list_mul (F.args_list_mul_2 _ _) (AutoListH.list___mul___list_int_3 l its.toArray n k t hfit hcap hlong) ⟨e,?_⟩⟩)
 rw [hnew]
 exact ⟨.ref _,_,I.lnew (t':=s.toks) (r.rep k.toNat) (by rw [sv,Nat.mul_comm]; exact hz),rfl,q _ I.fresh⟩
end
section
variable {prog:Program} {w:World} {A:Around} {E:Value→Shared→Prop} {s:Shared}
end
section
variable {X:Cx}
end
end L2
namespace Att
open PySem PySem.W PySem.Calls PyProof.Rows
theorem fZ {P:Params} {h:Heap}:∀ (ns:List Int) (vs:List Value),WellAll P h vs (ns.map WData.int)→IntsAre vs ns:=by
 intro ns
 induction ns with
 | nil =>
  intro vs w
  rw [List.map_nil] at w
  cases w
  exact .nil
 | cons n ns ih =>
  intro vs w
  rw [List.map_cons] at w
  cases w with
  | cons a b =>
   cases a
   exact .cons _ _ (ih _ b)
theorem mF {l:OpenLaw} {n:Nat} (hn:l.most=some n) {P:Params} {h:Heap} {args:List WData} {vals:List Value}
 (hpre:l.row.toRowW.claim.pre args=true) (hwl:WellAll P h vals args) :
 ∃ a vs ns,vals=[Value.ref a]∧args=[WData.list (ns.map WData.int)]∧h.get? a=some { cls:=.type "list",data:=.seq vs.toArray }∧IntsAre vs ns∧ns.length≤n:=by
 have hsh:WShape.hasAll [] args [.list .int]=true:=(pre_splitW hpre).1
 have hc:l.pre.holds [] { args:=args } = true:=(pre_splitW hpre).2
 obtain ⟨d,r,rfl,h1,h2⟩:=hasAllW_cons hsh
 obtain rfl:=hasAllW_nil h2
 obtain ⟨xs,rfl,h3⟩:=hasW_list h1
 obtain ⟨ns,rfl⟩:=items_int h3
 have hlen:ns.length≤n:=by
  unfold OpenLaw.pre at hc
  have h4:(WTm.not (.lt (.lit (.int (n:Int))) (.len (.arg 0)))).holds [] { args:=[.list (ns.map .int)] } = true:=by
   have h4:=(holds_andW hc).1
   rw [hn] at h4
   exact h4
  have h5:=condW_of h4 (w_not (w_lt w_lit (w_len_list (w_arg rfl))))
  rw [List.length_map] at h5
  refine Nat.le_of_not_lt fun q=>?_
  have q':(n:Int)<((ns.length:Nat):Int):=by omega
  first
   | (rw [decide_eq_true q'] at h5; exact absurd h5 (by decide))
   | (simp at h5; omega)
 cases hwl with
 | cons w1 w2 =>
  cases w2
  cases w1 with
  | list ho hall=>exact ⟨_,_,ns,rfl,rfl,ho,fZ ns _ hall,hlen⟩
theorem nj (l:OpenLaw) (args:List WData):l.row.toRowW.claim.post args (.bool true) args=true :=
 postW_of (r:=l.row.toRowW) (X:=(true == true))
  (show WShape.has [] (.bool true) .bool=true by first | rfl | decide | simp [WShape.has,WShape.arms,WShape.armsAll])
  (show (WTm.eq .res (.lit (.bool true))).value [] { args:=args,res:=some (.bool true),after:=args } = some (.bool (true == true)) from w_eq_bool (w_res rfl) w_lit) rfl
theorem attach_call {l:OpenLaw} {n:Nat} {q:Program} {loose:List Str} {XP:(Str→Option Value)→Heap→Prop} {YP:World→Heap→Prop} {d:DefRec}
 (hn:l.most=some n) (hdf:d.params.defaults=[])
 (call:∀ (w:World) (s₀ s₁:Shared) (mg mb:Str→Option Value) (fa:Addr) (o:Obj) (pm cd doc:Value) (a:Addr) (vs:List Value) (ns:List Int),
  Ground q loose [] XP w s₀ mg mb s₁.heap→YP w s₁.heap →
  s₁.heap.get? fa=some o→o.data = .func (docDef d.name d.params d.body d.scope pm cd doc)→s₁.heap.CodeRec cd d.name→mg d.name=some (.ref fa) →
  s₁.heap.get? a=some { cls:=.type "list",data:=.seq vs.toArray }→IntsAre vs ns→ns.length≤n→s₁.gens = #[] →
  codeAny (model l.prog w) callerA (.call (.ref fa) ⟨[.ref a],[]⟩) (fun r s'=>r = .ok (.ret (.bool true))∧OldK s₁.heap s'.heap∧s'.os=s₁.os∧AllBare s'.gens) s₁) :
 WalkO q loose XP YP l.row.toRowW d [] (fun f vs=>PySem.call f vs):=by
 intro w s₀ s₁ mg mb G Y fa o pm cd doc dV kV ho hd hcd hD hmg hg args vals as hpre hlay hrd hwl hlo
 obtain rfl:dV = .none:=Dflts.none hD hdf
 obtain rfl:kV = .none:=Dflts.noKw hD
 obtain ⟨a,vs,ns,rfl,rfl,hobj,hints,hlen⟩:=mF hn hpre hwl
 refine enter_call (codeAny_mono (call w s₀ s₁ mg mb fa o pm cd doc a vs ns G Y ho (fd_plain hd) hcd hmg hobj hints hlen hg) fun r s' hq=>?_)
 obtain ⟨rfl,h2,h3,h4⟩:=hq
 exact ⟨.inl ⟨.bool true,.bool true,[],rfl,fun _=>rfl,.bool true,nj l _,fun _=>⟨List.Pairwise.nil,fun _ hm=>(nomatch hm)⟩⟩,h2,h3,h4⟩
section
variable {prog:Program} {w:World} {A:Around} {E:Value→Shared→Prop} {s:Shared} {K:Frag}
def iP (h:Heap):Heap:={ h with objs:=#[] }
theorem gJ (h:Heap) (b:Addr):(iP h).get? b=none:=by
 cases e:(iP h).get? b with
 | none=>rfl
 | some o=>exact absurd (Heap.lt_size e) (Nat.not_lt_zero _)
def iZ (h:Heap) (L d:Addr):List (Addr×Obj):=(List.range h.objs.size).filterMap fun a=>if a=L∨a=d then none else (h.get? a).map fun o=>(a,o)
theorem gK {h:Heap} {L d a:Addr} {o:Obj}:(a,o)∈iZ h L d↔a≠L∧a≠d∧h.get? a=some o:=by
 unfold iZ
 rw [List.mem_filterMap]
 constructor
 ·rintro ⟨b,_,e⟩
  split at e
  ·cases e
  ·rename_i hb
   obtain ⟨o',ho,e'⟩:=Option.map_eq_some_iff.mp e
   cases e'
   exact ⟨fun q=>hb (.inl q),fun q=>hb (.inr q),ho⟩
 ·rintro ⟨n1,n2,ho⟩
  refine ⟨a,List.mem_range.mpr (Heap.lt_size ho),?_⟩
  rw [if_neg (show ¬ (a=L∨a=d) from fun q=>q.elim n1 n2),ho] <;> rfl
theorem ul {h:Heap} {L:Addr} {m:Str→Option Value} (n:h.Ns L m):Fr (iP h) L h m :=
 ⟨n,fun b o e=>(by rw [gJ] at e; cases e),Nat.zero_le _⟩
end
end Att
namespace L2
open PySem PySem.Spec PyProof.Rows
theorem er:∀ {vs:List Value} {ns:List Int},IntsAre vs ns→aN (ns.map V.int) vs
 | _,_,.nil=>.nil
 | _,_,.cons n t h=>.cons ⟨t,rfl⟩ (er h)
end L2
/- THE LAST THEOREM (shape; LID,My.* are yours):
   My.Adr: a structure of the addresses that your layer names (classes,functions); My.Txt K t: a structure (Prop) of the equations over K;
   My.txt_mk : {K} {implicit addresses ..} (e1:nsIn K mainGlobals "law" = some (some (.ref f))) (e2:K.lookup f=some ⟨oc,od,.func (fnOf "law" "law" params body scope dV kV doc pm an cdv ct),sl⟩) (e3:codeIn K cdv "law" = true) ..:∃ t,My.Txt K t
(the tactic k_is has no namespace: write k_is) -/
namespace L2
open PySem PySem.Spec PyProof.Rows
def dF (s:Stmt):Arguments:=match s with
 | .FunctionDef _ a _ _ _ _ _ _ _ _=>a
 | _=>{ posonlyargs:=[],args:=[],vararg:=none,kwonlyargs:=[],kw_defaults:=[],kwarg:=none,defaults:=[] }
def ce (s:Stmt):List Stmt:=match s with
 | .FunctionDef _ _ b _ _ _ _ _ _ _=>b
 | _=>[]
def ah (s:Stmt):Scope:=match s with
 | .FunctionDef _ _ _ _ _ _ sc _ _ _=>sc
 | _=>{ kind:=.function,names:=[],isGenerator:=false,isCoroutine:=false }
abbrev CX0:CXT:=fun _ _ _ _ _ _=>False
abbrev E0:XK:=fun _ _ _=>False
theorem t7 {X:Cx}:ku CX0 X E0:=fun _ _ _ _ _ _ _ h=>h.elim
structure Fun (K:PySem.W.Frag) (x qual:Str) (st:Stmt) (f:Addr) (fd:FuncData):Prop where
 ex:∃ (oc:Value) (od:Option Addr) (kV doc pm:Value) (an:Option Addr) (cdv ct:Value) (osl:Array (Option Value)),
  fd=PySem.W.fnOf x qual (dF st) (ce st) (ah st) .none kV doc pm an cdv ct∧K.lookup f=some ⟨oc,od,.func fd,osl⟩∧PySem.W.codeIn K cdv qual=true
 kp:PySem.W.keepIn K (.ref f)=true
section
variable {P:Program} {w:World} {K:PySem.W.Frag} {mg:Str→Option Value} {base:Heap}
theorem Fun.ok {x qual:Str} {st:Stmt} {f:Addr} {fd:FuncData} {N ps:List Str} {k:Nat} {sp:Sp} (F:Fun K x qual st f fd) (S:FnScope N ps (ah st)) (len:∀ vs H Q E,sp vs H Q E→vs.length=ps.length)
 (hbody:∀ (cdv:Value) (A:Around) (outer:List Env) (s:Shared) (H:Hp) (vs:List V) (Q:VK) (E:XK),Room k (A.deeper (envOfC qual (ah st) s.heap.objs.size f cdv))→sp vs H Q E →
  ∃ t,PSs (jh CX0 P w K mg base N qual (ah st) f cdv A outer s H E).nox (ce st) t∧t { nx:=fun _ H'=>Q .non H',rt:=Q } (cS N vs) H):FnOk P w K mg base CX0 (k + 1) f fd ps sp:=by
 obtain ⟨oc,od,kV,doc,pm,an,cdv,ct,osl,rfl,lk,hcd⟩:=F.ex
 refine t5 lk hcd S len fun A outer s H vs Q E hr hsp=>?_
 obtain ⟨t,h,q⟩:=hbody cdv A outer s H vs Q E hr hsp
 exact ⟨t,h.nox,q⟩
theorem Fun.binds {x qual:Str} {st:Stmt} {f:Addr} {fd:FuncData} {ps:List Str} (F:Fun K x qual st f fd)
 (h:∀ (kV doc pm:Value) (an:Option Addr) (cdv ct:Value) (us:List Value),us.length=ps.length→bindArgs (PySem.W.fnOf x qual (dF st) (ce st) (ah st) .none kV doc pm an cdv ct) ⟨us,[]⟩=pure (ps.zip us)):fX K fd ps []:=by
 obtain ⟨oc,od,kV,doc,pm,an,cdv,ct,osl,rfl,lk,hcd⟩:=F.ex
 exact .all (h kV doc pm an cdv ct)
theorem vO {x qual:Str} {st:Stmt} {f:Addr} {oc:Value} {od an:Option Addr} {osl:Array (Option Value)} {kV doc pm cdv ct:Value} (l:K.lookup f=some ⟨oc,od,.func (PySem.W.fnOf x qual (dF st) (ce st) (ah st) .none kV doc pm an cdv ct),osl⟩)
 (c:PySem.W.codeIn K cdv qual=true) (k:PySem.W.keepIn K (.ref f)=true):Fun K x qual st f (PySem.W.fnOf x qual (dF st) (ce st) (ah st) .none kV doc pm an cdv ct):=⟨⟨oc,od,kV,doc,pm,an,cdv,ct,osl,rfl,l,c⟩,k⟩
end
theorem dg {n:Nat} (h:n≤1000):n<sizeLine:=Nat.lt_of_le_of_lt h (by decide)
section
variable {X:Cx}
end
theorem bA {c A B:Prop} [Decidable c] (h1:c→A) (h2 : ¬ c→B):if c then A else B:=by
 by_cases h:c
 ·rw [if_pos h]
  exact h1 h
 ·rw [if_neg h]
  exact h2 h
def aF (H H':Hp):Prop:=∀ b o,H b=some o→H' b=some o
theorem aF.refl (H:Hp):aF H H:=fun _ _ h=>h
theorem aF.trans {H H1 H2:Hp} (a:aF H H1) (b:aF H1 H2):aF H H2:=fun c o h=>b c o (a c o h)
inductive D where
 | non | bl (b:Bool) | int (i:Int) | str (x:Str) | tup (ds:List D) | lst (ds:List D) | dct | dic (ks:List Key) (ds:List D) | obj (C:Addr) (ks:List Str) (ds:List D) | scr (φ:Addr→Prop) (ns:List Int) | ext (φ:Hp→Addr→Prop)
mutual
def Rep (H:Hp):D→V→Prop
 | .non,v=>v = .non
 | .bl b,v=>v = .bl b
 | .int i,v=>v = .int i
 | .str x,v=>v = .str x
 | .tup ds,v=>∃ a xs,v = .ref a∧H a=some (.tup xs)∧Reps H ds xs
 | .lst ds,v=>∃ a xs,v = .ref a∧H a=some (.lst xs)∧Reps H ds xs
 | .dct,v=>∃ a kvs,v = .ref a∧H a=some (.dK kvs)
 | .dic ks ds,v=>∃ a xs,v = .ref a∧H a=some (.dK (ks.zip xs))∧ks.length=ds.length∧Reps H ds xs
 | .obj C ks ds,v=>∃ a dx xs,v = .ref a∧H a=some (.ins C dx (ks.zip xs))∧ks.length=ds.length∧Reps H ds xs
 | .scr φ ns,v=>∃ a,v = .ref a∧((∃ o,H a=some (.frz o (.lst (ns.map V.int))))∨φ a)
 | .ext φ,v=>∃ a H0,v = .ref a∧aF H0 H∧φ H0 a
def Reps (H:Hp):List D→List V→Prop
 | [],xs=>xs=[]
 | d :: ds,xs=>∃ v vs,xs=v :: vs∧Rep H d v∧Reps H ds vs
end
theorem Reps.length {H:Hp}:∀ {ds:List D} {xs:List V},Reps H ds xs→xs.length=ds.length
 | [],xs,h=>by rw [Reps] at h; subst h; rfl
 | d :: ds,xs,h=>by
  rw [Reps] at h
  obtain ⟨v,vs,rfl,_,h2⟩:=h
  have:=Reps.length h2
  simp [this]
mutual
theorem Rep.mono {H H':Hp} (e:aF H H'):∀ (d:D) (v:V),Rep H d v→Rep H' d v
 | .non,v,h=>by rw [Rep] at *; exact h
 | .bl b,v,h=>by rw [Rep] at *; exact h
 | .int i,v,h=>by rw [Rep] at *; exact h
 | .str x,v,h=>by rw [Rep] at *; exact h
 | .tup ds,v,h=>by
  rw [Rep] at *
  obtain ⟨a,xs,h1,h2,h3⟩:=h
  exact ⟨a,xs,h1,e _ _ h2,Reps.mono e ds xs h3⟩
 | .lst ds,v,h=>by
  rw [Rep] at *
  obtain ⟨a,xs,h1,h2,h3⟩:=h
  exact ⟨a,xs,h1,e _ _ h2,Reps.mono e ds xs h3⟩
 | .dct,v,h=>by
  rw [Rep] at *
  obtain ⟨a,kvs,h1,h2⟩:=h
  exact ⟨a,kvs,h1,e _ _ h2⟩
 | .dic ks ds,v,h=>by
  rw [Rep] at *
  obtain ⟨a,xs,h1,h2,h3,h4⟩:=h
  exact ⟨a,xs,h1,e _ _ h2,h3,Reps.mono e ds xs h4⟩
 | .obj C ks ds,v,h=>by
  rw [Rep] at *
  obtain ⟨a,dx,xs,h1,h2,h3,h4⟩:=h
  exact ⟨a,dx,xs,h1,e _ _ h2,h3,Reps.mono e ds xs h4⟩
 | .scr φ ns,v,h=>by
  rw [Rep] at *
  obtain ⟨a,h1,h2⟩:=h
  refine ⟨a,h1,?_⟩
  rcases h2 with ⟨o,h2⟩ | h2
  ·exact .inl ⟨o,e _ _ h2⟩
  ·exact .inr h2
 | .ext φ,v,h=>by
  rw [Rep] at *
  obtain ⟨a,H0,h1,h2,h3⟩:=h
  exact ⟨a,H0,h1,fun b o q=>e _ _ (h2 b o q),h3⟩
theorem Reps.mono {H H':Hp} (e:aF H H'):∀ (ds:List D) (xs:List V),Reps H ds xs→Reps H' ds xs
 | [],xs,h=>by rw [Reps] at *; exact h
 | d :: ds,xs,h=>by
  rw [Reps] at *
  obtain ⟨v,vs,h1,h2,h3⟩:=h
  exact ⟨v,vs,h1,Rep.mono e d v h2,Reps.mono e ds vs h3⟩
end
def D.ty:D→String
 | .non => "NoneType" | .bl _ => "bool" | .int _ => "int" | .str _ => "str" | .tup _ => "tuple" | .lst _ => "list" | .dct => "dict" | .dic _ _ => "dict" | .obj _ _ _ => "object" | .scr _ _ => "list" | .ext _ => "object"
def D.isS:D→Bool
 | .scr _ _=>true
 | .ext _=>true
 | .obj _ _ _=>true
 | _=>false
theorem Rep.ty {K:PySem.W.Frag} {H:Hp} {d:D} {v:V} (h:Rep H d v) (hs:d.isS=false):TyOf K H v (.type d.ty):=by
 cases d with
 | non=>rw [Rep] at h; subst h; exact .non
 | bl b=>rw [Rep] at h; subst h; exact .bl b
 | int i=>rw [Rep] at h; subst h; exact .int i
 | str x=>rw [Rep] at h; subst h; exact .str x
 | tup ds=>rw [Rep] at h; obtain ⟨a,xs,rfl,h2,_⟩:=h; exact .tup h2
 | lst ds=>rw [Rep] at h; obtain ⟨a,xs,rfl,h2,_⟩:=h; exact .lst h2
 | dct=>rw [Rep] at h; obtain ⟨a,kvs,rfl,h2⟩:=h; exact .dK h2
 | dic ks ds=>rw [Rep] at h; obtain ⟨a,xs,rfl,h2,_⟩:=h; exact .dK h2
 | scr φ ns=>cases hs
 | ext φ=>cases hs
 | obj C ks ds=>cases hs
theorem ga {H:Hp} {a:Addr} {xs:List V} {ds:List D} (h:H a=some (.tup xs)) (r:Reps H ds xs):Rep H (.tup ds) (.ref a):=by rw [Rep]; exact ⟨a,xs,rfl,h,r⟩
theorem fq {H:Hp} {a:Addr} {xs:List V} {ds:List D} (h:H a=some (.lst xs)) (r:Reps H ds xs):Rep H (.lst ds) (.ref a):=by rw [Rep]; exact ⟨a,xs,rfl,h,r⟩
theorem bg {H:Hp}:Reps H [] []:=by rw [Reps]
theorem bb {H:Hp} {d:D} {v:V} {ds:List D} {vs:List V} (h:Rep H d v) (r:Reps H ds vs):Reps H (d :: ds) (v :: vs):=by rw [Reps]; exact ⟨v,vs,rfl,h,r⟩
theorem a8 {H:Hp} (i:Int):Rep H (.int i) (.int i):=by rw [Rep]
theorem ck {H:Hp} (i:Bool):Rep H (.bl i) (.bl i):=by rw [Rep]
theorem cK {H:Hp} (i:Str):Rep H (.str i) (.str i):=by rw [Rep]
theorem l5 {H:Hp}:Rep H .non .non:=by rw [Rep]
theorem rO {H:Hp} {p:Addr} (h:H p=none) (o:HO):aF H (upd H p o):=fun b u q=>by rw [ar (aq q h)]; exact q
section
variable {X:Cx}
def mO (d:D) (T:String):Option Bool:=if d.isS=true then none else if (Value.type d.ty == Value.type T)=true then some true else if PySem.W.kitMeta T=true then (fastBuiltinMro d.ty).map (·.contains (.type T)) else none
theorem nZ (K:PySem.W.Frag) (d:D) (T:String) (hs:d.isS=false):PySem.W.kitOne K (.type d.ty) (.type T)=mO d T:=by
 unfold mO; rw [hs,if_neg (by decide)]; rfl
def rIsI:List V→Hp→VK→Prop:=fun xs H Q=>∃ x T d b,xs=[x,.ty T]∧Rep H d x∧mO d T=some b∧Q (.bl b) H
theorem jQ:bX X (.builtin "isinstance") rIsI:=by
 intro pins s σ H xs us Q I r h
 obtain ⟨x,T,d,b,rfl,hd,e,q⟩:=h
 obtain ⟨u,w',rfl,ru,rw'⟩:=lC r
 cases (show w'=Value.type T from rw')
 have hs:d.isS=false:=by
  cases z:d.isS with
  | false=>rfl
  | true=>unfold mO at e; rw [z,if_pos rfl] at e; cases e
 rw [← nZ X.K d T hs] at e
 exact mD I ru (hd.ty hs) e fun tk=>⟨.bl b,H,I.tok tk,rfl,q⟩
def Sm (i:Int):Prop:=i.natAbs<2 ^ 8000
theorem Sm.log {i:Int} (h:Sm i):i.natAbs.log2<8000:=by
 by_cases h0:i.natAbs=0
 ·rw [h0]; decide
 ·exact (Nat.log2_lt h0).mpr h
theorem Sm.bits {i:Int} (h:Sm i):Builtin.Int.intBits i≤8000:=by
 unfold Builtin.Int.intBits
 split
 ·exact Nat.zero_le _
 ·have:=h.log; omega
theorem Sm.mul {i j:Int} (h:Sm i) (h':Sm j):IntMulOk i j:=by
 have a:=h.bits
 have b:=h'.bits
 unfold IntMulOk Builtin.Int.intTooBig
 have e : ¬ ((Builtin.Int.intBits i:Int) + (Builtin.Int.intBits j:Int) > (bitsLine:Int)):=by
  have:bitsLine=134217728:=by decide
  omega
 rw [decide_eq_false e]
 simp
def CMulB (i j:Int):Prop:=Sm i∧Sm j
def CDivB (i j:Int):Prop:=0<j∧Sm j
theorem bC:OpR X (binaryOp .Mult) (rI CMulB fun i j=>.int (i * j)):=opI fun _ _ _ _ _ _ _ hc q=>mul_int q (hc.1.mul hc.2)
theorem cU:OpR X (binaryOp .FloorDiv) (rI CDivB fun i j=>.int (i / j)):=opI fun i j _ _ _ _ _ hc q=>by
 refine floordiv_int (Int.ne_of_gt hc.1) ?_ (.inl (PyProof.noPylong_of_log2 (Nat.lt_of_lt_of_le hc.2.log (by decide))))
 rw [Int.fdiv_eq_ediv_of_nonneg _ (Int.le_of_lt hc.1)]
 exact q
end
theorem bF:bootBuiltins "len" = some (.builtin "len"):=by decide +kernel
theorem uO:bootBuiltins "abs" = some (.builtin "abs"):=by decide +kernel
theorem qy:bootBuiltins "max" = some (.builtin "max"):=by decide +kernel
theorem nR:bootBuiltins "min" = some (.builtin "min"):=by decide +kernel
theorem aK:bootBuiltins "isinstance" = some (.builtin "isinstance"):=by decide +kernel
theorem u7:bootBuiltins "sum" = some (.builtin "sum"):=by decide +kernel
theorem fD:bootBuiltins "sorted" = some (.builtin "sorted"):=by decide +kernel
theorem iT:bootBuiltins "int" = some (.type "int"):=by decide +kernel
theorem s9:bootBuiltins "bool" = some (.type "bool"):=by decide +kernel
theorem fj:bootBuiltins "tuple" = some (.type "tuple"):=by decide +kernel
theorem c9:bootBuiltins "list" = some (.type "list"):=by decide +kernel
theorem dz:bootBuiltins "str" = some (.type "str"):=by decide +kernel
theorem iX:bootBuiltins "enumerate" = some (.type "enumerate"):=by decide +kernel
theorem wV:bootBuiltins "zip" = some (.type "zip"):=by decide +kernel
def bL (n b:Int):Int:=if b=0 then n else (Int.gcd n b:Int)
theorem ic {n b:Int} (h : 0<b):bL b (n % b)=bL n b:=by
 unfold bL
 have e:Int.gcd n b=Int.gcd b (n % b):=by
  rw [Int.emod_def,Int.gcd_sub_mul_left_right,Int.gcd_comm]
 rw [if_neg (show ¬ b=0 by omega)]
 split
 ·rename_i h0
  rw [e,h0,Int.gcd_zero_right]
  omega
 ·rw [e]
theorem dq {n b:Int} (h : 0<b) : 0<bL n b:=by
 unfold bL
 rw [if_neg (by omega)]
 have : 0<Int.gcd n b:=Int.gcd_pos_of_ne_zero_right _ (by omega)
 omega
theorem i6 {n b:Int} (h : 0<b):bL n b≤b:=by
 unfold bL
 rw [if_neg (by omega)]
 exact Int.le_of_dvd h (Int.gcd_dvd_right ..)
theorem sO {n b:Int} (h : 0<b):bL n b∣n:=by
 unfold bL
 rw [if_neg (by omega)]
 exact Int.gcd_dvd_left ..
theorem sM {n b:Int} (h : 0<b):bL n b∣b:=by
 unfold bL
 rw [if_neg (by omega)]
 exact Int.gcd_dvd_right ..
section
variable {X:Cx} {pins:List (Addr×Obj)} {σ:St} {H:Hp} {s:Shared} {pos:Pos}
end
end L2
namespace L2
open PySem
theorem eT {i:Int} {n:Nat} (h:i.natAbs≤n) (hn:n<2 ^ 8000):Sm i:=Nat.lt_of_le_of_lt h hn
end L2
namespace L2
open PySem PySem.Spec PyProof.Rows
def CL (env:Env):List (Str×Addr)→Prop
 | []=>True
 | p :: r=>env.cells.lookup p.1=some p.2∧CL env r
theorem CL.get {env:Env}:∀ {cl:List (Str×Addr)},CL env cl→∀ {x:Str} {c:Addr},cl.lookup x=some c→env.cells.lookup x=some c
 | [],_,x,c,h=>by simp at h
 | (y,d) :: r,h,x,c,e=>by
  rw [List.lookup_cons] at e
  cases hx:x == y with
  | true =>
   rw [hx] at e
   have e1:x=y:=by simpa using hx
   have e2:d=c:=Option.some.inj e
   subst e1 e2
   exact h.1
  | false =>
   rw [hx] at e
   exact CL.get h.2 e
theorem dU {env:Env}:∀ {names:List (Str×NameKind)} {x:Str} {k:NameKind},
 (names.map fun (n,k)=>if (k == NameKind.free&&env.scope.kind == .function&&env.kindOf n == some .cell) then (n,NameKind.cell) else (n,k)).lookup x=some k →
 ∃ k',names.lookup x=some k'∧(k'=k∨(k' = .free∧k = .cell))
 | [],x,k,h=>by simp at h
 | (n,kn) :: r,x,k,h=>by
  have ih:=@dU env r x k
  by_cases hc:(kn == NameKind.free&&env.scope.kind == .function&&env.kindOf n == some .cell)=true
  ·have h':List.lookup x ((n,NameKind.cell) :: (r.map fun (n,k)=>if (k == NameKind.free&&env.scope.kind == .function&&env.kindOf n == some .cell) then (n,NameKind.cell) else (n,k)))=some k:=by
    rw [List.map_cons] at h
    simp only [hc,if_true] at h
    exact h
   rw [List.lookup_cons] at h' ⊢
   cases hx:x == n with
   | true =>
    rw [hx] at h'
    have:kn = .free:=by
     simp only [Bool.and_eq_true,beq_iff_eq] at hc
     exact hc.1.1
    exact ⟨kn,rfl,.inr ⟨this,(Option.some.inj h').symm⟩⟩
   | false=>rw [hx] at h'; exact ih h'
  ·have h':List.lookup x ((n,kn) :: (r.map fun (n,k)=>if (k == NameKind.free&&env.scope.kind == .function&&env.kindOf n == some .cell) then (n,NameKind.cell) else (n,k)))=some k:=by
    rw [List.map_cons] at h
    simp only [hc] at h
    exact h
   rw [List.lookup_cons] at h' ⊢
   cases hx:x == n with
   | true=>rw [hx] at h'; exact ⟨kn,rfl,.inl (Option.some.inj h')⟩
   | false=>rw [hx] at h'; exact ih h'
def bo (X:Cx) (scope:Scope) (cl:List (Str×Addr)) (N:List Str) (C:Addr) (s₀:Shared) (H₀:Hp) (ex:List Addr):Cx where
 prog:=X.prog
 w:=X.w
 K:=X.K
 mg:=X.mg
 base:=X.base
 A:=X.A
 N:=N
 s₀:=s₀
 H₀:=H₀
 env:=compEnvC scope cl C X.env
 outer:=X.stack
 stack:=X.stack
 ex:=ex
 fn:=fun _=>false
 calm:=X.calm
 pn:=[]
 xe:=fun _ _=>False
def okJ (X:Cx) (scope:Scope) (j:Nat):Bool:=match X.N[j]? with
 | some x=>(match X.env.scope.names.lookup x with | some .cell=>true | _=>false)&&(match scope.names.lookup x with | some .free=>true | _=>false)
 | none=>false
def bM (own:List Str) (js:List Nat) (σ:St):St:=own.map (fun _=>none)++js.map fun j=>(σ[j]?).getD none
def cO (X:Cx) (own:List Str) (js:List Nat):List Str:=own++js.map fun j=>(X.N[j]?).getD (Str.ofString "")
structure CompOk (X:Cx) (scope:Scope) (cl:List (Str×Addr)) (own:List Str) (js:List Nat):Prop where
 clos:closureFor scope X.env=pure cl
 kind:scope.kind = .function
 names:∀ x∈scope.names,x.2 = .local→scope.names.lookup x.1=some .local
 ncell:(scope.names.all fun y=>match y.2 with | .cell=>false | _=>true)=true
 has:(scope.names.all fun y=>match y.2 with | .free=>(cl.lookup y.1).isSome | _=>true)=true
 cells:CL X.env cl
 js:js.all (okJ X scope)=true
theorem CompOk.nc {X:Cx} {scope:Scope} {cl:List (Str×Addr)} {own:List Str} {js:List Nat} (c:CompOk X scope cl own js):∀ y∈scope.names,y.2≠.cell:=fun y hy e=>by
 have:=List.all_eq_true.mp c.ncell y hy
 rw [e] at this
 cases this
theorem CompOk.fr {X:Cx} {scope:Scope} {cl:List (Str×Addr)} {own:List Str} {js:List Nat} (c:CompOk X scope cl own js) {x:Str} (h:scope.names.lookup x=some .free):∃ d,cl.lookup x=some d:=by
 have:=List.all_eq_true.mp c.has (x,.free) (PySem.mem_of_lookup h)
 exact Option.isSome_iff_exists.mp this
section
variable {X:Cx} {pins:List (Addr×Obj)} {σ:St} {H:Hp} {s:Shared} {scope:Scope} {cl:List (Str×Addr)} {own:List Str} {js:List Nat}
theorem kR {h1:Heap} {C:Addr} {fp:List Addr} {t':Nat} (c:CompOk X scope cl own js) (I:Inv X pins σ H s) (hf:∀ b∈fp,iY X pins H b) (hlt:∀ b∈fp,b<s.heap.objs.size)
 (hC:s.heap.objs.size≤C) (hk:∀ b o,s.heap.get? b=some o→h1.get? b=some o) (hn:h1.Ns C fun _=>none) :
 Inv (bo X scope cl (cO X own js) C s H fp) [] (bM own js σ) H { s with heap:=h1,toks:=t' }:=by
 have kindOfY:∀ x k,(bo X scope cl (cO X own js) C s H fp).env.kindOf x=some k→∃ k',scope.names.lookup x=some k'∧(k'=k∨(k' = .free∧k = .cell)):=fun x k e=>dU (env:=X.env) (names:=scope.names) e
 refine ⟨⟨I.ok.mod,c.kind,I.ok.glob,I.ok.blt,hC,fun x y d h1 h2=>I.ok.inj x y d (c.cells.get h1) (c.cells.get h2),fun x hx=>?_,fun x d h=>(by cases h),I.ok.hd,I.ok.frames,.inl rfl,fun b hb=>⟨?_,fun x d e=>(hf b hb).2.2.2.2.1 x d (c.cells.get e)⟩,
  fun b o e=>I.bs b o e,Nat.le_trans I.ok.bsz I.sz,fun b o e hb=>?_,fun b hb z=>?_,I.stack,I.stkFree,I.ok.tb.un I.base⟩,rfl,I.bare,Un.kept hk,⟨_,hn,fun i x v e1 e2 e3=>?_⟩,fun x d e=>?_,I.hok.fresh hC,fun x d e=>I.freeC x d (c.cells.get e),fun p hp=>(by cases hp),I.hok.kept hk,?_⟩
 ·rcases hx with hx | hx
  ·obtain ⟨k',e1,e2⟩:=kindOfY x _ hx
   rcases e2 with e2 | ⟨e2,_⟩
   ·exact absurd e2 (c.nc _ (PySem.mem_of_lookup e1))
   ·subst e2; exact c.fr e1
  ·obtain ⟨k',e1,e2⟩:=kindOfY x _ hx
   rcases e2 with e2 | ⟨_,e2⟩
   ·subst e2; exact c.fr e1
   ·cases e2
 ·exact Nat.ne_of_lt (Nat.lt_of_lt_of_le (hlt b hb) hC)
 ·rcases (hf b hb).2.2.2.1 with z | z
  ·exact I.ok.noex b o e z
  ·exact absurd (Nat.lt_of_lt_of_le (Heap.lt_size e) (Nat.le_trans I.ok.bsz z)) (Nat.lt_irrefl _)
 ·rcases List.mem_cons.mp (I.stkSub b z) with q | q
  ·exact (hf b hb).2.1 q
  ·exact (hf b hb).2.2.1 q
 ·-- a name taken from the frame
  have e1:(cO X own js)[i]? = some x:=e1
  unfold cO at e1
  unfold bM at e2
  by_cases hi:i<own.length
  ·rw [List.getElem?_append_left (by simpa using hi),List.getElem?_map,List.getElem?_eq_getElem hi] at e2
   cases e2
  ·rw [List.getElem?_append_right (by simpa using Nat.not_lt.mp hi),List.getElem?_map,List.length_map] at e2
   rw [List.getElem?_append_right (Nat.not_lt.mp hi),List.getElem?_map] at e1
   cases ej:js[i - own.length]? with
   | none=>rw [ej] at e2; cases e2
   | some j =>
    rw [ej] at e1 e2
    have hj:=List.all_eq_true.mp c.js j (List.mem_of_getElem? ej)
    unfold okJ at hj
    have e1':(X.N[j]?).getD (Str.ofString "")=x:=Option.some.inj e1
    have e2':(σ[j]?).getD none=some v:=Option.some.inj e2
    cases en:X.N[j]? with
    | none=>rw [en] at hj; cases hj
    | some y =>
     rw [en] at hj e1'
     have e1'':y=x:=e1'
     subst e1''
     have hv : σ[j]? = some (some v):=by
      cases es : σ[j]? with
      | none=>rw [es] at e2'; cases e2'
      | some ov=>rw [es] at e2'; rw [show ov=some v from e2']
     dsimp only at hj
     rw [Bool.and_eq_true] at hj
     have k1:X.env.scope.names.lookup y=some .cell:=by
      have:=hj.1
      split at this
      ·assumption
      ·cases this
     have k2:scope.names.lookup y=some .free:=by
      have:=hj.2
      split at this
      ·assumption
      ·cases this
     obtain ⟨m,_,hl⟩:=I.loc
     obtain ⟨u,ru,l⟩:=hl j y v en hv (.inr (.inl k1))
     refine ⟨u,ru,?_⟩
     rcases l with ⟨l,_⟩ | ⟨_,d,ed,z⟩
     ·rw [show X.env.kindOf y=some .cell from k1] at l; cases l
     ·obtain ⟨d',ed'⟩:=c.fr k2
      have:=c.cells.get ed'
      rw [ed] at this
      cases this
      obtain ⟨o,ho,hd⟩:=z
      refine .inr ⟨?_,d,ed',⟨o,hk _ _ ho,hd⟩⟩
      have e3:(bo X scope cl (cO X own js) C s H fp).env.scope.names.lookup y=some .local∨(bo X scope cl (cO X own js) C s H fp).env.scope.names.lookup y=some .cell∨(bo X scope cl (cO X own js) C s H fp).env.scope.names.lookup y=some .free:=e3
      rcases e3 with e3 | e3 | e3
      ·obtain ⟨k',q1,q2⟩:=kindOfY y _ e3
       rw [k2] at q1
       cases q1
       rcases q2 with q2 | ⟨_,q2⟩ <;> cases q2
      ·exact .inl e3
      ·exact .inr e3
 ·obtain ⟨v,o,ho,hd⟩:=I.cell x d (c.cells.get e)
  exact ⟨v,o,hk _ _ ho,hd⟩
 ·show (bM own js σ).length=(cO X own js).length
  unfold bM cO
  simp
structure PIf (X:Cx) (ifs:List Expr) (t:TT):Prop where
 go:∀ (pins:List (Addr×Obj)) (s:Shared) (σ:St) (H:Hp) (Q:Bool→Hp→Prop),Inv X pins σ H s→t σ H Q →
  wpAny (model X.prog X.w) X.A (forIn ifs true fun c r=>if r=true then do let ok ← isTrue c X.env (eval c X.env); pure (ForInStep.yield ok) else pure (ForInStep.yield r)) (TP X pins σ Q) X.xe s
def tYes:TT:=fun _ H Q=>Q true H
theorem tF:PIf X [] tYes:=⟨fun pins s σ H Q I h=>wpAny_tests_nil ⟨H,I,h⟩⟩
theorem s_ {c:Expr} {t:TT} (h:PT X c t):PIf X [c] t:=⟨fun pins s σ H Q I q=>wpAny_tests_one (h.go pins s σ H Q I q)⟩
theorem eE {prog:Program} {w:World} {A:Around} {R:Result→Shared→Prop} {s:Shared} {elt target iter:Expr} {ifs:List Expr} {scope:Scope} {pos:Pos} {it acc:Value} {env:Env} (I:Nat→Shared→Prop)
 (turn:∀ n s,I n s→wpAny (model prog w) A (pyNext it) (fun r s₁=>match r with
  | none=>R (.ok .next) s₁
  | some v=>wpAny (model prog w) A (letOwnedTupleGo target it v) (fun _ s₁=>wpAny (model prog w) A (assign target env v) (fun _ s₂ =>
   wpAny (model prog w) A (forIn ifs true fun c r=>if r=true then do let ok ← isTrue c env (eval c env); pure (ForInStep.yield ok) else pure (ForInStep.yield r)) (fun ok s₃ =>
    if ok=true then wpAny (model prog w) A (eval elt env) (fun x s₄ =>
     wpAny (model prog w) A (call (.builtin "list.append") [acc,x]) (fun _ s₅=>∃ m,m<n∧I m s₅) (fun _ _=>False) s₄) (fun _ _=>False) s₃
    else ∃ m,m<n∧I m s₃) (fun _ _=>False) s₂) (fun _ _=>False) s₁) (fun _ _=>False) s₁) (fun _ _=>False) s)
 (n:Nat) (h:I n s) :
 codeAny (model prog w) A (.compLoop (.ListComp elt [⟨target,iter,ifs,0⟩] scope pos) 0 it acc env) R s:=by
 refine codeAny_loop rfl I (fun n s hI=>?_) n h
 show wpAny _ A ((compTurn (.ListComp elt [⟨target,iter,ifs,0⟩] scope pos) 0 it acc env).onRaise (fun x=>do noteFrame x env; theTreesLotGoes x)) _ _ s
 refine wpAny_noted ?_
 rw [compTurn_list]
 refine wpAny_bind (wpAny_standAt (wpAny_bind (wpAny_mono (turn n s hI) (fun r s₁ h₁=>?_) fun _ _ h'=>h'.elim)))
 cases r with
 | none=>exact wpAny_pure h₁
 | some v =>
  refine wpAny_bind (wpAny_mono h₁ (fun _ s₁ h₁=>?_) fun _ _ h'=>h'.elim)
  refine wpAny_bind (wpAny_mono h₁ (fun _ s₂ h₂=>wpAny_bind (wpAny_mono h₂ (fun ok s₃ h₃=>?_) fun _ _ h'=>h'.elim)) fun _ _ h'=>h'.elim)
  cases ok with
  | false=>exact wpAny_pure ⟨rfl,h₃⟩
  | true =>
   exact wpAny_bind (wpAny_bind (wpAny_mono h₃ (fun x s₄ h₄=>wpAny_bind (wpAny_mono h₄ (fun _ s₅ h₅=>wpAny_pure (wpAny_pure ⟨rfl,h₅⟩)) fun _ _ h'=>h'.elim)) fun _ _ h'=>h'.elim))
def kept:St→St→Prop
 | [],[]=>True
 | none :: r,_ :: r'=>kept r r'
 | some v :: r,y :: r'=>y=some v∧kept r r'
 | [],_ :: _=>False
 | _ :: _,[]=>False
theorem eO:∀ {a b:St},kept a b→a.length=b.length
 | [],[],_=>rfl
 | none :: r,_ :: r',h=>congrArg (· + 1) (eO (a:=r) (b:=r') h)
 | some v :: r,y :: r',h=>congrArg (· + 1) (eO (a:=r) (b:=r') h.2)
 | [],_ :: _,h=>False.elim h
 | none :: _,[],h=>False.elim h
 | some _ :: _,[],h=>False.elim h
theorem dN:∀ {a b:St},kept a b→∀ (i:Nat) (v:V),a[i]? = some (some v)→b[i]? = some (some v)
 | [],[],_,i,v,e=>by simp at e
 | none :: r,_ :: r',h,0,v,e=>by simp at e
 | none :: r,_ :: r',h,i + 1,v,e=>by simpa using dN (a:=r) (b:=r') h i v (by simpa using e)
 | some w :: r,y :: r',h,0,v,e=>by simp at e; subst e; simp [h.1]
 | some w :: r,y :: r',h,i + 1,v,e=>by simpa using dN (a:=r) (b:=r') h.2 i v (by simpa using e)
 | [],_ :: _,h,_,_,_=>False.elim h
 | none :: _,[],h,_,_,_=>False.elim h
 | some _ :: _,[],h,_,_,_=>False.elim h
def li (J:It) (g:TG) (tt:TT) (te:TE) (σ0:St) (H:Hp) (Z:List V→Hp→Prop):Prop :=
 ∃ W:Nat→Nat→List V→Hp→Prop,(∃ m,W 0 m [] H)∧∀ i m acc H,W i m acc H →
  (J.stop i H∧acc.length≤sizeLine∧Z acc H)∨(J.go i H∧acc.length<sizeLine∧∃ N:List V→Hp→Prop,(∀ acc' H',N acc' H'→∃ m',m'<m∧W (i + 1) m' acc' H') ∧
   ∀ x H',J.yld i H x H'→g x σ0 H' fun σ2 H2=>kept σ0 σ2∧tt σ2 H2 fun b H3=>if b=true then te σ2 H3 fun v H4=>N (acc++[v]) H4 else N acc H3)
theorem HOk.adopt {P:Program} {w:World} {H:Hp} {h:Heap} {a:Addr} {o:HO} (x:HOk P w H h) (hn:H a=none) (new:bJ P w (upd H a o) h a o):HOk P w (upd H a o) h:=fun b u e=>by
 by_cases hb:b=a
 ·subst hb; rw [aJ] at e; cases e; exact new
 ·rw [ar hb] at e
  exact (x b u e).stay (fun c v _ q=>q) (fun c q=>by rw [ar (aq q hn)]; exact q) (fun c xs q=>by rw [ar (aq q hn)]; exact q) fun c ob u q=>by rw [ar (aq q hn)]; exact q
theorem ig {elt tg iter:Expr} {ifs:List Expr} {pos:Pos} {J:It} {fp:List Addr} {it:Addr} {tn:Nat→Heap→Prop} {g:TG} {tt:TT} {te:TE} {Z:List V→Hp→Prop} {E:Value→Shared→Prop}
 {RR:Value→Addr→Result→Shared→Prop} (c:CompOk X scope cl own js) (hc:X.calm=true) (I:Inv X pins σ H s) (T:Turn X.prog X.w X.K tg J fp it tn) (t0:tn 0 s.heap) (hf:∀ b∈fp,iY X pins H b)
 (inner:∀ (C:Addr) (s₀:Shared) (H₀:Hp) (ex:List Addr),PG (bo X scope cl (cO X own js) C s₀ H₀ ex) tg g∧PIf (bo X scope cl (cO X own js) C s₀ H₀ ex) ifs tt∧PE (bo X scope cl (cO X own js) C s₀ H₀ ex) elt te)
 (hW:li J g tt te (bM own js σ) H Z)
 (hRR:∀ (D C:Addr) (s':Shared) (acc:List V) (H':Hp),(∃ m,s'.heap.Ns C m)→H' D=none→Z acc H'→s.heap.objs.size≤C→C≠X.env.locals→(upd H' D (.lst acc)) C=none→(∀ h',Heap.SameBut C s'.heap h'→Inv X pins σ (upd H' D (.lst acc)) { s' with heap:=h' })→RR (.ref D) C (.ok .next) s') :
 wpAny (model X.prog X.w) X.A (newList []) (fun acc s₃=>wpAny (model X.prog X.w) X.A (newFunctionEnv scope X.env.globals cl [] X.env.qual none .none (some X.env)) (fun cenv s₄ =>
  codeAny (model X.prog X.w) X.A (.compStart (.ListComp elt [⟨tg,iter,ifs,0⟩] scope pos) 0 (.ref it) acc { cenv with scope:=relabel scope X.env }) (RR acc cenv.locals) s₄) E s₃) E s:=by
 refine wpAny_newObj_type (wpAny_newFunctionEnv c.nc (by intro y hy; simp at hy) (fun h₁ hns₁ hsb₁=>?_) c.kind)
 dsimp only at hns₁ hsb₁ ⊢
 generalize hH2:s.heap.push { cls:=.type "list",dict:=none,data:=.seq ([]:List Value).toArray } = H2 at hns₁ hsb₁ ⊢
 have hCs:H2.objs.size=s.heap.objs.size + 1:=by rw [← hH2,Heap.size_push]
 have hns₁:h₁.Ns H2.objs.size (fun _=>none):=hns₁
 have hCle:s.heap.objs.size≤H2.objs.size:=by rw [hCs]; exact Nat.le_succ _
 have hDC:s.heap.objs.size≠H2.objs.size:=by rw [hCs]; exact Nat.ne_of_lt (Nat.lt_succ_self _)
 have below:∀ b,b<s.heap.objs.size→b≠H2.objs.size∧b≠s.heap.objs.size:=fun b hb=>⟨by rw [hCs]; exact Nat.ne_of_lt (Nat.lt_succ_of_lt hb),Nat.ne_of_lt hb⟩
 have old:∀ b o,s.heap.get? b=some o→h₁.get? b=some o:=fun b o e=>hsb₁.extBut b o (below b (Heap.lt_size e)).1 (Heap.get?_push_of_some _ (hH2 ▸ Heap.get?_push_of_some _ e))
 have hD1:h₁.get? s.heap.objs.size=some { cls:=.type "list",data:=.seq ([]:List Value).toArray }:=hsb₁.extBut _ _ hDC (Heap.get?_push_of_some _ (hH2 ▸ Heap.get?_push_size _ rfl))
 have hlt:∀ b∈fp,b<s.heap.objs.size:=fun b hb=>by
  obtain ⟨o,e,_⟩:=T.obj 0 _ t0 b hb
  exact Heap.lt_size e
 have hCL:H2.objs.size≠X.env.locals:=fun z=>absurd (Nat.lt_of_lt_of_le I.lt (by rw [← z]; exact hCle)) (Nat.lt_irrefl _)
 have hDfs:s.heap.objs.size ∉ frs X.stack:=fun z=>by
  rcases List.mem_cons.mp (I.stkSub _ z) with q | q
  ·exact absurd I.lt (by rw [← q]; exact Nat.lt_irrefl _)
  ·exact I.nofs (Nat.le_refl _) q
 have hfs:∀ b∈fp,b ∉ frs X.stack:=fun b hb z=>by
  rcases List.mem_cons.mp (I.stkSub b z) with q | q
  ·exact (hf b hb).2.1 q
  ·exact (hf b hb).2.2.1 q
 have hDcell:∀ x d,cl.lookup x=some d→d≠s.heap.objs.size:=fun x d e=>by
  obtain ⟨v,q⟩:=I.cell x d (c.cells.get e)
  exact Nat.ne_of_lt q.lt
 have fresh:H s.heap.objs.size=none:=I.hok.fresh (Nat.le_refl _)
 obtain ⟨W,⟨m0,w0⟩,turn⟩:=hW
 have loop:∀ s₃:Shared,s₃ = { s with heap:=h₁,toks:=s.toks + ([]:List (Str×Value)).length } →
  codeAny (model X.prog X.w) X.A (.compLoop (.ListComp elt [⟨tg,iter,ifs,0⟩] scope pos) 0 (.ref it) (.ref s.heap.objs.size) (compEnvC scope cl H2.objs.size X.env)) (RR (.ref s.heap.objs.size) H2.objs.size) s₃:=by
  rintro s₃ rfl
  have I0:=kR (t':=s.toks + ([]:List (Str×Value)).length) c I hf hlt hCle old hns₁
  obtain ⟨hg,hi,he⟩:=inner H2.objs.size s H fp
  generalize hY:bo X scope cl (cO X own js) H2.objs.size s H fp=Y at I0 hg hi he
  have Yp:Y.prog=X.prog:=by rw [← hY]; rfl
  have Yw:Y.w=X.w:=by rw [← hY]; rfl
  have YK:Y.K=X.K:=by rw [← hY]; rfl
  have YA:Y.A=X.A:=by rw [← hY]; rfl
  have Ye:Y.env=compEnvC scope cl H2.objs.size X.env:=by rw [← hY]; rfl
  have Yl:Y.env.locals=H2.objs.size:=by rw [← hY]; rfl
  have Yc:Y.env.cells=cl:=by rw [← hY]; rfl
  have Yf:Y.fs=frs X.stack:=by rw [← hY]; rfl
  have Yx:Y.ex=fp:=by rw [← hY]; rfl
  have Ys:Y.s₀=s:=by rw [← hY]; rfl
  have YH:Y.H₀=H:=by rw [← hY]; rfl
  have Yn:Y.pn=[]:=by rw [← hY]; rfl
  have Yo:Y.calm=true:=by rw [← hY]; exact hc
  have YE:Y.xe=fun _ _=>False:=by rw [← hY]; rfl
  have fpY:∀ {H':Hp} (pn:List (Addr×Obj)),(∀ b∈fp,H' b=none)→(∀ b∈fp,∀ p∈pn,p.1≠b)→∀ b∈fp,iY Y pn H' b:=fun pn hn hp b hb =>
   ⟨hn b hb,by rw [Yl]; exact (below b (hlt b hb)).1,by rw [Yf]; exact hfs b hb,.inl (by rw [Yx]; exact hb),fun x d e=>(hf b hb).2.2.2.2.1 x d (c.cells.get (by rw [← Yc]; exact e)),fun p hp'=>hp b hb p (by rw [Yn] at hp'; exact hp')⟩
  refine eE (fun n s'=>∃ i acc its k H',Inv Y [] (bM own js σ) H' s'∧tn i s'.heap∧(∀ b∈fp,H' b=none)∧W i n acc H'∧H' s.heap.objs.size=none∧s'.heap.get? s.heap.objs.size=some { cls:=.type "list",data:=.seq (its:List Value).toArray k }∧aN acc its) ?_ m0
   ⟨0,[],[],0,H,I0,T.keep 0 _ _ t0 (fun b hb o e=>old b o e),fun b hb=>(hf b hb).1,w0,fresh,hD1,.nil⟩
  rintro n s' ⟨i,acc,its,k,H',I',tn',fr',w',hD',oD',hv'⟩
  have hpinD:∀ b∈fp,∀ p∈[(s.heap.objs.size,({ cls:=.type "list",data:=.seq its.toArray k }:Obj))],p.1≠b:=fun b hb p hp=>by
   rw [List.mem_singleton] at hp
   subst hp
   exact fun z=>(below b (hlt b hb)).2 z.symm
  have ID:Inv Y [(s.heap.objs.size,({ cls:=.type "list",data:=.seq its.toArray k }:Obj))] (bM own js σ) H' s':=I'.pins_of fun p hp=>by
   rw [List.mem_singleton] at hp
   subst hp
   exact ⟨oD',hD',by rw [Yl]; exact hDC,by rw [Yf]; exact hDfs,fun v z=>by cases z⟩
  rcases turn i n acc H' w' with ⟨stop,hlen,hz⟩ | ⟨go,hlen,N,hN,step⟩
  ·have hd:=T.done Y Yp Yw YK Yo i _ s' (bM own js σ) H' (fun _ _=>False) ID (fpY _ fr' hpinD) tn' stop
   rw [YA] at hd
   refine thn hd fun r s1 ⟨hr,I1⟩=>?_
   subst hr
   obtain ⟨oD1,_⟩:=I1.pin _ (List.mem_append_right _ (List.mem_singleton.mpr rfl))
   have hC0:H' H2.objs.size=none:=by have:=I1.free; rw [Yl] at this; exact this
   have B1:Un (frs X.stack) fp H H' s.heap s1.heap:=by have:=I1.base; rw [Yf,Yx,YH,Ys] at this; exact this
   refine hRR s.heap.objs.size H2.objs.size s1 acc H' (by obtain ⟨m,hn,_⟩:=I1.loc; rw [Yl] at hn; exact ⟨m,hn⟩) hD' hz hCle hCL (by rw [ar (Ne.symm hDC)]; exact hC0) fun h' hsb=>?_
   have at':∀ b o,b≠H2.objs.size→s1.heap.get? b=some o→h'.get? b=some o:=fun b o hb e=>by rw [hsb.2 b hb]; exact e
   refine I.call' (s':={ s1 with heap:=h' }) (ch:=fp) (by have:=I1.os; rw [Ys] at this; exact this) ⟨fun b o q nn hb hx=>?_,fun b o q nn hb hx=>?_,fun b o q nn hx=>?_,fun b o q hx=>?_,fun b xs q=>?_,fun b o u q=>?_,fun b ps q0 q=>?_⟩ ?_ I1.bare fun b hb=>⟨(hf b hb).2.2.2.1,(hf b hb).2.1,(hf b hb).2.2.2.2.1,(hf b hb).2.2.2.2.2⟩
   ·exact at' b o (below b (Heap.lt_size q)).1 (B1.keep b o q nn hb hx)
   ·obtain ⟨sl,e⟩:=B1.slot b o q nn hb hx
    exact ⟨sl,at' b _ (below b (Heap.lt_size q)).1 e⟩
   ·rw [ar (below b (Heap.lt_size q)).2]; exact B1.free b o q nn hx
   ·obtain ⟨o',e⟩:=B1.there b o q hx
    exact ⟨o',at' b _ (below b (Heap.lt_size q)).1 e⟩
   ·have q':=B1.tups b xs q
    rw [ar (aq q' hD')]; exact q'
   ·have q':=B1.frzs b o u q
    rw [ar (aq q' hD')]; exact q'
   ·obtain ⟨more,q'⟩:=B1.tbls b ps _ q
    exact ⟨more,by rw [ar (aq q' hD')]; exact q'⟩
   ·have hok1:HOk X.prog X.w H' h':=fun a o e=>by
     have hok:=I1.hok
     rw [Yp,Yw] at hok
     refine (hok a o e).stay (fun b u hb q=>at' b u ?_ q) (fun _ q=>q) (fun _ _ q=>q) fun _ _ _ q=>q
     rcases hb with rfl | hb
     ·exact aq e hC0
     ·exact aq hb hC0
    exact hok1.adopt hD' ⟨hlen,its,k,hv',at' _ _ hDC oD1⟩
  ·have hd:=T.item Y Yp Yw YK Yo i _ s' (bM own js σ) H' (fun _ _=>False) ID (fpY _ fr' hpinD) tn' go
   rw [YA] at hd
   refine thn hd fun r s1 ⟨u,hr,h4⟩=>?_
   subst hr
   have h4:=h4
   refine thn h4 fun _ s2 ⟨x,H5,I5,r5,y5,tn5,fr5⟩=>?_
   have I5':=I5.pinned (fpY _ fr5 hpinD) (T.obj _ _ tn5)
   have hg':=hg.go _ s2 _ H5 x u _ I5' r5 (step x H5 y5)
   rw [Yp,Yw,YA,Ye,YE] at hg'
   refine thn hg' fun _ s3 ⟨σ6,H6,I6,kp6,q6⟩=>?_
   have hi':=hi.go _ s3 σ6 H6 _ I6 q6
   rw [Yp,Yw,YA,Ye,YE] at hi'
   refine thn hi' fun ok s4 ⟨H7,I7,q7⟩=>?_
   cases ok with
   | false =>
    rw [if_neg Bool.false_ne_true] at q7 ⊢
    obtain ⟨m',hm,w7⟩:=hN _ _ q7
    obtain ⟨oD7,hD7,_⟩:=I7.pin _ (List.mem_append_right _ (List.mem_append_left _ (List.mem_singleton.mpr rfl)))
    refine ⟨m',hm,i + 1,acc,its,k,H7,(I7.pins_of (pins':=[]) fun p hp=>(by cases hp)).weak (eO kp6) (dN kp6),T.keep _ _ _ tn5 fun b hb o e=>(I7.pin (b,o) (List.mem_append_right _ (List.mem_append_right _ (cu hb e)))).1,fun b hb=>?_,w7,hD7,oD7,hv'⟩
    obtain ⟨o,e,_⟩:=T.obj _ _ tn5 b hb
    exact (I7.pin (b,o) (List.mem_append_right _ (List.mem_append_right _ (cu hb e)))).2.1
   | true =>
    rw [if_pos rfl] at q7 ⊢
    have he':=he.go _ s4 σ6 H7 _ I7 q7
    rw [Yp,Yw,YA,Ye,YE] at he'
    refine thn he' fun v s5 ⟨xv,H8,I8,r8,n8⟩=>?_
    obtain ⟨m',hm,w8⟩:=hN _ _ n8
    obtain ⟨oD8,hD8,_⟩:=I8.pin _ (List.mem_append_right _ (List.mem_append_left _ (List.mem_singleton.mpr rfl)))
    have hsz:its.toArray.size<sizeLine:=by rw [List.size_toArray,← hv'.length]; exact hlen
    refine call_meets F.slot_list_append ⟨_,oD8,rfl⟩ F.entry_list_append (F.args_list_append_2 _ _) (PySem.list_append s.heap.objs.size its.toArray k v (Nat.le_of_lt hsz)) ⟨oD8,?_⟩
    have q:=PySem.IsL.update oD8 (fun a=>a.push v)
    have J8:Inv Y (gO fp s2.heap) σ6 H8 s5:=I8.pins_of fun p hp=>I8.pin p (List.mem_append_right _ (List.mem_append_right _ hp))
    have ne8:∀ b,b∈fp→b≠s.heap.objs.size:=fun b hb=>(below b (hlt b hb)).2
    have J9:=J8.turned (t':=s5.toks) (h':=s5.heap.update s.heap.objs.size (Obj.mapSeq fun a=>a.push v)) (it:=s.heap.objs.size) (fun b o hb e=>(Heap.get?_update_other s5.heap _ (Ne.symm hb)).trans e) hD8 (by rw [Yl]; exact hDC) (.inr (by rw [Ys]; exact Nat.le_refl _)) (fun x d e=>hDcell x d (by rw [← Yc]; exact e))
     (fun p hp=>by
      rw [Yn,List.nil_append] at hp
      obtain ⟨hb,_⟩:=g7 hp
      exact ne8 _ hb)
    have keep9:∀ b o,b∈fp→s2.heap.get? b=some o→(s5.heap.update s.heap.objs.size (Obj.mapSeq fun a=>a.push v)).get? b=some o:=fun b o hb e=>(J9.pin (b,o) (List.mem_append_right _ (cu hb e))).1
    refine ⟨m',hm,i + 1,acc++[xv],its++[v],(if ((its++[v]).toArray.size == its.toArray.size)=true then k else k + 1),H8,(J9.pins_of (pins':=[]) fun p hp=>(by cases hp)).weak (eO kp6) (dN kp6),T.keep _ _ _ tn5 fun b hb o e=>keep9 b o hb e,fun b hb=>?_,w8,hD8,?_,hv'.append (.cons r8 .nil)⟩
    ·obtain ⟨o,e,_⟩:=T.obj _ _ tn5 b hb
     exact (J9.pin (b,o) (List.mem_append_right _ (cu hb e))).2.1
    ·have q':=q
     simp only [List.push_toArray] at q'
     exact q'
 exact codeAny_compStart_list (loop _ rfl) (T.self _ 0 _ _ _ (T.keep 0 _ _ t0 (fun b hb o e=>old b o e)) (loop _ rfl))
def jx (wi:TI) (g:TG) (tt:TT) (te:TE) (own:List Str) (js:List Nat):TE:=fun σ H Q=>wi σ H fun J H1=>li J g tt te (bM own js σ) H1 fun acc H2=>∀ p,H2 p=none→Q (.ref p) (upd H2 p (.lst acc))
theorem lw {elt tg iter:Expr} {ifs:List Expr} {pos:Pos} {wi:TI} {g:TG} {tt:TT} {te:TE} (own:List Str) (js:List Nat) (c:CompOk X scope cl own js) (hc:X.calm=true) (hi:PI X tg iter wi)
 (inner:∀ (C:Addr) (s₀:Shared) (H₀:Hp) (ex:List Addr),PG (bo X scope cl (cO X own js) C s₀ H₀ ex) tg g∧PIf (bo X scope cl (cO X own js) C s₀ H₀ ex) ifs tt∧PE (bo X scope cl (cO X own js) C s₀ H₀ ex) elt te)
 (hs:∀ x,foldedSetIterable iter X.env x=pure x:=by intro _; rfl):PE X (.ListComp elt [⟨tg,iter,ifs,0⟩] scope pos) (jx wi g tt te own js):=by
 refine ⟨fun pins s σ H Q I h=>?_⟩
 rw [eval_ListComp]
 refine wpAny_comprehension_free (use:=none) rfl hs c.clos c.kind c.names (thn (hi.go pins s σ H _ I h) fun v s1 h1=>thn h1 fun itv s2 h2=>?_)
 obtain ⟨it,fp,tn,J,H2,e,I2,T,st2,f2,hW⟩:=h2
 subst e
 refine ig (RR:=fun acc C=>compPost (model X.prog X.w) X.A X.xe none (EP X pins σ Q) acc C) c hc I2 T st2 f2 inner hW ?_
 intro D C s' acc H' hn hD hz hDC hCL hUC hI
 exact ⟨hn.choose,hn.choose_spec,fun h' hsb=>⟨.ref D,_,hI h' hsb,rfl,hz D hD⟩⟩
theorem gm {elt tg iter:Expr} {ifs:List Expr} {pos spos py:Pos} {wi:TI} {g:TG} {tt:TT} {te:TE} {i:Nat} {y:Str} (own:List Str) (js:List Nat) (c:CompOk X scope cl own js) (hc:X.calm=true) (hN:X.N.Nodup) (hy:X.N[i]? = some y) (hx:Loc X.env.scope y) (hi:PI X tg iter wi)
 (inner:∀ (C:Addr) (s₀:Shared) (H₀:Hp) (ex:List Addr),PG (bo X scope cl (cO X own js) C s₀ H₀ ex) tg g∧PIf (bo X scope cl (cO X own js) C s₀ H₀ ex) ifs tt∧PE (bo X scope cl (cO X own js) C s₀ H₀ ex) elt te)
 (hsw:swapsWith (.ListComp elt [⟨tg,iter,ifs,0⟩] scope pos) (some (.Name y py)) spos.line X.env=pure true:=by rfl)
 (hs:∀ x,foldedSetIterable iter X.env x=pure x:=by intro _; rfl) (hf:X.fn y=true∨X.env.scope.names.lookup y=some .local:=by first | exact .inl rfl | exact .inr rfl | assumption) :
 PS X (.Assign [.Name y py] (.ListComp elt [⟨tg,iter,ifs,0⟩] scope pos) spos) (pB (jx wi g tt te own js) (gw i)):=by
 refine ⟨fun pins s σ H D I h=>?_⟩
 rw [exec_Assign_Name_used _ _ _ _ hsw]
 refine wpAny_bind (wpAny_standAt (wpAny_bind ?_))
 show wpAny _ X.A (do let _ ← comprehension (.ListComp elt [⟨tg,iter,ifs,0⟩] scope pos) scope X.env _ (newList []) false (eval iter X.env) (some (assign (.Name y py) X.env))) _ _ s
 refine wpAny_bind (wpAny_mono (wpAny_comprehension_free (use:=some (assign (.Name y py) X.env)) (Q:=fun _ s'=>SP X pins D .next s') rfl hs c.clos c.kind c.names
  (thn (hi.go pins s σ H _ I h) fun v s1 h1=>thn h1 fun itv s2 h2=>?_)) (fun _ s' hq=>wpAny_pure (wpAny_pure hq)) fun _ _ e=>e)
 obtain ⟨it,fp,tn,J,H2,e,I2,T,st2,f2,hW⟩:=h2
 subst e
 refine ig (RR:=fun acc C=>compPost (model X.prog X.w) X.A X.xe (some (assign (.Name y py) X.env)) (fun _ s'=>SP X pins D .next s') acc C) c hc I2 T st2 f2 inner hW ?_
 intro D' C s' acc H' hn hD hz hDC hCL hUC hI
 show wpAny _ X.A (assign (.Name y py) X.env (.ref D')) _ _ _
 have I9:=hI s'.heap (Heap.SameBut.refl _ _)
 obtain ⟨m,hm⟩:=hn
 refine wpAny_assign_Name (ib (v:=.ref D') I9 hN hy hx rfl (fun s'' I'' ⟨a,sb,ha⟩=>?_) hf)
 have aC:C≠a:=by
  rcases ha with ha | ha
  ·rw [ha]; exact hCL
  ·intro z
   subst z
   obtain ⟨v,q⟩:=I2.cell y C ha
   exact absurd (Nat.lt_of_lt_of_le q.lt hDC) (Nat.lt_irrefl _)
 refine ⟨m,hm.sameBut sb aC,fun h' hsb=>?_⟩
 refine ⟨σ.set i (some (.ref D')),upd H' D' (.lst acc),I''.turned (t':=s''.toks) (it:=C) (fun b o hb e=>by rw [hsb.2 b hb]; exact e) ?_ hCL (.inr (Nat.le_trans I2.sz hDC)) (fun x d e z=>?_) (fun p hp z=>?_),hz D' hD⟩
 ·exact hUC
 ·obtain ⟨v,q⟩:=I2.cell x d e
  rw [z] at q
  exact absurd (Nat.lt_of_lt_of_le q.lt hDC) (Nat.lt_irrefl _)
 ·have q:=Heap.lt_size (I2.pin p hp).1
  rw [z] at q
  exact absurd (Nat.lt_of_lt_of_le q hDC) (Nat.lt_irrefl _)
end
def Ite (a:Addr):It :=
 ⟨fun i H=>∃ xs x,H a=some (.lst xs)∧xs[i]? = some x,fun i H v H'=>∃ p x,H p=none∧v = .ref p∧H'=upd H p (.tup [.int i,x])∧∀ xs,H a=some (.lst xs)→xs[i]? = some x,fun i H=>∃ xs,H a=some (.lst xs)∧xs.length≤i⟩
theorem m9 {P:Program} {w:World} {K:PySem.W.Frag} {es:List Expr} {k:Nat} {pos:Pos} (a e it:Addr) (hne:e≠it) :
 Turn P w K (.Tuple es k pos) (Ite a) [e,it] e (fun i h=>(∃ old,IsEnum h e it i old)∧h.IsListIter it a i) where
 mem:=by simp
 obj:=fun i h st b hb=>by
  rw [List.mem_cons,List.mem_singleton] at hb
  rcases hb with rfl | rfl
  ·obtain ⟨⟨old,q⟩,_⟩:=st
   exact ⟨_,q,fun v z=>by cases z⟩
  ·obtain ⟨_,o,q,c,d⟩:=st
   exact ⟨o,q,fun v z=>by rw [d] at z; cases z⟩
 keep:=fun i h h' st kp=>⟨by obtain ⟨old,q⟩:=st.1; exact ⟨old,kp e (by simp) _ q⟩,st.2.at fun o q=>kp it (by simp) o q⟩
 item:=by
  intro X hP hw hK hc i pins s σ H E I hf st hg
  subst hP hw hK
  obtain ⟨xs,x,hq,hx⟩:=hg
  obtain ⟨⟨old,he⟩,hit⟩:=st
  obtain ⟨its,rv,p,hz⟩:=I.list (SqL.of hq)
  obtain ⟨u,hu,ru⟩:=rv.get hx
  obtain ⟨f0,f1,f2,f3,f4,f5⟩:=hf e (by simp)
  obtain ⟨g0,g1,g2,g3,g4,g5⟩:=hf it (by simp)
  refine wpAny_pyNext_enum_item he hit p.isList (x:=u) (by simpa using hu) hne fun h' eo it' ht hsz hk=>?_
  refine ⟨.ref s.heap.objs.size,rfl,?_⟩
  refine wpAny_letOwnedTupleGo_enum eo fun h2 he2 hs2=>?_
  have fr:H s.heap.objs.size=none:=I.hok.fresh (Nat.le_refl _)
  have ne2:∀ b,b<s.heap.objs.size→b≠s.heap.objs.size:=fun b hb=>Nat.ne_of_lt hb
  have ee:e<s.heap.objs.size:=Heap.lt_size he
  have k2:∀ b o,b≠e→b≠it→s.heap.get? b=some o→h2.get? b=some o:=fun b o h1 h2' q=>(hs2.2 b h1).trans (hk b o h1 h2' q)
  have ht2:h2.get? s.heap.objs.size=some { cls:=.type "tuple",data:=.seq #[.int i s.toks,u] }:=(hs2.2 _ (Nat.ne_of_gt ee)).trans ht
  have trk:∀ b v,H b=some v→b≠e∧b≠it:=fun b v q=>⟨aq q f0,aq q g0⟩
  have hok0:HOk X.prog X.w H h2:=fun b o q=>(I.hok b o q).stay (fun c v hc q'=>by
   rcases hc with rfl | hc
   ·exact k2 c v (trk c _ q).1 (trk c _ q).2 q'
   ·exact k2 c v (trk c _ hc).1 (trk c _ hc).2 q') (fun _ z=>z) (fun _ _ z=>z) fun _ _ _ z=>z
  have I1:Inv X pins σ (upd H s.heap.objs.size (.tup [.int i,x])) { s with heap:=h2,toks:=s.toks + 1 }:=by
   refine I.step (g':=s.gens) (d':=s.drawn) (ch:=[e,it]) (fun b hb=>?_) (fun b o _ _ hc q _=>k2 b o (fun z=>hc (by simp [z])) (fun z=>hc (by simp [z])) q) (fun b o _ _ hc q _=>⟨o.slots,k2 b o (fun z=>hc (by simp [z])) (fun z=>hc (by simp [z])) q⟩)
    (fun b o _ q n=>by rw [ar (ne2 b (Heap.lt_size q))]; exact n) (fun b o hc q=>⟨o,k2 b o (fun z=>hc (by simp [z])) (fun z=>hc (by simp [z])) q⟩) (fun b ys q=>by rw [ar (aq q fr)]; exact q) (fun b o v q=>by rw [ar (aq q fr)]; exact q)
    (fun b ps _ q=>⟨#[],by rw [ar (aq q fr),q]; simp⟩) (fun m hm=>?_) ?_ I.bare
   ·rw [List.mem_cons,List.mem_singleton] at hb
    rcases hb with rfl | rfl
    ·exact ⟨f3,f1,f4,f5⟩
    ·exact ⟨g3,g1,g4,g5⟩
   ·obtain ⟨o,es',ep,ho,r⟩:=hm
    exact ⟨o,es',ep,k2 _ o (Ne.symm f1) (Ne.symm g1) ho,r⟩
   ·exact hok0.adopt fr ⟨by show 2≤sizeLine; decide,[.int i s.toks,u],.cons ⟨_,rfl⟩ (.cons ru .nil),⟨_,ht2,rfl,_,rfl⟩⟩
  refine ⟨.ref s.heap.objs.size,_,I1,rfl,⟨_,x,fr,rfl,rfl,fun ys hy=>by rw [hq] at hy; cases hy; exact hx⟩,⟨⟨_,by simpa using he2⟩,it'.extBut hs2.extBut (Ne.symm hne)⟩,fun b hb=>?_⟩
  have:H b=none:=(hf b hb).1
  have hb':b<s.heap.objs.size:=by
   rw [List.mem_cons,List.mem_singleton] at hb
   rcases hb with rfl | rfl
   ·exact ee
   ·obtain ⟨o,q,_⟩:=hit; exact Heap.lt_size q
  rw [ar (ne2 b hb')]
  exact this
 done:=by
  intro X hP hw hK hc i pins s σ H E I hf st hg
  subst hP hw hK
  obtain ⟨xs,hq,hx⟩:=hg
  obtain ⟨⟨old,he⟩,hit⟩:=st
  obtain ⟨its,rv,p,hz⟩:=I.list (SqL.of hq)
  obtain ⟨g0,g1,g2,g3,g4,g5⟩:=hf it (by simp)
  have hl:=rv.length
  exact wpAny_pyNext_enum_end (I.ok.hd hc) he hit p.isList (by simp; omega) fun h' eb=>⟨rfl,I.turned (t':=s.toks) (fun b o hb e=>eb b o hb e) g0 g1 g3 g4 g5⟩
 self:=fun _ _ _ _ _ st h=>by
  obtain ⟨⟨old,he⟩,_⟩:=st
  exact wpAny_pyIter_enum he h
section
variable {X:Cx} {es:List Expr} {k:Nat} {tpos:Pos}
def iEnum (ta:TA):TI:=fun σ H R=>ta σ H fun vs H1=>∃ a,vs=[.ref a]∧(∃ xs,H1 a=some (.lst xs))∧R (Ite a) H1
theorem sA {l:Expr} {ta:TA} {p pos:Pos} (hg:Gl X "enumerate") (hm:X.mg "enumerate" = none) (ha:PA X [l] ta) (hs:starEach [l] X.env=[(false,eval l X.env)]:=by rfl):PI X (.Tuple es k tpos) (.Call (.Name "enumerate" p) [l] [] pos) (iEnum ta):=by
 refine ⟨fun pins s σ H R I h=>?_⟩
 refine wpAny_Call_Name_kw (dD I hg hm iX ?_)
 refine PyProof.Rows.callWith_type1 (thn (ha pos pins s σ H _ I h) fun us s1 ⟨vs,H1,I1,r1,a,e,⟨xs,hx⟩,q⟩=>?_) hs rfl
 subst e
 obtain ⟨u,rfl,ru⟩:=cH r1
 cases ru
 obtain ⟨_,its,n,rv,ho⟩:=(show bJ X.prog X.w H1 s1.heap a (.lst xs) from I1.hok a _ hx)
 refine call_enumerate_1 ho fun h' he hit hsz hk=>?_
 have I2:Inv X pins σ H1 { s1 with heap:=h' }:=I1.kept (t':=s1.toks) hk
 refine wpAny_pyIter_enum he ⟨s1.heap.objs.size + 1,[s1.heap.objs.size + 1,s1.heap.objs.size],_,Ite a,H1,rfl,I2,m9 a (s1.heap.objs.size + 1) s1.heap.objs.size (Nat.succ_ne_self _),⟨⟨_,he⟩,hit⟩,fun b hb=>?_,q⟩
 have hb':s1.heap.objs.size≤b:=by
  rw [List.mem_cons,List.mem_singleton] at hb
  rcases hb with rfl | rfl <;> omega
 have z:=I1.fpOk (H':=H1) hb' (I1.hok.fresh hb')
 exact z
end
mutual
def toP:D→PyData
 | .non=>.none
 | .bl b=>.bool b
 | .int i=>.int i
 | .str x=>.str x
 | .tup ds=>.tuple (toPs ds)
 | .lst ds=>.list (toPs ds)
 | .dct=>.dict []
 | .dic _ _=>.dict []
 | .obj _ _ _=>.dict []
 | .scr _ _=>.dict []
 | .ext _=>.dict []
def toPs:List D→List PyData
 | []=>[]
 | d :: ds=>toP d :: toPs ds
end
mutual
theorem dh {X:Cx} {pins:List (Addr×Obj)} {σ:St} {H:Hp} {s:Shared} (I:Inv X pins σ H s):∀ (d:D) (v:V) (u:Value),Rep H d v→a7 v u→(toP d).canLay0=true→∃ as,Reads s.heap u (toP d) as
 | .non,v,u,h,r,_=>by rw [Rep] at h; subst h; cases r; rw [toP]; exact ⟨_,.none⟩
 | .bl b,v,u,h,r,_=>by rw [Rep] at h; subst h; cases r; rw [toP]; exact ⟨_,.bool b⟩
 | .int i,v,u,h,r,_=>by rw [Rep] at h; subst h; obtain ⟨t,rfl⟩:=r; rw [toP]; exact ⟨_,.int i t⟩
 | .str x,v,u,h,r,_=>by rw [Rep] at h; subst h; obtain ⟨t,rfl⟩:=r; rw [toP]; exact ⟨_,.str x t⟩
 | .tup ds,v,u,h,r,c=>by
  rw [Rep] at h
  obtain ⟨a,xs,rfl,ha,hx⟩:=h
  cases r
  rw [toP] at c ⊢
  obtain ⟨_,its,rv,o,e1,e2,n,e3⟩:=(show bJ X.prog X.w H s.heap a (.tup xs) from I.hok a _ ha)
  obtain ⟨as,q⟩:=reps_reads I ds xs its hx rv (by rw [PyData.canLay0] at c; exact c)
  exact ⟨_,reads_tuple_at e1 e2 e3 (by simpa using q)⟩
 | .lst ds,v,u,h,r,c=>by
  rw [Rep] at h
  obtain ⟨a,xs,rfl,ha,hx⟩:=h
  cases r
  rw [toP] at c ⊢
  obtain ⟨_,its,n,rv,e1⟩:=(show bJ X.prog X.w H s.heap a (.lst xs) from I.hok a _ ha)
  obtain ⟨as,q⟩:=reps_reads I ds xs its hx rv (by rw [PyData.canLay0] at c; exact c)
  exact ⟨_,reads_list_at e1 rfl rfl (by simpa using q)⟩
 | .dct,v,u,h,r,c=>by rw [toP,PyData.canLay0] at c; cases c
 | .dic _ _,v,u,h,r,c=>by rw [toP,PyData.canLay0] at c; cases c
 | .obj _ _ _,v,u,h,r,c=>by rw [toP,PyData.canLay0] at c; cases c
 | .scr _ _,v,u,h,r,c=>by rw [toP,PyData.canLay0] at c; cases c
 | .ext _,v,u,h,r,c=>by rw [toP,PyData.canLay0] at c; cases c
theorem reps_reads {X:Cx} {pins:List (Addr×Obj)} {σ:St} {H:Hp} {s:Shared} (I:Inv X pins σ H s):∀ (ds:List D) (vs:List V) (us:List Value),Reps H ds vs→aN vs us→PyData.canLayAll0 (toPs ds)=true→∃ as,ReadsAll s.heap us (toPs ds) as
 | [],vs,us,h,r,_=>by rw [Reps] at h; subst h; cases r; rw [toPs]; exact ⟨_,.nil⟩
 | d :: ds,vs,us,h,r,c=>by
  rw [Reps] at h
  obtain ⟨v,vs',rfl,h1,h2⟩:=h
  rw [toPs] at c ⊢
  rw [PyData.canLayAll0,Bool.and_eq_true] at c
  cases r with
  | cons r1 r2 =>
   obtain ⟨as,q1⟩:=dh I d v _ h1 r1 c.1
   obtain ⟨bs,q2⟩:=reps_reads I ds vs' _ h2 r2 c.2
   exact ⟨_,.cons q1 q2⟩
end
section
variable {X:Cx}
def rEqD:R2:=fun x y H Q=>∃ d e,Rep H d x∧Rep H e y∧SeqAt.shaped (toP d)=true∧SeqAt.shaped (toP e)=true∧Q (.bl (PyData.eqv (toP d) (toP e))) H
def rNeD:R2:=fun x y H Q=>∃ d e,Rep H d x∧Rep H e y∧SeqAt.shaped (toP d)=true∧SeqAt.shaped (toP e)=true∧Q (.bl (!PyData.eqv (toP d) (toP e))) H
theorem cV (hu:X.A.units + 64<cLine):OpR X (compareOp .Eq) rEqD:=by
 intro pins s σ H x y v u Q I rx ry h
 obtain ⟨d,e,h1,h2,c1,c2,q⟩:=h
 obtain ⟨as,r1⟩:=dh I d x v h1 rx (SeqAt.canLay_of_shaped c1)
 obtain ⟨bs,r2⟩:=dh I e y u h2 ry (SeqAt.canLay_of_shaped c2)
 exact eq_dataH r1 r2 c1 c2 hu ⟨.bl _,H,I,rfl,q⟩
theorem bU (hu:X.A.units + 64<cLine):OpR X (compareOp .NotEq) rNeD:=by
 intro pins s σ H x y v u Q I rx ry h
 obtain ⟨d,e,h1,h2,c1,c2,q⟩:=h
 obtain ⟨as,r1⟩:=dh I d x v h1 rx (SeqAt.canLay_of_shaped c1)
 obtain ⟨bs,r2⟩:=dh I e y u h2 ry (SeqAt.canLay_of_shaped c2)
 exact ne_dataH r1 r2 c1 c2 hu ⟨.bl _,H,I,rfl,q⟩
end
def au (ns:List Int):D:=.lst (ns.map .int)
theorem fC (ns:List Int):toPs (ns.map .int)=ns.map .int:=by
 induction ns with
 | nil=>rw [List.map_nil,toPs]; rfl
 | cons n r ih=>rw [List.map_cons,toPs,ih,toP]; rfl
theorem pU (ns:List Int):PyData.canLayAll0 (ns.map .int)=true∧PyData.depthAll (ns.map .int)≤1:=by
 induction ns with
 | nil=>simp [PyData.canLayAll0,PyData.depthAll]
 | cons n r ih=>simp only [List.map_cons,PyData.canLayAll0,PyData.canLay0,PyData.depthAll,PyData.depth,ih.1,Bool.and_self,true_and]; have:=ih.2; omega
theorem pO (ns ms:List Int):PyData.eqvAll (ns.map .int) (ms.map .int)=decide (ns=ms):=by
 induction ns generalizing ms with
 | nil=>cases ms <;> simp [PyData.eqvAll]
 | cons n r ih =>
  cases ms with
  | nil=>simp [PyData.eqvAll]
  | cons m q =>
   rw [List.map_cons,List.map_cons,PyData.eqvAll,PyData.eqv,ih]
   by_cases h:n=m
   ·subst h; simp
   ·simp [h]
theorem jV (ns:List Int):SeqAt.shaped (toP (au ns))=true:=by
 have h:=pU ns
 unfold SeqAt.shaped au
 rw [toP,fC,PyData.canLay0,PyData.depth,h.1,Bool.true_and]
 exact decide_eq_true (by have:=h.2; omega)
theorem nT (ns ms:List Int):PyData.eqv (toP (au ns)) (toP (au ms))=decide (ns=ms):=by
 unfold au
 rw [toP,toP,fC,fC,PyData.eqv,pO]
theorem fG {H:Hp}:∀ ns:List Int,Reps H (ns.map .int) (ns.map V.int)
 | []=>bg
 | n :: r=>bb (a8 n) (fG r)
def a_ (ns ms:List Int):D:=.tup [au ns,au ms]
section
variable {X:Cx}
end
abbrev DSt:=List (Option D)
abbrev Own:=Addr→Option (Nat×List Nat)
mutual
def Sep (G H:Hp) (O:Own) (i:Nat):D→List Nat→V→Prop
 | .non,_,v=>v = .non
 | .bl b,_,v=>v = .bl b
 | .int n,_,v=>v = .int n
 | .str x,_,v=>v = .str x
 | .tup ds,π,v=>∃ a xs,v = .ref a∧G a=some (.tup xs)∧Seps G H O i ds 0 π xs
 | .lst ds,π,v=>∃ a xs,v = .ref a∧O a=some (i,π)∧H a=some (.lst xs)∧Seps G H O i ds 0 π xs
 | .dct,_,_=>False
 | .dic ks ds,π,v=>∃ a xs,v = .ref a∧O a=some (i,π)∧H a=some (.dK (ks.zip xs))∧ks.length=ds.length∧Seps G H O i ds 0 π xs
 | .obj C ks ds,π,v=>∃ a dx xs,v = .ref a∧O a=some (i,π)∧H a=some (.ins C dx (ks.zip xs))∧ks.length=ds.length∧Seps G H O i ds 0 π xs
 | .scr _ _,_,_=>False
 | .ext _,_,_=>False
def Seps (G H:Hp) (O:Own) (i:Nat):List D→Nat→List Nat→List V→Prop
 | [],_,_,xs=>xs=[]
 | d :: ds,k,π,xs=>∃ v vs,xs=v :: vs∧Sep G H O i d (k :: π) v∧Seps G H O i ds (k + 1) π vs
end
def cb (G G':Hp):Prop:=∀ a xs,G a=some (.tup xs)→G' a=some (.tup xs)
theorem aF.ts {G G':Hp} (h:aF G G'):cb G G':=fun a xs e=>h a _ e
mutual
theorem Sep.map {G H G' H':Hp} {O O':Own} {i i':Nat} {f:List Nat→List Nat} (hG:cb G G') (hf:∀ k π,f (k :: π)=k :: f π) :
 ∀ (d:D) (π:List Nat) (v:V),(∀ a τ,O a=some (i,τ++π)→O' a=some (i',f (τ++π))∧H' a=H a)→Sep G H O i d π v→Sep G' H' O' i' d (f π) v
 | .non,_,_,_,h=>by rw [Sep] at *; exact h
 | .bl b,_,_,_,h=>by rw [Sep] at *; exact h
 | .int n,_,_,_,h=>by rw [Sep] at *; exact h
 | .str x,_,_,_,h=>by rw [Sep] at *; exact h
 | .tup ds,π,v,hO,h=>by
  rw [Sep] at *
  obtain ⟨a,xs,h1,h2,h3⟩:=h
  exact ⟨a,xs,h1,hG _ _ h2,Seps.map hG hf ds 0 π xs (fun a τ _=>hO a τ) h3⟩
 | .lst ds,π,v,hO,h=>by
  rw [Sep] at *
  obtain ⟨a,xs,h1,h2,h3,h4⟩:=h
  have q:=hO a [] h2
  exact ⟨a,xs,h1,q.1,q.2.trans h3,Seps.map hG hf ds 0 π xs (fun a τ _=>hO a τ) h4⟩
 | .dic ks ds,π,v,hO,h=>by
  rw [Sep] at *
  obtain ⟨a,xs,h1,h2,h3,h5,h4⟩:=h
  have q:=hO a [] h2
  exact ⟨a,xs,h1,q.1,q.2.trans h3,h5,Seps.map hG hf ds 0 π xs (fun a τ _=>hO a τ) h4⟩
 | .obj C ks ds,π,v,hO,h=>by
  rw [Sep] at *
  obtain ⟨a,dx,xs,h1,h2,h3,h5,h4⟩:=h
  have q:=hO a [] h2
  exact ⟨a,dx,xs,h1,q.1,q.2.trans h3,h5,Seps.map hG hf ds 0 π xs (fun a τ _=>hO a τ) h4⟩
 | .dct,_,_,_,h=>by rw [Sep] at h; exact h.elim
 | .scr _ _,_,_,_,h=>by rw [Sep] at h; exact h.elim
 | .ext _,_,_,_,h=>by rw [Sep] at h; exact h.elim
theorem Seps.map {G H G' H':Hp} {O O':Own} {i i':Nat} {f:List Nat→List Nat} (hG:cb G G') (hf:∀ k π,f (k :: π)=k :: f π) :
 ∀ (ds:List D) (k:Nat) (π:List Nat) (xs:List V),(∀ a τ,τ≠[]→O a=some (i,τ++π)→O' a=some (i',f (τ++π))∧H' a=H a)→Seps G H O i ds k π xs→Seps G' H' O' i' ds k (f π) xs
 | [],_,_,_,_,h=>by rw [Seps] at *; exact h
 | d :: ds,k,π,xs,hO,h=>by
  rw [Seps] at *
  obtain ⟨v,vs,h1,h2,h3⟩:=h
  refine ⟨v,vs,h1,?_,Seps.map hG hf ds (k + 1) π vs hO h3⟩
  rw [← hf]
  refine Sep.map hG hf d (k :: π) v (fun a τ e=>?_) h2
  have e' : τ++k :: π=(τ++[k])++π:=by simp
  rw [e'] at e ⊢
  exact hO a (τ++[k]) (by simp) e
end
theorem Sep.keep {G H G' H':Hp} {O O':Own} {i i':Nat} {d:D} {π:List Nat} {v:V} (hG:cb G G') (hO:∀ a τ,O a=some (i,τ++π)→O' a=some (i',τ++π)∧H' a=H a) (h:Sep G H O i d π v):Sep G' H' O' i' d π v :=
 Sep.map (f:=id) hG (fun _ _=>rfl) d π v hO h
theorem Seps.keep {G H G' H':Hp} {O O':Own} {i i':Nat} {ds:List D} {k:Nat} {π:List Nat} {xs:List V} (hG:cb G G') (hO:∀ a τ,τ≠[]→O a=some (i,τ++π)→O' a=some (i',τ++π)∧H' a=H a) (h:Seps G H O i ds k π xs):Seps G' H' O' i' ds k π xs :=
 Seps.map (f:=id) hG (fun _ _=>rfl) ds k π xs hO h
mutual
theorem Sep.rep {G H G':Hp} {O:Own} {i:Nat} (hG:cb G G'):∀ (d:D) (π:List Nat) (v:V),(∀ a τ (o:HO),O a=some (i,τ++π)→H a=some o→G' a=some o)→Sep G H O i d π v→Rep G' d v
 | .non,_,_,_,h=>by rw [Sep] at h; rw [Rep]; exact h
 | .bl b,_,_,_,h=>by rw [Sep] at h; rw [Rep]; exact h
 | .int n,_,_,_,h=>by rw [Sep] at h; rw [Rep]; exact h
 | .str x,_,_,_,h=>by rw [Sep] at h; rw [Rep]; exact h
 | .tup ds,π,v,hO,h=>by
  rw [Sep] at h; rw [Rep]
  obtain ⟨a,xs,h1,h2,h3⟩:=h
  exact ⟨a,xs,h1,hG _ _ h2,Seps.rep hG ds 0 π xs (fun a τ ys _=>hO a τ ys) h3⟩
 | .lst ds,π,v,hO,h=>by
  rw [Sep] at h; rw [Rep]
  obtain ⟨a,xs,h1,h2,h3,h4⟩:=h
  exact ⟨a,xs,h1,hO a [] _ h2 h3,Seps.rep hG ds 0 π xs (fun a τ ys _=>hO a τ ys) h4⟩
 | .dic ks ds,π,v,hO,h=>by
  rw [Sep] at h; rw [Rep]
  obtain ⟨a,xs,h1,h2,h3,h5,h4⟩:=h
  exact ⟨a,xs,h1,hO a [] _ h2 h3,h5,Seps.rep hG ds 0 π xs (fun a τ ys _=>hO a τ ys) h4⟩
 | .obj C ks ds,π,v,hO,h=>by
  rw [Sep] at h; rw [Rep]
  obtain ⟨a,dx,xs,h1,h2,h3,h5,h4⟩:=h
  exact ⟨a,dx,xs,h1,hO a [] _ h2 h3,h5,Seps.rep hG ds 0 π xs (fun a τ ys _=>hO a τ ys) h4⟩
 | .dct,_,_,_,h=>by rw [Sep] at h; exact h.elim
 | .scr _ _,_,_,_,h=>by rw [Sep] at h; exact h.elim
 | .ext _,_,_,_,h=>by rw [Sep] at h; exact h.elim
theorem Seps.rep {G H G':Hp} {O:Own} {i:Nat} (hG:cb G G'):∀ (ds:List D) (k:Nat) (π:List Nat) (xs:List V),(∀ a τ (o:HO),τ≠[]→O a=some (i,τ++π)→H a=some o→G' a=some o)→Seps G H O i ds k π xs→Reps G' ds xs
 | [],_,_,_,_,h=>by rw [Seps] at h; rw [Reps]; exact h
 | d :: ds,k,π,xs,hO,h=>by
  rw [Seps] at h; rw [Reps]
  obtain ⟨v,vs,h1,h2,h3⟩:=h
  refine ⟨v,vs,h1,Sep.rep hG d (k :: π) v (fun a τ ys e q=>?_) h2,Seps.rep hG ds (k + 1) π vs hO h3⟩
  have e' : τ++k :: π=(τ++[k])++π:=by simp
  rw [e'] at e
  exact hO a (τ++[k]) ys (by simp) e q
end
mutual
def imm:D→Bool
 | .tup ds=>imms ds
 | .lst _=>false
 | .dct=>false
 | .dic _ _=>false
 | .obj _ _ _=>false
 | .scr _ _=>false
 | .ext _=>false
 | _=>true
def imms:List D→Bool
 | []=>true
 | d :: ds=>imm d&&imms ds
end
mutual
theorem Rep.sep {G H:Hp} {O:Own} {i:Nat}:∀ (d:D) (π:List Nat) (v:V),imm d=true→Rep G d v→Sep G H O i d π v
 | .non,_,_,_,h=>by rw [Rep] at h; rw [Sep]; exact h
 | .bl b,_,_,_,h=>by rw [Rep] at h; rw [Sep]; exact h
 | .int n,_,_,_,h=>by rw [Rep] at h; rw [Sep]; exact h
 | .str x,_,_,_,h=>by rw [Rep] at h; rw [Sep]; exact h
 | .tup ds,π,v,hi,h=>by
  rw [Rep] at h; rw [Sep]
  obtain ⟨a,xs,h1,h2,h3⟩:=h
  exact ⟨a,xs,h1,h2,Reps.sep ds 0 π xs (by rw [imm] at hi; exact hi) h3⟩
 | .lst ds,_,_,hi,_=>by rw [imm] at hi; cases hi
 | .dct,_,_,hi,_=>by rw [imm] at hi; cases hi
 | .dic _ _,_,_,hi,_=>by rw [imm] at hi; cases hi
 | .obj _ _ _,_,_,hi,_=>by rw [imm] at hi; cases hi
 | .scr _ _,_,_,hi,_=>by rw [imm] at hi; cases hi
 | .ext _,_,_,hi,_=>by rw [imm] at hi; cases hi
theorem Reps.sep {G H:Hp} {O:Own} {i:Nat}:∀ (ds:List D) (k:Nat) (π:List Nat) (xs:List V),imms ds=true→Reps G ds xs→Seps G H O i ds k π xs
 | [],_,_,_,_,h=>by rw [Reps] at h; rw [Seps]; exact h
 | d :: ds,k,π,xs,hi,h=>by
  rw [Reps] at h; rw [Seps]
  rw [imms,Bool.and_eq_true] at hi
  obtain ⟨v,vs,h1,h2,h3⟩:=h
  exact ⟨v,vs,h1,Rep.sep d (k :: π) v hi.1 h2,Reps.sep ds (k + 1) π vs hi.2 h3⟩
end
mutual
theorem Rep.imms {G G':Hp} (hG:cb G G'):∀ (d:D) (v:V),L2.imm d=true→Rep G d v→Rep G' d v
 | .non,_,_,h=>by rw [Rep] at *; exact h
 | .bl b,_,_,h=>by rw [Rep] at *; exact h
 | .int n,_,_,h=>by rw [Rep] at *; exact h
 | .str x,_,_,h=>by rw [Rep] at *; exact h
 | .tup ds,v,hi,h=>by
  rw [Rep] at *
  obtain ⟨a,xs,h1,h2,h3⟩:=h
  exact ⟨a,xs,h1,hG _ _ h2,Reps.imms hG ds xs (by rw [L2.imm] at hi; exact hi) h3⟩
 | .lst ds,_,hi,_=>by rw [L2.imm] at hi; cases hi
 | .dct,_,hi,_=>by rw [L2.imm] at hi; cases hi
 | .dic _ _,_,hi,_=>by rw [L2.imm] at hi; cases hi
 | .obj _ _ _,_,hi,_=>by rw [L2.imm] at hi; cases hi
 | .scr _ _,_,hi,_=>by rw [L2.imm] at hi; cases hi
 | .ext _,_,hi,_=>by rw [L2.imm] at hi; cases hi
theorem Reps.imms {G G':Hp} (hG:cb G G'):∀ (ds:List D) (xs:List V),L2.imms ds=true→Reps G ds xs→Reps G' ds xs
 | [],_,_,h=>by rw [Reps] at *; exact h
 | d :: ds,xs,hi,h=>by
  rw [Reps] at *
  rw [L2.imms,Bool.and_eq_true] at hi
  obtain ⟨v,vs,h1,h2,h3⟩:=h
  exact ⟨v,vs,h1,Rep.imms hG d v hi.1 h2,Reps.imms hG ds vs hi.2 h3⟩
end
theorem Seps.length {G H:Hp} {O:Own} {i:Nat}:∀ {ds:List D} {k:Nat} {π:List Nat} {xs:List V},Seps G H O i ds k π xs→xs.length=ds.length
 | [],_,_,_,h=>by rw [Seps] at h; subst h; rfl
 | d :: ds,k,π,xs,h=>by
  rw [Seps] at h
  obtain ⟨v,vs,rfl,_,h3⟩:=h
  simp [Seps.length h3]
inductive WrO where
 | inl (xs:List V) | inr (kvs:List (Key×V)) | ins (C dx:Addr) (fs:List (Str×V))
def WrO.ho:WrO→HO
 | .inl xs=>.lst xs
 | .inr kvs=>.dK kvs
 | .ins C dx fs=>.ins C dx fs
theorem WrO.ne {m:WrO} {xs:List V} (h:m.ho = .tup xs):False:=by cases m <;> cases h
structure Ctx where
 G:Hp
 H:Hp
 O:Own
 mu:List (Option V)
 np:Nat
def bV (G H:Hp) (O:Own):List (D×V)→Prop
 | []=>True
 | (d,v) :: r=>Sep G H O (2 * r.length + 1) d [] v∧bV G H O r
def Nw (C:Ctx) (a:Addr) (l:Nat):Prop:=C.H a=none∨∃ π,C.O a=some (l,π)
def NT (o:HO):Prop:=∀ ps q,o≠.tbl ps q
theorem WrO.nt (x:WrO):NT x.ho:=by cases x <;> (intro _ _ z; cases z)
structure RO (C:Ctx) (ow:List Bool) (G:Hp) (ρ:DSt) (σ:St) (H:Hp) (pd:List (D×V)) (O:Own):Prop where
 len : ρ.length=σ.length
 gh:aF G H
 g0:aF C.G G
 gn:∀ a o,G a=some o→C.G a=some o∨C.H a=none
 og:∀ a l,O a=some l→G a=none∧(∃ xs:WrO,H a=some xs.ho)∧Nw C a l.1
 cok:∀ a l π,C.O a=some (l,π)→(∃ (i:Nat) (v:V),l=2 * i∧C.mu[i]? = some (some v))∨∃ j,l=2 * j + 1∧j<C.np
 fr:∀ a o,C.H a=some o→C.O a=none→NT o→H a=some o
 ft:∀ a ps q,H a=some (.tbl ps q)→G a=none
 al:∀ a,H a=none→C.H a=none
 mp:∀ (i:Nat) v,C.mu[i]? = some (some v)→σ[i]? = some (some v)
 sl:∀ (i:Nat) d,ρ[i]? = some (some d)→∃ v,σ[i]? = some (some v)∧if ow[i]? = some true then Sep G H O (2 * i) d [] v else Rep G d v
 pn:bV G H O pd
 np:C.np≤pd.length
def R (C:Ctx) (ow:List Bool) (G:Hp) (ρ:DSt) (σ:St) (H:Hp) (pd:List (D×V)):Prop:=∃ O,RO C ow G ρ σ H pd O
theorem bV.keep {G H G' H':Hp} {O O':Own} (hG:cb G G'):∀ {pd:List (D×V)},(∀ a j π,j<pd.length→O a=some (2 * j + 1,π)→O' a=some (2 * j + 1,π)∧H' a=H a)→bV G H O pd→bV G' H' O' pd
 | [],_,_=>trivial
 | (d,v) :: r,hO,⟨h1,h2⟩=>⟨h1.keep hG fun a τ e=>hO a r.length _ (by simp) e,bV.keep hG (fun a j π hj=>hO a j π (by simp; omega)) h2⟩
section
variable {C:Ctx} {ow:List Bool} {G:Hp} {ρ:DSt} {σ:St} {H:Hp} {pd:List (D×V)} {O:Own}
theorem RO.new (h:RO C ow G ρ σ H pd O) {p:Addr} (hp:H p=none) (o:HO) (nt:NT o:=by intro _ _ z; cases z):RO C ow (upd G p o) ρ σ (upd H p o) pd O∧aF G (upd G p o):=by
 have gp:G p=none:=by
  cases e:G p with
  | none=>rfl
  | some z=>rw [h.gh _ _ e] at hp; cases hp
 have sG:=rO gp o
 have ne:∀ a l,O a=some l→a≠p:=fun a l e z=>by
  obtain ⟨_,⟨xs,q⟩,_⟩:=h.og a l e
  rw [z,hp] at q; cases q
 refine ⟨⟨h.len,?_,fun a u e=>sG _ _ (h.g0 a u e),?_,?_,h.cok,?_,?_,?_,h.mp,?_,?_,h.np⟩,sG⟩
 ·intro a u e
  by_cases z:a=p
  ·subst z; rw [aJ] at e ⊢; exact e
  ·rw [ar z] at e ⊢; exact h.gh _ _ e
 ·intro a u e
  by_cases z:a=p
  ·subst z; exact .inr (h.al _ hp)
  ·rw [ar z] at e; exact h.gn a u e
 ·intro a l e
  have z:=ne a l e
  rw [ar z,ar z]
  exact h.og a l e
 ·intro a u e n t
  rw [ar (aq (h.fr a u e n t) hp)]
  exact h.fr a u e n t
 ·intro a ps q e
  by_cases z:a=p
  ·subst z; rw [aJ] at e; cases e; exact absurd rfl (nt ps q)
  ·rw [ar z] at e ⊢; exact h.ft a ps q e
 ·intro a e
  by_cases z:a=p
  ·subst z; rw [aJ] at e; cases e
  ·rw [ar z] at e; exact h.al a e
 ·intro i d e
  obtain ⟨v,h1,h2⟩:=h.sl i d e
  refine ⟨v,h1,?_⟩
  split at h2
  ·rename_i c; rw [if_pos c]; exact h2.keep sG.ts fun a τ q=>⟨q,ar (ne a _ q)⟩
  ·rename_i c; rw [if_neg c]; exact h2.mono sG
 ·exact bV.keep sG.ts (fun a j π _ q=>⟨q,ar (ne a _ q)⟩) h.pn
theorem RO.newL (h:RO C ow G ρ σ H pd O) {p:Addr} (hp:H p=none) {xs:List V} {ds:List D} (hi:imms ds=true) (hr:Reps G ds xs) :
 R C ow G ρ σ (upd H p (.lst xs)) ((.lst ds,.ref p) :: pd):=by
 have gp:G p=none:=by
  cases e:G p with
  | none=>rfl
  | some z=>rw [h.gh _ _ e] at hp; cases hp
 have ne:∀ a l,O a=some l→a≠p:=fun a l e z=>by
  obtain ⟨_,⟨xs,q⟩,_⟩:=h.og a l e
  rw [z,hp] at q; cases q
 let O':Own:=fun a=>if a=p then some (2 * pd.length + 1,[]) else O a
 have old:∀ a l,O a=some l→O' a=some l:=fun a l e=>by
  show (if a=p then _ else _)=_
  rw [if_neg (ne a _ e),e]
 refine ⟨O',h.len,?_,h.g0,h.gn,?_,h.cok,?_,?_,?_,h.mp,?_,⟨?_,?_⟩,Nat.le_succ_of_le h.np⟩
 ·intro a u e
  rw [ar (fun z=>by rw [z,gp] at e; cases e)]
  exact h.gh _ _ e
 ·intro a l e
  by_cases z:a=p
  ·subst z; exact ⟨gp,⟨.inl xs,aJ⟩,.inl (h.al _ hp)⟩
  ·rw [ar z]
   change (if a=p then _ else _)=_ at e
   rw [if_neg z] at e
   exact h.og a _ e
 ·intro a u e n t
  rw [ar (aq (h.fr a u e n t) hp)]
  exact h.fr a u e n t
 ·intro a ps q e
  by_cases z:a=p
  ·subst z; rw [aJ] at e; cases e
  ·rw [ar z] at e; exact h.ft a ps q e
 ·intro a e
  by_cases z:a=p
  ·subst z; rw [aJ] at e; cases e
  ·rw [ar z] at e; exact h.al a e
 ·intro i d e
  obtain ⟨v,h1,h2⟩:=h.sl i d e
  refine ⟨v,h1,?_⟩
  split at h2
  ·rename_i c; rw [if_pos c]; exact h2.keep (fun _ _ z=>z) fun a τ q=>⟨old a _ q,ar (ne a _ q)⟩
  ·rename_i c; rw [if_neg c]; exact h2
 ·rw [Sep]
  exact ⟨p,xs,rfl,by show (if p=p then _ else _)=_; rw [if_pos rfl],aJ,hr.sep ds 0 [] xs hi⟩
 ·exact bV.keep (fun _ _ z=>z) (fun a j π hj q=>⟨old a _ q,ar (ne a _ q)⟩) h.pn
end
theorem Seps.snoc {G H:Hp} {O:Own} {i:Nat} {d:D} {v:V}:∀ {ds:List D} {k:Nat} {π:List Nat} {xs:List V},Seps G H O i ds k π xs→Sep G H O i d ((k + ds.length) :: π) v→Seps G H O i (ds++[d]) k π (xs++[v])
 | [],k,π,xs,h,hd=>by rw [Seps] at h; subst h; show Seps _ _ _ _ [d] _ _ [v]; rw [Seps]; exact ⟨v,[],rfl,by simpa using hd,by rw [Seps]⟩
 | e :: ds,k,π,xs,h,hd=>by
  rw [Seps] at h
  obtain ⟨u,us,rfl,h2,h3⟩:=h
  show Seps _ _ _ _ (e :: (ds++[d])) _ _ (u :: (us++[v]))
  rw [Seps]
  refine ⟨u,us++[v],rfl,h2,Seps.snoc h3 ?_⟩
  have:k + 1 + ds.length=k + (e :: ds).length:=by simp; omega
  rw [this]; exact hd
theorem Seps.set {G H:Hp} {O:Own} {i:Nat} {d:D} {v:V}:∀ {ds:List D} {k:Nat} {π:List Nat} {xs:List V} {j:Nat},Seps G H O i ds k π xs→Sep G H O i d ((k + j) :: π) v→Seps G H O i (ds.set j d) k π (xs.set j v)
 | [],k,π,xs,j,h,hd=>by rw [Seps] at h; subst h; simp; rw [Seps]
 | e :: ds,k,π,xs,0,h,hd=>by
  rw [Seps] at h
  obtain ⟨u,us,rfl,h2,h3⟩:=h
  simp only [List.set_cons_zero]; rw [Seps]
  exact ⟨v,us,rfl,by simpa using hd,h3⟩
 | e :: ds,k,π,xs,j + 1,h,hd=>by
  rw [Seps] at h
  obtain ⟨u,us,rfl,h2,h3⟩:=h
  simp only [List.set_cons_succ]; rw [Seps]
  refine ⟨u,_,rfl,h2,Seps.set h3 ?_⟩
  have:k + 1 + j=k + (j + 1):=by omega
  rw [this]; exact hd
theorem Seps.at {G H:Hp} {O:Own} {i:Nat} {d:D}:∀ {ds:List D} {k:Nat} {π:List Nat} {xs:List V} {j:Nat},Seps G H O i ds k π xs→ds[j]? = some d→∃ v,xs[j]? = some v∧Sep G H O i d ((k + j) :: π) v
 | [],k,π,xs,j,h,e=>by simp at e
 | e :: ds,k,π,xs,0,h,q=>by
  rw [Seps] at h
  obtain ⟨u,us,rfl,h2,h3⟩:=h
  simp at q; subst q
  exact ⟨u,rfl,by simpa using h2⟩
 | e :: ds,k,π,xs,j + 1,h,q=>by
  rw [Seps] at h
  obtain ⟨u,us,rfl,h2,h3⟩:=h
  obtain ⟨v,h4,h5⟩:=Seps.at (j:=j) h3 (by simpa using q)
  refine ⟨v,by simpa using h4,?_⟩
  have:k + 1 + j=k + (j + 1):=by omega
  rw [← this]; exact h5
section
variable {C:Ctx} {ow:List Bool} {G:Hp} {ρ:DSt} {σ:St} {H:Hp} {pd:List (D×V)} {O:Own}
theorem dZ {α:Type} {l:List (Option α)} {i j:Nat} {x:Option α} {d : α} (h:(l.set i x)[j]? = some (some d)):(j=i∧x=some d)∨(j≠i∧l[j]? = some (some d)):=by
 rw [List.getElem?_set] at h
 by_cases e:i=j
 ·rw [if_pos e] at h
  split at h
  ·exact .inl ⟨e.symm,Option.some.inj h⟩
  ·cases h
 ·rw [if_neg e] at h; exact .inr ⟨fun z=>e z.symm,h⟩
theorem dC {α:Type} {l:List (Option α)} {i:Nat} {x:Option α} (h:l[i]? = some x):i<l.length:=(List.getElem?_eq_some_iff.mp h).1
theorem RO.setS (h:RO C ow G ρ σ H pd O) {i:Nat} {d:D} {v:V} (hi:ow[i]?≠some true) (hm:∀ v,C.mu[i]?≠some (some v)) (r:Rep G d v):RO C ow G (ρ.set i (some d)) (σ.set i (some v)) H pd O:=by
 refine ⟨by simp [h.len],h.gh,h.g0,h.gn,h.og,h.cok,h.fr,h.ft,h.al,?_,?_,h.pn,h.np⟩
 ·intro j u e
  have:i≠j:=fun z=>hm u (z ▸ e)
  rw [List.getElem?_set_ne this]
  exact h.mp j u e
 ·intro j e q
  rcases dZ q with ⟨rfl,z⟩ | ⟨z,q'⟩
  ·cases z
   have hl:j<σ.length:=by have:=dC q; rw [List.length_set,h.len] at this; exact this
   exact ⟨v,by rw [List.getElem?_set_self hl],by rw [if_neg hi]; exact r⟩
  ·obtain ⟨u,h1,h2⟩:=h.sl j e q'
   exact ⟨u,by rw [List.getElem?_set_ne (Ne.symm z)]; exact h1,h2⟩
def lab (f:Nat→List Nat→Nat×List Nat) (O:Own):Own:=fun a=>(O a).map fun l=>f l.1 l.2
theorem bR {f:Nat→List Nat→Nat×List Nat} {a:Addr} {l:Nat} {π:List Nat} (h:O a=some (l,π)):lab f O a=some (f l π):=by unfold lab; rw [h]; rfl
theorem gz {f:Nat→List Nat→Nat×List Nat} {a:Addr} {m:Nat×List Nat} (h:lab f O a=some m):∃ l π,O a=some (l,π)∧m=f l π:=by
 unfold lab at h
 cases e:O a with
 | none=>rw [e] at h; cases h
 | some l=>rw [e] at h; exact ⟨l.1,l.2,rfl,(Option.some.inj h).symm⟩
theorem cL {i j:Nat} : 2 * i≠2 * j + 1:=by omega
theorem RO.setO {d:D} {v:V} (h:RO C ow G ρ σ H ((d,v) :: pd) O) {i:Nat} (hi:ow[i]? = some true) (hm:∀ v,C.mu[i]?≠some (some v)) (hn:C.np≤pd.length) :
 R C ow G (ρ.set i (some d)) (σ.set i (some v)) H pd:=by
 refine ⟨lab (fun l π=>if l=2 * pd.length + 1 then (2 * i,π) else (l,π)) O,by simp [h.len],h.gh,h.g0,h.gn,?_,h.cok,h.fr,h.ft,h.al,?_,?_,?_,hn⟩
 ·intro a m e
  obtain ⟨l,π,e1,rfl⟩:=gz e
  obtain ⟨q1,q2,q3⟩:=h.og a _ e1
  refine ⟨q1,q2,?_⟩
  try dsimp only
  split
  ·rename_i z
   rcases q3 with q3 | ⟨_,q3⟩
   ·exact .inl q3
   ·rcases h.cok _ _ _ q3 with ⟨k,_,q4,_⟩ | ⟨k,q4,q5⟩
    ·exact absurd (q4.symm.trans z) cL
    ·omega
  ·exact q3
 ·intro j u e
  have:i≠j:=fun z=>hm u (z ▸ e)
  rw [List.getElem?_set_ne this]
  exact h.mp j u e
 ·intro j e q
  rcases dZ q with ⟨rfl,z⟩ | ⟨z,q'⟩
  ·cases z
   have hl:j<σ.length:=by have:=dC q; rw [List.length_set,h.len] at this; exact this
   refine ⟨v,by rw [List.getElem?_set_self hl],?_⟩
   rw [if_pos hi]
   exact h.pn.1.keep (fun _ _ z=>z) fun a τ q=>⟨by rw [bR q,if_pos rfl],rfl⟩
  ·obtain ⟨u,h1,h2⟩:=h.sl j e q'
   refine ⟨u,by rw [List.getElem?_set_ne (Ne.symm z)]; exact h1,?_⟩
   split at h2
   ·rename_i c; rw [if_pos c]; exact h2.keep (fun _ _ z=>z) fun a τ q=>⟨by rw [bR q,if_neg cL],rfl⟩
   ·rename_i c; rw [if_neg c]; exact h2
 ·exact bV.keep (fun _ _ z=>z) (fun a j π hj q=>⟨by rw [bR q,if_neg (by omega)],rfl⟩) h.pn.2
theorem RO.move (h:RO C ow G ρ σ H pd O) {i:Nat} {d:D} (e : ρ[i]? = some (some d)) (hi:ow[i]? = some true) (hm:∀ v,C.mu[i]?≠some (some v)) :
 ∃ v,σ[i]? = some (some v)∧R C ow G (ρ.set i none) σ H ((d,v) :: pd):=by
 obtain ⟨v,hv,s⟩:=h.sl i d e
 rw [if_pos hi] at s
 refine ⟨v,hv,lab (fun l π=>if l=2 * i then (2 * pd.length + 1,π) else (l,π)) O,by simp [h.len],h.gh,h.g0,h.gn,?_,h.cok,h.fr,h.ft,h.al,h.mp,?_,⟨?_,?_⟩,Nat.le_succ_of_le h.np⟩
 ·intro a m e
  obtain ⟨l,π,e1,rfl⟩:=gz e
  obtain ⟨q1,q2,q3⟩:=h.og a _ e1
  refine ⟨q1,q2,?_⟩
  try dsimp only
  split
  ·rename_i z
   rcases q3 with q3 | ⟨_,q3⟩
   ·exact .inl q3
   ·rcases h.cok _ _ _ q3 with ⟨k,u,q4,q5⟩ | ⟨k,q4,_⟩
    ·have:k=i:=by have:=q4.symm.trans z; omega
     exact absurd (this ▸ q5) (hm u)
    ·omega
  ·exact q3
 ·intro j e q
  rcases dZ q with ⟨rfl,z⟩ | ⟨z,q'⟩
  ·cases z
  ·obtain ⟨u,h1,h2⟩:=h.sl j e q'
   refine ⟨u,h1,?_⟩
   split at h2
   ·rename_i c; rw [if_pos c]; exact h2.keep (fun _ _ z=>z) fun a τ q=>⟨by rw [bR q,if_neg (by omega)],rfl⟩
   ·rename_i c; rw [if_neg c]; exact h2
 ·exact s.keep (fun _ _ z=>z) fun a τ q=>⟨by rw [bR q,if_pos rfl],rfl⟩
 ·exact bV.keep (fun _ _ z=>z) (fun a j π hj q=>⟨by rw [bR q,if_neg (fun z=>cL z.symm)],rfl⟩) h.pn
def hasL (O:Own) (l:Nat) (a:Addr):Bool:=match O a with
 | some m=>m.1 == l
 | none=>false
theorem dW {l:Nat} {a:Addr}:hasL O l a=true↔∃ π,O a=some (l,π):=by
 unfold hasL
 cases e:O a with
 | none=>simp
 | some m=>obtain ⟨m1,m2⟩:=m; simp
theorem RO.share {d:D} {v:V} (h:RO C ow G ρ σ H ((d,v) :: pd) O) (hn:C.np≤pd.length):∃ G',aF G G'∧R C ow G' ρ σ H pd∧Rep G' d v:=by
 let l₀:=2 * pd.length + 1
 let G':Hp:=fun a=>if hasL O l₀ a=true then H a else G a
 have sG:aF G G':=fun a o e=>by
  show (if _ then _ else _)=_
  split
  ·exact h.gh _ _ e
  ·exact e
 have inH:∀ a τ (o:HO),O a=some (l₀,τ)→H a=some o→G' a=some o:=fun a τ xs q e=>by
  show (if _ then _ else _)=_
  rw [if_pos (dW.mpr ⟨_,q⟩)]; exact e
 refine ⟨G',sG,⟨fun a=>if hasL O l₀ a=true then none else O a,h.len,?_,fun a o e=>sG _ _ (h.g0 _ _ e),?_,?_,h.cok,h.fr,(fun a ps q e=>by
  show (if _ then _ else _)=_
  split
  ·rename_i c
   obtain ⟨τ,c⟩:=dW.mp c
   obtain ⟨_,⟨xs,z⟩,_⟩:=h.og a _ c
   rw [z] at e; exact absurd (Option.some.inj e) (WrO.nt xs _ _)
  ·exact h.ft a ps q e),h.al,h.mp,?_,?_,hn⟩,h.pn.1.rep sG.ts d [] v (fun a τ xs q e=>inH a _ xs q e)⟩
 ·intro a o e
  change (if _ then _ else _)=_ at e
  split at e
  ·exact e
  ·exact h.gh _ _ e
 ·intro a o e
  change (if _ then _ else _)=_ at e
  split at e
  ·rename_i c
   obtain ⟨π,q⟩:=dW.mp c
   obtain ⟨_,_,q3⟩:=h.og a _ q
   rcases q3 with q3 | ⟨_,q3⟩
   ·exact .inr q3
   ·rcases h.cok _ _ _ q3 with ⟨k,_,q4,_⟩ | ⟨k,q4,q5⟩
    ·exact absurd q4.symm cL
    ·have q4' : 2 * pd.length + 1=2 * k + 1:=q4
     omega
  ·exact h.gn a o e
 ·intro a l e
  try dsimp only at e
  split at e
  ·cases e
  ·rename_i c
   obtain ⟨q1,q2,q3⟩:=h.og a l e
   exact ⟨by show (if _ then _ else _)=_; rw [if_neg c]; exact q1,q2,q3⟩
 ·intro j e q
  obtain ⟨u,h1,h2⟩:=h.sl j e q
  refine ⟨u,h1,?_⟩
  split at h2
  ·rename_i c; rw [if_pos c]
   refine h2.keep sG.ts fun a τ q=>⟨?_,rfl⟩
   rw [if_neg,q]
   intro z
   obtain ⟨π,z⟩:=dW.mp z
   rw [q] at z
   have:=(Prod.mk.inj (Option.some.inj z)).1
   omega
  ·rename_i c; rw [if_neg c]; exact h2.mono sG
 ·refine bV.keep sG.ts (fun a j π hj q=>⟨?_,rfl⟩) h.pn.2
  rw [if_neg,q]
  intro z
  obtain ⟨π,z⟩:=dW.mp z
  rw [q] at z
  have:=(Prod.mk.inj (Option.some.inj z)).1
  omega
theorem RO.write (h:RO C ow G ρ σ H pd O) {i:Nat} {ds:List D} (e : ρ[i]? = some (some (.lst ds))) (hi:ow[i]? = some true) :
 ∃ a xs,σ[i]? = some (some (.ref a))∧H a=some (.lst xs)∧Seps G H O (2 * i) ds 0 [] xs ∧
  ∀ ds' xs',Seps G H O (2 * i) ds' 0 [] xs'→RO C ow G (ρ.set i (some (.lst ds'))) σ (upd H a (.lst xs')) pd O:=by
 obtain ⟨v,hv,s⟩:=h.sl i _ e
 rw [if_pos hi,Sep] at s
 obtain ⟨a,xs,rfl,hO,hH,hs⟩:=s
 refine ⟨a,xs,hv,hH,hs,fun ds' xs' hs'=>?_⟩
 obtain ⟨g0,_,nw⟩:=h.og a _ hO
 have ne:∀ b l π,O b=some (l,π)→(l≠2 * i∨π≠[])→b≠a:=fun b l π q n z=>by
  subst z
  rw [hO] at q
  obtain ⟨q1,q2⟩:=Prod.mk.inj (Option.some.inj q)
  rcases n with n | n
  ·exact n q1.symm
  ·exact n q2.symm
 refine ⟨by simp [h.len],?_,h.g0,h.gn,?_,h.cok,?_,?_,?_,h.mp,?_,?_,h.np⟩
 ·intro b o q
  rw [ar (fun z=>by rw [z,g0] at q; cases q)]; exact h.gh _ _ q
 ·intro b l q
  obtain ⟨q1,⟨ys,q2⟩,q3⟩:=h.og b l q
  refine ⟨q1,?_,q3⟩
  by_cases z:b=a
  ·subst z; exact ⟨.inl _,aJ⟩
  ·rw [ar z]; exact ⟨ys,q2⟩
 ·intro b o q n t
  by_cases z:b=a
  ·subst z
   rcases nw with nw | ⟨_,nw⟩
   ·rw [nw] at q; cases q
   ·rw [nw] at n; cases n
  ·rw [ar z]; exact h.fr b o q n t
 ·intro b ps q e
  by_cases z:b=a
  ·subst z; rw [aJ] at e; cases e
  ·rw [ar z] at e; exact h.ft b ps q e
 ·intro b q
  by_cases z:b=a
  ·subst z; rw [aJ] at q; cases q
  ·rw [ar z] at q; exact h.al b q
 ·intro j u q
  rcases dZ q with ⟨rfl,z⟩ | ⟨z,q'⟩
  ·cases z
   refine ⟨_,hv,?_⟩
   rw [if_pos hi,Sep]
   exact ⟨a,xs',rfl,hO,aJ,hs'.keep (fun _ _ z=>z) fun b τ hτ q=>⟨q,ar (ne b _ _ q (.inr (by simpa using hτ)))⟩⟩
  ·obtain ⟨w,h1,h2⟩:=h.sl j u q'
   refine ⟨w,h1,?_⟩
   split at h2
   ·rename_i c; rw [if_pos c]; exact h2.keep (fun _ _ z=>z) fun b τ q=>⟨q,ar (ne b _ _ q (.inl (by omega)))⟩
   ·rename_i c; rw [if_neg c]; exact h2
 ·exact bV.keep (fun _ _ z=>z) (fun b j π hj q=>⟨q,ar (ne b _ _ q (.inl (fun z=>cL z.symm)))⟩) h.pn
theorem RO.join {d:D} {v:V} (h:RO C ow G ρ σ H ((d,v) :: pd) O) (i n:Nat) (hn:C.np≤pd.length) :
 ∃ O',RO C ow G ρ σ H pd O'∧Sep G H O' (2 * i) d [n] v∧∀ (l:Nat) ds k π xs,l≠2 * pd.length + 1→Seps G H O l ds k π xs→Seps G H O' l ds k π xs:=by
 refine ⟨lab (fun l π=>if l=2 * pd.length + 1 then (2 * i,π++[n]) else (l,π)) O,⟨h.len,h.gh,h.g0,h.gn,?_,h.cok,h.fr,h.ft,h.al,h.mp,?_,?_,hn⟩,?_,?_⟩
 ·intro a m e
  obtain ⟨l,π,e1,rfl⟩:=gz e
  obtain ⟨q1,q2,q3⟩:=h.og a _ e1
  refine ⟨q1,q2,?_⟩
  try dsimp only
  split
  ·rename_i z
   rcases q3 with q3 | ⟨_,q3⟩
   ·exact .inl q3
   ·rcases h.cok _ _ _ q3 with ⟨k,_,q4,_⟩ | ⟨k,q4,q5⟩
    ·exact absurd (q4.symm.trans z) cL
    ·omega
  ·exact q3
 ·intro j e q
  obtain ⟨u,h1,h2⟩:=h.sl j e q
  refine ⟨u,h1,?_⟩
  split at h2
  ·rename_i c; rw [if_pos c]; exact h2.keep (fun _ _ z=>z) fun a τ q=>⟨by rw [bR q,if_neg cL],rfl⟩
  ·rename_i c; rw [if_neg c]; exact h2
 ·exact bV.keep (fun _ _ z=>z) (fun a j π hj q=>⟨by rw [bR q,if_neg (by omega)],rfl⟩) h.pn.2
 ·exact Sep.map (f:=fun π=>π++[n]) (fun _ _ z=>z) (fun _ _=>rfl) d [] v (fun a τ q=>⟨by rw [bR q,if_pos rfl],rfl⟩) h.pn.1
 ·intro l ds k π xs hl hs
  exact hs.keep (fun _ _ z=>z) fun a τ _ q=>⟨by rw [bR q,if_neg hl],rfl⟩
end
def bor (js:List Nat) (ow:List Bool):List Bool:=ow.mapIdx fun j b=>b && !js.contains j
theorem c8 {js:List Nat} {ow:List Bool} {j:Nat}:(bor js ow)[j]? = some true↔ow[j]? = some true∧js.contains j=false:=by
 unfold bor
 rw [List.getElem?_mapIdx]
 cases e:ow[j]? with
 | none=>simp
 | some b=>cases b <;> simp
def fw (ρ:DSt) (js:List Nat) (n l:Nat):Bool:=if l % 2=0 then (match ρ[l / 2]? with | some (some _)=>!js.contains (l / 2) | _=>false) else decide (l / 2<n)
def eL (js:List Nat) (l:Nat):Bool:=decide (l % 2=0)&&js.contains (l / 2)
def bv (f:Nat→Bool) (O:Own):Own:=fun a=>match O a with
 | some m=>if f m.1=true then some m else none
 | none=>none
theorem dX {f:Nat→Bool} {O:Own} {a:Addr} {m:Nat×List Nat} (h:O a=some m) (hf:f m.1=true):bv f O a=some m:=by unfold bv; rw [h]; show (if _ then _ else _)=_; rw [if_pos hf]
theorem bH {f:Nat→Bool} {O:Own} {a:Addr} {m:Nat×List Nat} (h:bv f O a=some m):O a=some m∧f m.1=true:=by
 unfold bv at h
 cases e:O a with
 | none=>rw [e] at h; cases h
 | some n =>
  rw [e] at h
  change (if _ then _ else _)=_ at h
  split at h
  ·rename_i c; cases h; exact ⟨rfl,c⟩
  ·cases h
def oP {α:Type}:Option α→Bool
 | some _=>true
 | none=>false
section
variable {C:Ctx} {ow:List Bool} {G:Hp} {ρ:DSt} {σ:St} {H:Hp} {pd:List (D×V)} {O:Own}
def ki (js:List Nat) (G H:Hp) (O:Own):Hp:=fun a=>if oP (bv (eL js) O a)=true then H a else G a
def cBor (js:List Nat) (G H:Hp) (O:Own) (ρ:DSt) (σ:St) (n:Nat):Ctx:=⟨ki js G H O,H,bv (fw ρ js n) O,σ,n⟩
theorem fH (h:RO C ow G ρ σ H pd O) (js:List Nat):aF G (ki js G H O):=fun a o e=>by
 show (if _ then _ else _)=_
 split
 ·exact h.gh _ _ e
 ·exact e
theorem eB {α:Type} {o:Option α} (h:oP o=true):∃ x,o=some x:=by cases o with | none=>cases h | some x=>exact ⟨x,rfl⟩
theorem RO.enter (h:RO C ow G ρ σ H pd O) (js:List Nat):RO (cBor js G H O ρ σ pd.length) (bor js ow) (ki js G H O) ρ σ H pd (bv (fw ρ js pd.length) O):=by
 have sG:=fH h js
 refine ⟨h.len,?_,fun _ _ e=>e,fun _ _ e=>.inl e,?_,?_,fun _ _ e _ _=>e,(fun a ps q e=>by
  show (if _ then _ else _)=_
  split
  ·rename_i c
   obtain ⟨m,c⟩:=eB c
   obtain ⟨_,⟨xs,z⟩,_⟩:=h.og a m (bH c).1
   rw [z] at e; exact absurd (Option.some.inj e) (WrO.nt xs _ _)
  ·exact h.ft a ps q e),fun _ e=>e,fun _ _ e=>e,?_,?_,Nat.le_refl _⟩
 ·intro a o e
  change (if _ then _ else _)=_ at e
  split at e
  ·exact e
  ·exact h.gh _ _ e
 ·intro a l e
  obtain ⟨e1,e2⟩:=bH e
  obtain ⟨q1,q2,q3⟩:=h.og a l e1
  refine ⟨?_,q2,.inr ⟨l.2,e⟩⟩
  ·show (if _ then _ else _)=_
   rw [if_neg]; exact q1
   intro z
   obtain ⟨m,z⟩:=eB z
   obtain ⟨z1,z2⟩:=bH z
   rw [e1] at z1; cases z1
   unfold eL at z2; unfold fw at e2
   simp only [Bool.and_eq_true,decide_eq_true_eq] at z2
   rw [if_pos z2.1] at e2
   split at e2
   ·rw [z2.2] at e2; cases e2
   ·cases e2
 ·intro a l π e
  obtain ⟨e1,e2⟩:=bH e
  unfold fw at e2
  split at e2
  ·rename_i c
   split at e2
   ·rename_i d hd
    obtain ⟨v,hv,_⟩:=h.sl _ _ hd
    exact .inl ⟨l / 2,v,by omega,hv⟩
   ·cases e2
  ·exact .inr ⟨l / 2,by omega,of_decide_eq_true e2⟩
 ·intro j d e
  obtain ⟨v,h1,h2⟩:=h.sl j d e
  refine ⟨v,h1,?_⟩
  by_cases c:ow[j]? = some true
  ·rw [if_pos c] at h2
   by_cases c2:js.contains j=true
   ·rw [if_neg (fun z=>by rw [c8] at z; rw [c2] at z; exact absurd z.2 (by decide))]
    refine h2.rep sG.ts d [] v fun a τ xs q e=>?_
    show (if _ then _ else _)=_
    rw [if_pos]; exact e
    rw [dX q]; rfl
    unfold eL
    simp only [Bool.and_eq_true,decide_eq_true_eq]
    exact ⟨by omega,by rw [show 2 * j / 2=j by omega]; exact c2⟩
   ·rw [if_pos (c8.mpr ⟨c,by simpa using c2⟩)]
    refine h2.keep sG.ts fun a τ q=>⟨dX q ?_,rfl⟩
    unfold fw
    show (if 2 * j % 2=0 then _ else _)=_
    rw [if_pos (by omega),show 2 * j / 2=j by omega,e]
    simp at c2 ⊢; exact c2
  ·rw [if_neg c] at h2
   rw [if_neg (fun z=>c (c8.mp z).1)]
   exact h2.mono sG
 ·refine bV.keep sG.ts (fun a j π hj q=>⟨dX q ?_,rfl⟩) h.pn
  unfold fw
  show (if (2 * j + 1) % 2=0 then _ else _)=_
  rw [if_neg (by omega),show (2 * j + 1) / 2=j by omega]
  simpa using hj
def Kp (ow:List Bool) (ρ ρ':DSt):Prop:=∀ (j:Nat),ow[j]?≠some true→ρ'[j]? = ρ[j]?
def fu (js:List Nat) (O:Own) (G2:Hp):Hp:=fun a=>if oP (bv (eL js) O a)=true then none else G2 a
def lV (js:List Nat) (O O2:Own):Own:=fun a=>match O2 a with
 | some l=>some l
 | none=>bv (eL js) O a
theorem RO.leave (h:RO C ow G ρ σ H pd O) {js:List Nat} {G2:Hp} {ρ2:DSt} {H2:Hp} {pd2:List (D×V)} {O2:Own}
 (h2:RO (cBor js G H O ρ σ pd.length) (bor js ow) G2 ρ2 σ H2 pd2 O2) (kp:Kp (bor js ow) ρ ρ2) :
 RO C ow (fu js O G2) ρ2 σ H2 pd2 (lV js O O2)∧aF G (fu js O G2)∧cb G2 (fu js O G2):=by
 have sG:=fH h js
 have dm:∀ a m,bv (eL js) O a=some m→O a=some m∧G a=none∧∃ xs:WrO,H a=some xs.ho∧G2 a=some xs.ho:=fun a m e=>by
  obtain ⟨e1,e2⟩:=bH e
  obtain ⟨q1,⟨xs,q2⟩,q3⟩:=h.og a m e1
  refine ⟨e1,q1,xs,q2,h2.g0 a _ ?_⟩
  show (if _ then _ else _)=_
  rw [if_pos (by rw [e]; rfl)]; exact q2
 have nd:∀ a,G a≠none→¬ oP (bv (eL js) O a)=true:=fun a g z=>by
  obtain ⟨m,z⟩:=eB z
  exact g (dm a m z).2.1
 have sG3:aF G (fu js O G2):=fun a o e=>by
  show (if _ then _ else _)=_
  rw [if_neg (nd a (by rw [e]; simp))]
  exact h2.g0 a o (sG a o e)
 have ts:cb G2 (fu js O G2):=fun a xs e=>by
  show (if _ then _ else _)=_
  rw [if_neg]; exact e
  intro z
  obtain ⟨m,z⟩:=eB z
  obtain ⟨_,_,ys,_,q⟩:=dm a m z
  rw [e] at q; exact (WrO.ne (Option.some.inj q).symm).elim
 have o2:∀ a l,O2 a=some l→lV js O O2 a=some l:=fun a l e=>by show (match O2 a with | some l=>some l | none=>_)=_; rw [e]
 refine ⟨⟨h2.len,?_,fun a o e=>sG3 _ _ (h.g0 _ _ e),?_,?_,h.cok,?_,(fun a ps q e=>by show (if _ then _ else _)=_; split <;> first | rfl | exact h2.ft a ps q e),fun a e=>h.al a (h2.al a e),h.mp,?_,?_,Nat.le_trans h.np h2.np⟩,sG3,ts⟩
 ·intro a o e
  change (if _ then _ else _)=_ at e
  split at e
  ·cases e
  ·exact h2.gh _ _ e
 ·intro a o e
  change (if _ then _ else _)=_ at e
  split at e
  ·cases e
  ·rename_i c
   rcases h2.gn a o e with q | q
   ·change (if _ then _ else _)=_ at q
    rw [if_neg c] at q
    exact h.gn a o q
   ·exact .inr (h.al a q)
 ·intro a l e
  change (match O2 a with | some l=>some l | none=>_)=_ at e
  cases q:O2 a with
  | some l' =>
   rw [q] at e; cases e
   obtain ⟨q1,q2,q3⟩:=h2.og a l q
   refine ⟨by show (if _ then _ else _)=_; split <;> first | rfl | exact q1,q2,?_⟩
   rcases q3 with q3 | ⟨q3,q4⟩
   ·exact .inl (h.al a q3)
   ·exact (h.og a _ (bH q4).1).2.2
  | none =>
   rw [q] at e
   change bv (eL js) O a=some l at e
   obtain ⟨e1,q1,xs,q2,q3⟩:=dm a l e
   refine ⟨by show (if _ then _ else _)=_; rw [if_pos (by rw [e]; rfl)],⟨xs,h2.gh _ _ q3⟩,(h.og a l e1).2.2⟩
 ·intro a o e n t
  have q:=h.fr a o e n t
  refine h2.fr a o q ?_ t
  show bv _ O a=none
  cases z:bv (fw ρ js pd.length) O a with
  | none=>rfl
  | some m =>
   obtain ⟨z1,_⟩:=bH z
   obtain ⟨_,_,z3⟩:=h.og a m z1
   rcases z3 with z3 | ⟨_,z3⟩
   ·rw [z3] at e; cases e
   ·rw [z3] at n; cases n
 ·intro j d e
  by_cases c:(bor js ow)[j]? = some true
  ·obtain ⟨v,q1,q2⟩:=h2.sl j d e
   rw [if_pos c] at q2
   refine ⟨v,q1,?_⟩
   rw [if_pos (c8.mp c).1]
   exact q2.keep ts fun a τ q=>⟨o2 _ _ q,rfl⟩
  ·rw [kp j c] at e
   obtain ⟨v,q1,q2⟩:=h.sl j d e
   refine ⟨v,q1,?_⟩
   by_cases c2:ow[j]? = some true
   ·rw [if_pos c2] at q2 ⊢
    have hj:js.contains j=true:=by
     cases z:js.contains j with
     | true=>rfl
     | false=>exact absurd (c8.mpr ⟨c2,z⟩) c
    refine q2.keep sG3.ts fun a τ q=>?_
    have dd:bv (eL js) O a=some (2 * j,τ++[]):=dX q (by
     unfold eL
     simp only [Bool.and_eq_true,decide_eq_true_eq]
     exact ⟨by omega,by rw [show 2 * j / 2=j by omega]; exact hj⟩)
    obtain ⟨_,_,xs,q4,q5⟩:=dm a _ dd
    refine ⟨?_,by rw [q4]; exact h2.gh _ _ q5⟩
    show (match O2 a with | some l=>some l | none=>_)=_
    cases z:O2 a with
    | some l=>have:=(h2.og a l z).1; rw [q5] at this; cases this
    | none=>exact dd
   ·rw [if_neg c2] at q2 ⊢
    exact q2.mono sG3
 ·exact bV.keep ts (fun a j π hj q=>⟨o2 _ _ q,rfl⟩) h2.pn
end
abbrev ME:=DSt→(D→DSt→Prop)→Prop
abbrev MT:=DSt→(Bool→DSt→Prop)→Prop
abbrev MA:=DSt→(List D→DSt→Prop)→Prop
def SE (ow:List Bool) (t:TE) (m:ME):Prop:=∀ (C:Ctx) (G:Hp) (ρ:DSt) (σ:St) (H:Hp) (pd:List (D×V)) (q:D→DSt→Prop) (Q:VK),R C ow G ρ σ H pd→m ρ q →
 (∀ d ρ' v G' H',q d ρ'→aF G G'→Kp ow ρ ρ'→R C ow G' ρ' σ H' pd→Rep G' d v→Q v H')→t σ H Q
def SF (ow:List Bool) (t:TE) (m:ME):Prop:=∀ (C:Ctx) (G:Hp) (ρ:DSt) (σ:St) (H:Hp) (pd:List (D×V)) (q:D→DSt→Prop) (Q:VK),R C ow G ρ σ H pd→m ρ q →
 (∀ d ρ' v G' H',q d ρ'→aF G G'→Kp ow ρ ρ'→R C ow G' ρ' σ H' ((d,v) :: pd)→Q v H')→t σ H Q
def STe (ow:List Bool) (t:TT) (m:MT):Prop:=∀ (C:Ctx) (G:Hp) (ρ:DSt) (σ:St) (H:Hp) (pd:List (D×V)) (q:Bool→DSt→Prop) (Q:Bool→Hp→Prop),R C ow G ρ σ H pd→m ρ q →
 (∀ b ρ' G' H',q b ρ'→aF G G'→Kp ow ρ ρ'→R C ow G' ρ' σ H' pd→Q b H')→t σ H Q
def SA (ow:List Bool) (n:Nat) (t:TA) (m:MA):Prop:=∀ (C:Ctx) (G:Hp) (ρ:DSt) (σ:St) (H:Hp) (pd:List (D×V)) (q:List D→DSt→Prop) (Q:List V→Hp→Prop),R C ow G ρ σ H pd→m ρ q →
 (∀ ds ρ' vs G' H',q ds ρ'→aF G G'→Kp ow ρ ρ'→R C ow G' ρ' σ H' pd→Reps G' ds vs→vs.length=n→Q vs H')→t σ H Q
structure QE (X:Cx) (ow:List Bool) (e:Expr) (m:ME):Prop where
 ex:∃ t,PE X e t∧SE ow t m
structure QF (X:Cx) (ow:List Bool) (e:Expr) (m:ME):Prop where
 ex:∃ t,PE X e t∧SF ow t m
structure QT (X:Cx) (ow:List Bool) (e:Expr) (m:MT):Prop where
 ex:∃ t,PT X e t∧STe ow t m
structure QW (X:Cx) (ow:List Bool) (e:Expr) (m:MT):Prop where
 ex:∃ t,PW X e t∧STe ow t m
structure QA (X:Cx) (ow:List Bool) (es:List Expr) (m:MA):Prop where
 ex:∃ t,PA X es t∧SA ow es.length t m
theorem Kp.refl {ow:List Bool} {ρ:DSt}:Kp ow ρ ρ:=fun _ _=>rfl
theorem Kp.trans {ow:List Bool} {ρ ρ1 ρ2:DSt} (a:Kp ow ρ ρ1) (b:Kp ow ρ1 ρ2):Kp ow ρ ρ2:=fun j h=>(b j h).trans (a j h)
theorem R.gh {C:Ctx} {ow:List Bool} {G:Hp} {ρ:DSt} {σ:St} {H:Hp} {pd:List (D×V)} (h:R C ow G ρ σ H pd):aF G H:=let ⟨_,h⟩:=h; h.gh
theorem R.np {C:Ctx} {ow:List Bool} {G:Hp} {ρ:DSt} {σ:St} {H:Hp} {pd:List (D×V)} (h:R C ow G ρ σ H pd):C.np≤pd.length:=let ⟨_,h⟩:=h; h.np
section
variable {X:Cx} {ow:List Bool} {a b c e:Expr} {ma mb mc:ME} {pos:Pos}
def mVar (i:Nat):ME:=fun ρ q=>match ρ[i]? with
 | some (some d)=>q d ρ
 | _=>False
theorem aa (i:Nat) {x:Str} (hs:ow[i]?≠some true:=by decide) (hN:X.N[i]? = some x:=by rfl) (hv:Vis X.env.scope x:=by first | exact Or.inl rfl | exact Or.inr (Or.inl rfl) | exact Or.inr (Or.inr rfl)) (hd:(x == ("__debug__":Str))=false:=by decide)
 (hcd:(x == ("__classdict__":Str))=false:=by decide):QE X ow (.Name x pos) (mVar i):=⟨_,dS hN hv hd hcd,fun C G ρ σ H pd q Q r h k=>by
 unfold mVar at h
 split at h
 ·rename_i d e
  obtain ⟨O,ro⟩:=r
  obtain ⟨v,h1,h2⟩:=ro.sl i d e
  rw [if_neg hs] at h2
  exact ⟨v,h1,k d ρ v G H h (aF.refl _) Kp.refl ⟨O,ro⟩ h2⟩
 ·exact h.elim⟩
def mC (d:D):ME:=fun ρ q=>q d ρ
theorem mo {v:V} {d:D} (h:PE X e (tC v)) (hr:∀ G,Rep G d v):QE X ow e (mC d):=⟨_,h,fun C G ρ σ H pd q Q r h k=>k d ρ v G H h (aF.refl _) Kp.refl r (hr G)⟩
theorem ac {i j}:QE X ow (.Constant (.int i) j pos) (mC (.int i)):=mo wb fun _=>a8 _
theorem c_ {i j}:QE X ow (.Constant (.bool i) j pos) (mC (.bl i)):=mo pe_bl fun _=>ck _
theorem gR {j}:QE X ow (.Constant .none j pos) (mC .non):=mo vS fun _=>l5
theorem bT {i j}:QE X ow (.Constant (.str i) j pos) (mC (.str i)):=mo qM fun _=>cK _
theorem cT {x:Str} {i:Int} (hg:Gl X x) (hm:∃ t,X.mg x=some (.int i t)) (hd:(x == ("__debug__":Str))=false:=by decide):QE X ow (.Name x pos) (mC (.int i)):=by
 obtain ⟨t,hm⟩:=hm
 exact mo (lx (v:=.int i) hg hm ⟨t,rfl⟩ hd) fun _=>a8 _
theorem iI {ta tb:TE} (ha:SE ow ta ma) (hb:SE ow tb mb) {C:Ctx} {G:Hp} {ρ:DSt} {σ:St} {H:Hp} {pd:List (D×V)} {f:D→D→DSt→Prop} {Q:V→V→Hp→Prop}
 (r:R C ow G ρ σ H pd) (h:ma ρ fun x ρ1=>mb ρ1 fun y ρ2=>f x y ρ2)
 (k:∀ dx dy ρ' x y G' H',f dx dy ρ'→aF G G'→Kp ow ρ ρ'→R C ow G' ρ' σ H' pd→Rep G' dx x→Rep G' dy y→Q x y H'):ta σ H fun x H1=>tb σ H1 fun y H2=>Q x y H2:=by
 refine ha C G ρ σ H pd _ _ r h fun dx ρ1 x G1 H1 h1 s1 k1 r1 p1=>?_
 refine hb C G1 ρ1 σ H1 pd _ _ r1 h1 fun dy ρ2 y G2 H2 h2 s2 k2 r2 p2=>?_
 exact k dx dy ρ2 x y G2 H2 h2 (s1.trans s2) (k1.trans k2) r2 (Rep.mono s2 _ _ p1) p2
def DOp (r:R2) (f:D→D→(D→Prop)→Prop):Prop:=∀ (G H:Hp) (x y:V) (dx dy:D) (q:D→Prop) (Q:VK),aF G H→Rep G dx x→Rep G dy y→f dx dy q→(∀ d v,q d→Rep G d v→Q v H)→r x y H Q
def mOp (f:D→D→(D→Prop)→Prop) (ma mb:ME):ME:=fun ρ q=>ma ρ fun x ρ1=>mb ρ1 fun y ρ2=>f x y fun d=>q d ρ2
theorem lm {r:R2} {f:D→D→(D→Prop)→Prop} {ta tb:TE} (hd:DOp r f) (ha:SE ow ta ma) (hb:SE ow tb mb):SE ow (tOp r ta tb) (mOp f ma mb):=fun C G ρ σ H pd q Q hr h k=>by
 refine iI ha hb hr h fun dx dy ρ' x y G' H' hf s kp r' p1 p2=>?_
 exact hd G' H' x y dx dy _ _ r'.gh p1 p2 hf fun d v hq p=>k d ρ' v G' H' hq s kp r' p
theorem ay {op:Operator} {r:R2} {f:D→D→(D→Prop)→Prop} (ho:OpR X (binaryOp op) r) (hd:DOp r f) (ha:QE X ow a ma) (hb:QE X ow b mb):QE X ow (.BinOp a op b pos) (mOp f ma mb):=by
 obtain ⟨ta,pa,sa⟩:=ha; obtain ⟨tb,pb,sb⟩:=hb
 exact ⟨_,pE ho pa pb,lm hd sa sb⟩
theorem cF {op:CmpOp} {r:R2} {f:D→D→(D→Prop)→Prop} (ho:OpR X (compareOp op) r) (hd:DOp r f) (ha:QE X ow a ma) (hb:QE X ow b mb) (hm:behindInMarks op b=false):QE X ow (.Compare a [op] [b] pos) (mOp f ma mb):=by
 obtain ⟨ta,pa,sa⟩:=ha; obtain ⟨tb,pb,sb⟩:=hb
 exact ⟨_,sF ho pa pb hm,lm hd sa sb⟩
theorem av {r:R2} {f:D→D→(D→Prop)→Prop} (ho:IxR X r) (hd:DOp r f) (ha:QE X ow a ma) (hb:QE X ow b mb) (hs:iA b):QE X ow (.Subscript a b pos) (mOp f ma mb):=by
 obtain ⟨ta,pa,sa⟩:=ha; obtain ⟨tb,pb,sb⟩:=hb
 exact ⟨_,tS ho pa pb hs,lm hd sa sb⟩
def mB (m:ME):MT:=fun ρ q=>m ρ fun d ρ'=>match d with
 | .bl b=>q b ρ'
 | _=>False
theorem bY {G:Hp} {b:Bool} {v:V} (h:Rep G (.bl b) v):v = .bl b:=by rw [Rep] at h; exact h
theorem aw {G:Hp} {b:Int} {v:V} (h:Rep G (.int b) v):v = .int b:=by rw [Rep] at h; exact h
theorem qD {t:TE} {m:ME} (h:SE ow t m):STe ow (n_ t) (mB m):=fun C G ρ σ H pd q Q r hm k=>by
 refine h C G ρ σ H pd _ _ r hm fun d ρ' v G' H' hq s kp r' p=>?_
 cases d with
 | bl b=>exact ⟨b,bY p,k b ρ' G' H' hq s kp r'⟩
 | _=>exact hq.elim
theorem aP {op:CmpOp} {r:R2} {f:D→D→(D→Prop)→Prop} (ho:OpR X (compareOp op) r) (hd:DOp r f) (ha:QE X ow a ma) (hb:QE X ow b mb) (hm:behindInMarks op b=false):QT X ow (.Compare a [op] [b] pos) (mB (mOp f ma mb)):=by
 obtain ⟨ta,pa,sa⟩:=ha; obtain ⟨tb,pb,sb⟩:=hb
 exact ⟨_,sW ho pa pb hm,qD (lm hd sa sb)⟩
theorem aX (h:QE X ow e ma) (he:∀ whole,isTrue e X.env whole=(do let v ← whole; standAt e.pos; holding [v] (truthy v)):=by intro _; rfl):QT X ow e (mB ma):=by
 obtain ⟨ta,pa,sa⟩:=h
 exact ⟨_,v_ pa he,qD sa⟩
def mTru (m:ME):MT:=fun ρ q=>m ρ fun d ρ'=>match d with
 | .bl b=>q b ρ'
 | .lst ds=>q (!ds.isEmpty) ρ'
 | .tup ds=>q (!ds.isEmpty) ρ'
 | .int i=>q (i != 0) ρ'
 | .non=>q false ρ'
 | _=>False
theorem oF {α β:Type} {xs:List α} {ds:List β} (h:xs.length=ds.length):(!xs.isEmpty) = !ds.isEmpty:=by
 cases xs <;> cases ds <;> simp_all
theorem jy (h:QE X ow e ma) (he:∀ whole,isTrue e X.env whole=(do let v ← whole; standAt e.pos; holding [v] (truthy v)):=by intro _; rfl):QT X ow e (mTru ma):=by
 obtain ⟨ta,pa,sa⟩:=h
 refine ⟨_,oQ pa he,fun C G ρ σ H pd q Q r hm k=>?_⟩
 refine sa C G ρ σ H pd _ _ r hm fun d ρ' v G' H' hq s kp r' p=>?_
 cases d with
 | bl b=>exact ⟨b,by rw [bY p]; rfl,k b ρ' G' H' hq s kp r'⟩
 | int i=>exact ⟨_,by rw [aw p]; rfl,k _ ρ' G' H' hq s kp r'⟩
 | non=>exact ⟨_,by rw [Rep] at p; rw [p]; rfl,k _ ρ' G' H' hq s kp r'⟩
 | lst ds=>rw [Rep] at p; obtain ⟨a,xs,rfl,h1,h2⟩:=p; exact ⟨_,.inl ⟨xs,SqL.of (r'.gh _ _ h1),(oF h2.length).symm⟩,k _ ρ' G' H' hq s kp r'⟩
 | tup ds=>rw [Rep] at p; obtain ⟨a,xs,rfl,h1,h2⟩:=p; exact ⟨_,.inr (.inl ⟨xs,SqT.of (r'.gh _ _ h1),(oF h2.length).symm⟩),k _ ρ' G' H' hq s kp r'⟩
 | _=>exact hq.elim
def mIf {α:Type} (m:MT) (x y:DSt→(α→DSt→Prop)→Prop):DSt→(α→DSt→Prop)→Prop:=fun ρ q=>m ρ fun b ρ1=>if b=true then x ρ1 q else y ρ1 q
def oo (b:Bool):MT:=fun ρ q=>q b ρ
theorem st_if {t t1 t2:TT} {m m1 m2:MT} (h:STe ow t m) (h1:STe ow t1 m1) (h2:STe ow t2 m2):STe ow (fun σ H Q=>t σ H fun c H1=>if c=true then t1 σ H1 Q else t2 σ H1 Q) (mIf m m1 m2):=fun C G ρ σ H pd q Q r hm k=>by
 refine h C G ρ σ H pd _ _ r hm fun b ρ' G' H' hq s kp r'=>?_
 cases b with
 | true=>rw [if_pos rfl] at hq ⊢; exact h1 C G' ρ' σ H' pd _ _ r' hq fun b ρ2 G2 H2 hq2 s2 kp2 r2=>k b ρ2 G2 H2 hq2 (s.trans s2) (kp.trans kp2) r2
 | false=>rw [if_neg (by decide)] at hq ⊢; exact h2 C G' ρ' σ H' pd _ _ r' hq fun b ρ2 G2 H2 hq2 s2 kp2 r2=>k b ρ2 G2 H2 hq2 (s.trans s2) (kp.trans kp2) r2
theorem nQ (b:Bool):STe ow (fun _ H Q=>Q b H) (oo b):=fun C G ρ σ H pd q Q r hm k=>k b ρ G H hm (aF.refl _) Kp.refl r
variable {mt mu mv:MT} {rest:List Expr}
theorem bz (h:QT X ow a mt):QW X ow (.BoolOp .Or [a] pos) mt:=by obtain ⟨t,p,s⟩:=h; exact ⟨_,uz p,s⟩
theorem cn (h:QT X ow a mt) (h2:QW X ow (.BoolOp .Or (b :: rest) pos) mu):QW X ow (.BoolOp .Or (a :: b :: rest) pos) (mIf mt (oo true) mu):=by
 obtain ⟨t,p,s⟩:=h; obtain ⟨t2,p2,s2⟩:=h2; exact ⟨_,pw_or p p2,st_if s (nQ true) s2⟩
theorem QW.qt (h:QW X ow e mt):QT X ow e mt:=by obtain ⟨t,p,s⟩:=h; exact ⟨_,p.pt,s⟩
def mNot (m:MT):MT:=fun ρ q=>m ρ fun b ρ'=>q (!b) ρ'
theorem aT (h:QT X ow a mt):QT X ow (.UnaryOp .Not a pos) (mNot mt):=by
 obtain ⟨t,p,s⟩:=h
 exact ⟨_,wP p,fun C G ρ σ H pd q Q r hm k=>s C G ρ σ H pd _ _ r hm fun b ρ' G' H' hq s kp r'=>k _ ρ' G' H' hq s kp r'⟩
def mV (m:MT):ME:=fun ρ q=>m ρ fun b ρ'=>q (.bl b) ρ'
theorem eM {op} (h:QE X ow a ma):QE X ow (.BoolOp op [a] pos) ma:=by obtain ⟨t,p,s⟩:=h; exact ⟨_,wM p,s⟩
theorem vy (h:QE X ow a ma):QE X ow (.UnaryOp .Not a pos) (mV (mNot (mB ma))):=by
 obtain ⟨t,p,s⟩:=h
 refine ⟨_,vM p,fun C G ρ σ H pd q Q r hm k=>?_⟩
 refine s C G ρ σ H pd _ _ r hm fun d ρ' v G' H' hq s kp r' p=>?_
 cases d with
 | bl b=>exact ⟨b,bY p,k _ ρ' _ G' H' hq s kp r' (ck _)⟩
 | _=>exact hq.elim
theorem dG (h:QE X ow a ma) (h2:QE X ow (.BoolOp .And (b :: rest) pos) mb):QE X ow (.BoolOp .And (a :: b :: rest) pos) (mIf (mB ma) mb (mC (.bl false))):=by
 obtain ⟨t,p,s⟩:=h; obtain ⟨t2,p2,s2⟩:=h2
 refine ⟨_,vF p p2,fun C G ρ σ H pd q Q r hm k=>?_⟩
 refine s C G ρ σ H pd _ _ r hm fun d ρ' v G' H' hq s kp r' p=>?_
 cases d with
 | bl b =>
  refine ⟨b,bY p,?_⟩
  change (if b=true then _ else _) at hq
  cases b with
  | true=>rw [if_pos rfl] at hq ⊢; exact s2 C G' ρ' σ H' pd _ _ r' hq fun d ρ2 v G2 H2 hq2 z2 kp2 r2 p2=>k d ρ2 v G2 H2 hq2 (s.trans z2) (kp.trans kp2) r2 p2
  | false=>rw [if_neg (by decide)] at hq ⊢; exact k _ ρ' _ G' H' hq s kp r' (ck _)
 | _=>exact hq.elim
theorem ff (h:QT X ow c mt) (ha:QE X ow a ma) (hb:QE X ow b mb):QE X ow (.IfExp c a b pos) (mIf mt ma mb):=by
 obtain ⟨t,p,s⟩:=h; obtain ⟨t1,p1,s1⟩:=ha; obtain ⟨t2,p2,s2⟩:=hb
 refine ⟨_,rL p p1 p2,fun C G ρ σ H pd q Q r hm k=>?_⟩
 refine s C G ρ σ H pd _ _ r hm fun d ρ' G' H' hq s kp r'=>?_
 cases d with
 | true=>rw [if_pos rfl] at hq ⊢; exact s1 C G' ρ' σ H' pd _ _ r' hq fun d ρ2 v G2 H2 hq2 z2 kp2 r2 p2=>k d ρ2 v G2 H2 hq2 (s.trans z2) (kp.trans kp2) r2 p2
 | false=>rw [if_neg (by decide)] at hq ⊢; exact s2 C G' ρ' σ H' pd _ _ r' hq fun d ρ2 v G2 H2 hq2 z2 kp2 r2 p2=>k d ρ2 v G2 H2 hq2 (s.trans z2) (kp.trans kp2) r2 p2
theorem QF.qe (h:QF X ow e ma):QE X ow e ma:=by
 obtain ⟨t,p,s⟩:=h
 refine ⟨_,p,fun C G ρ σ H pd q Q r hm k=>s C G ρ σ H pd _ _ r hm fun d ρ' v G' H' hq s kp r'=>?_⟩
 obtain ⟨O,r'⟩:=r'
 obtain ⟨G2,s2,r2,p2⟩:=r'.share r.np
 exact k d ρ' v G2 H' hq (s.trans s2) kp r2 p2
def mImm (m:ME):ME:=fun ρ q=>m ρ fun d ρ'=>imm d=true∧q d ρ'
theorem QE.qf (h:QE X ow e ma):QF X ow e (mImm ma):=by
 obtain ⟨t,p,s⟩:=h
 refine ⟨_,p,fun C G ρ σ H pd q Q r hm k=>s C G ρ σ H pd _ _ r hm fun d ρ' v G' H' hq s kp r' p=>?_⟩
 obtain ⟨O,r'⟩:=r'
 exact k d ρ' v G' H' hq.2 s kp ⟨O,r'.len,r'.gh,r'.g0,r'.gn,r'.og,r'.cok,r'.fr,r'.ft,r'.al,r'.mp,r'.sl,⟨p.sep d [] v hq.1,r'.pn⟩,Nat.le_succ_of_le r'.np⟩
theorem kT {js:List Nat} {ρ ρ':DSt} (h:Kp (bor js ow) ρ ρ'):Kp ow ρ ρ':=fun j n=>h j fun z=>n (c8.mp z).1
theorem QE.bor (js:List Nat) (h:QE X (bor js ow) e ma):QE X ow e (mImm ma):=by
 obtain ⟨t,p,s⟩:=h
 refine ⟨_,p,fun C G ρ σ H pd q Q r hm k=>?_⟩
 obtain ⟨O,r⟩:=r
 refine s _ _ ρ σ H pd _ _ ⟨_,r.enter js⟩ hm fun d ρ' v G' H' hq s kp r' p=>?_
 obtain ⟨O',r'⟩:=r'
 obtain ⟨r2,s2,ts⟩:=r.leave r' kp
 exact k d ρ' v _ H' hq.2 s2 (kT kp) ⟨_,r2⟩ (p.imms ts d v hq.1)
theorem QF.bor (js:List Nat) (h:QF X (bor js ow) e ma):QF X ow e ma:=by
 obtain ⟨t,p,s⟩:=h
 refine ⟨_,p,fun C G ρ σ H pd q Q r hm k=>?_⟩
 obtain ⟨O,r⟩:=r
 refine s _ _ ρ σ H pd _ _ ⟨_,r.enter js⟩ hm fun d ρ' v G' H' hq s kp r'=>?_
 obtain ⟨O',r'⟩:=r'
 obtain ⟨r2,s2,ts⟩:=r.leave r' kp
 exact k d ρ' v _ H' hq s2 (kT kp) ⟨_,r2⟩
theorem QT.bor (js:List Nat) (h:QT X (bor js ow) e mt):QT X ow e mt:=by
 obtain ⟨t,p,s⟩:=h
 refine ⟨_,p,fun C G ρ σ H pd q Q r hm k=>?_⟩
 obtain ⟨O,r⟩:=r
 refine s _ _ ρ σ H pd _ _ ⟨_,r.enter js⟩ hm fun d ρ' G' H' hq s kp r'=>?_
 obtain ⟨O',r'⟩:=r'
 obtain ⟨r2,s2,ts⟩:=r.leave r' kp
 exact k d ρ' _ H' hq s2 (kT kp) ⟨_,r2⟩
def nA:MA:=fun ρ q=>q [] ρ
def eH (m:ME) (r:MA):MA:=fun ρ q=>m ρ fun d ρ1=>r ρ1 fun ds ρ2=>q (d :: ds) ρ2
variable {mr:MA} {es:List Expr}
theorem aj:QA X ow [] nA:=⟨_,dr,fun C G ρ σ H pd q Q r h k=>k [] ρ [] G H h (aF.refl _) Kp.refl r bg rfl⟩
theorem ae (ha:QE X ow e ma) (hr:QA X ow es mr) (hs:starEach (e :: es) X.env=(false,eval e X.env) :: starEach es X.env:=by rfl):QA X ow (e :: es) (eH ma mr):=by
 obtain ⟨t,p,s⟩:=ha; obtain ⟨t2,p2,s2⟩:=hr
 refine ⟨_,bK p p2 hs,fun C G ρ σ H pd q Q r hm k=>?_⟩
 refine s C G ρ σ H pd _ _ r hm fun d ρ' v G' H' hq z kp r' p=>?_
 refine s2 C G' ρ' σ H' pd _ _ r' hq fun ds ρ2 vs G2 H2 hq2 z2 kp2 r2 p2 hl=>?_
 exact k (d :: ds) ρ2 (v :: vs) G2 H2 hq2 (z.trans z2) (kp.trans kp2) r2 (bb (Rep.mono z2 _ _ p) p2) (by simp [hl])
def mTup (m:MA):ME:=fun ρ q=>m ρ fun ds ρ'=>q (.tup ds) ρ'
def mLst (m:MA):ME:=fun ρ q=>m ρ fun ds ρ'=>q (.lst ds) ρ'
def mLstI (m:MA):ME:=fun ρ q=>m ρ fun ds ρ'=>imms ds=true∧q (.lst ds) ρ'
theorem dH {n:Nat} (h:n≤1000):n≤sizeLine:=Nat.le_of_lt (dg h)
theorem bq {x1} (h:QA X ow es mr) (hl:es.length≤1000:=by decide):QE X ow (.Tuple es x1 pos) (mTup mr):=by
 obtain ⟨t,p,s⟩:=h
 refine ⟨_,qA p,fun C G ρ σ H pd q Q r hm k=>s C G ρ σ H pd _ _ r hm fun ds ρ' vs G' H' hq z kp r' p hn=>⟨dH (by omega),fun a ha=>?_⟩⟩
 obtain ⟨O,r'⟩:=r'
 obtain ⟨r2,s2⟩:=r'.new ha (.tup vs)
 exact k _ ρ' _ _ _ hq (z.trans s2) kp ⟨O,r2⟩ (ga aJ (Reps.mono s2 _ _ p))
theorem bI (h:QA X ow es mr) (hl:es.length≤1000:=by decide):QE X ow (.List es pos) (mLst mr):=by
 obtain ⟨t,p,s⟩:=h
 refine ⟨_,om p,fun C G ρ σ H pd q Q r hm k=>s C G ρ σ H pd _ _ r hm fun ds ρ' vs G' H' hq z kp r' p hn=>⟨dH (by omega),fun a ha=>?_⟩⟩
 obtain ⟨O,r'⟩:=r'
 obtain ⟨r2,s2⟩:=r'.new ha (.lst vs)
 exact k _ ρ' _ _ _ hq (z.trans s2) kp ⟨O,r2⟩ (fq aJ (Reps.mono s2 _ _ p))
theorem dO (h:QA X ow es mr) (hl:es.length≤1000:=by decide):QF X ow (.List es pos) (mLstI mr):=by
 obtain ⟨t,p,s⟩:=h
 refine ⟨_,om p,fun C G ρ σ H pd q Q r hm k=>s C G ρ σ H pd _ _ r hm fun ds ρ' vs G' H' hq z kp r' p hn=>⟨dH (by omega),fun a ha=>?_⟩⟩
 obtain ⟨O,r'⟩:=r'
 exact k _ ρ' _ _ _ hq.2 z kp (r'.newL ha hq.1 p)
def di (r:List V→Hp→VK→Prop) (f:List D→(D→Prop)→Prop):Prop:=∀ (G H:Hp) (xs:List V) (ds:List D) (q:D→Prop) (Q:VK),aF G H→Reps G ds xs→f ds q→(∀ d v,q d→Rep G d v→Q v H)→r xs H Q
def mCB (f:List D→(D→Prop)→Prop) (m:MA):ME:=fun ρ q=>m ρ fun ds ρ'=>f ds fun d=>q d ρ'
theorem ud {r:List V→Hp→VK→Prop} {f:List D→(D→Prop)→Prop} {t:TA} {n:Nat} (hd:di r f) (s:SA ow n t mr):SE ow (tCB r t) (mCB f mr):=fun C G ρ σ H pd q Q hr hm k =>
 s C G ρ σ H pd _ _ hr hm fun ds ρ' vs G' H' hq z kp r' p hn=>hd G' H' vs ds _ _ r'.gh p hq fun d v hq p=>k d ρ' v G' H' hq z kp r' p
variable {x:Str} {p':Pos}
theorem aM {id:String} {r:List V→Hp→VK→Prop} {f:List D→(D→Prop)→Prop} (hc:bX X (.builtin id) r) (hd:di r f) (hg:Gl X x) (hm:X.mg x=none) (hv:bootBuiltins x=some (.builtin id)) (ha:QA X ow (e :: es) mr) (hn:x ≠ "__name__":=by decide) (hdb:(x == ("__debug__":Str))=false:=by decide)
 (he:starEach (e :: es) X.env=(false,eval e X.env) :: starEach es X.env:=by rfl) (hpl:(backTo pos (starEach es X.env)).any (·.1)=false:=by rfl):QE X ow (.Call (.Name x p') (e :: es) [] pos) (mCB f mr):=by
 obtain ⟨t,p,s⟩:=ha
 exact ⟨_,gr hc hg hm hv p hn hdb he hpl,ud hd s⟩
theorem bO {id:String} {r:List V→Hp→VK→Prop} {f:List D→(D→Prop)→Prop} (hc:bX X (.type id) r) (hd:di r f) (hg:Gl X x) (hm:X.mg x=none) (hv:bootBuiltins x=some (.type id)) (ha:QA X ow (e :: es) mr) (hn:x ≠ "__name__":=by decide) (hdb:(x == ("__debug__":Str))=false:=by decide)
 (he:starEach (e :: es) X.env=(false,eval e X.env) :: starEach es X.env:=by rfl) (hpl:(backTo pos (starEach es X.env)).any (·.1)=false:=by rfl):QE X ow (.Call (.Name x p') (e :: es) [] pos) (mCB f mr):=by
 obtain ⟨t,p,s⟩:=ha
 exact ⟨_,fy hc hg hm hv p hn hdb he hpl,ud hd s⟩
end
def fI (g:Int→Int→Int):D→D→(D→Prop)→Prop:=fun a b q=>match a,b with
 | .int i,.int j=>q (.int (g i j))
 | _,_=>False
def fIC (C:Int→Int→Prop) (g:Int→Int→Int):D→D→(D→Prop)→Prop:=fun a b q=>match a,b with
 | .int i,.int j=>C i j∧q (.int (g i j))
 | _,_=>False
def fB (g:Int→Int→Bool):D→D→(D→Prop)→Prop:=fun a b q=>match a,b with
 | .int i,.int j=>q (.bl (g i j))
 | _,_=>False
theorem dI {g:Int→Int→Int}:DOp (rI0 fun i j=>.int (g i j)) (fI g):=fun G H x y dx dy q Q s p1 p2 hf k=>by
 unfold fI at hf
 split at hf
 ·exact ⟨_,_,aw p1,aw p2,k _ _ hf (a8 _)⟩
 ·exact hf.elim
theorem dIC {C:Int→Int→Prop} {g:Int→Int→Int}:DOp (rI C fun i j=>.int (g i j)) (fIC C g):=fun G H x y dx dy q Q s p1 p2 hf k=>by
 unfold fIC at hf
 split at hf
 ·exact ⟨_,_,aw p1,aw p2,hf.1,k _ _ hf.2 (a8 _)⟩
 ·exact hf.elim
theorem dB {g:Int→Int→Bool}:DOp (rI0 fun i j=>.bl (g i j)) (fB g):=fun G H x y dx dy q Q s p1 p2 hf k=>by
 unfold fB at hf
 split at hf
 ·exact ⟨_,_,aw p1,aw p2,k _ _ hf (ck _)⟩
 ·exact hf.elim
def eqD (a b:D):Bool:=PyData.eqv (toP a) (toP b)
def okD (a:D):Bool:=SeqAt.shaped (toP a)
def fEq:D→D→(D→Prop)→Prop:=fun a b q=>match a,b with
 | .int i,.int j=>q (.bl (decide (i=j)))
 | a,b=>okD a=true∧okD b=true∧q (.bl (eqD a b))
def fNe:D→D→(D→Prop)→Prop:=fun a b q=>match a,b with
 | .int i,.int j=>q (.bl (!decide (i=j)))
 | a,b=>okD a=true∧okD b=true∧q (.bl (!eqD a b))
theorem lq (i j:Int):eqD (.int i) (.int j)=decide (i=j):=by
 unfold eqD; rw [toP,toP,PyData.eqv]; first | rfl | (rw [Bool.beq_eq_decide_eq])
theorem f_ (i:Int):okD (.int i)=true:=by unfold okD; rw [toP]; rfl
theorem dEq:DOp rEqD fEq:=fun G H x y dx dy q Q s p1 p2 hf k=>by
 have main:okD dx=true∧okD dy=true∧q (.bl (eqD dx dy)):=by
  unfold fEq at hf
  split at hf
  ·exact ⟨f_ _,f_ _,by rw [lq]; exact hf⟩
  ·exact hf
 exact ⟨dx,dy,Rep.mono s _ _ p1,Rep.mono s _ _ p2,main.1,main.2.1,k _ _ main.2.2 (ck _)⟩
theorem dNe:DOp rNeD fNe:=fun G H x y dx dy q Q s p1 p2 hf k=>by
 have main:okD dx=true∧okD dy=true∧q (.bl (!eqD dx dy)):=by
  unfold fNe at hf
  split at hf
  ·exact ⟨f_ _,f_ _,by rw [lq]; exact hf⟩
  ·exact hf
 exact ⟨dx,dy,Rep.mono s _ _ p1,Rep.mono s _ _ p2,main.1,main.2.1,k _ _ main.2.2 (ck _)⟩
def nU:D→Bool
 | .non=>true
 | _=>false
theorem fU {G:Hp} {d:D} {v:V} (h:Rep G d v):decide (v = .non)=nU d:=by
 cases d <;> rw [Rep] at h
 case non=>subst h; rfl
 case tup=>obtain ⟨a,xs,rfl,_⟩:=h; rfl
 case lst=>obtain ⟨a,xs,rfl,_⟩:=h; rfl
 case dct=>obtain ⟨a,xs,rfl,_⟩:=h; rfl
 case dic=>obtain ⟨a,xs,rfl,_⟩:=h; rfl
 case scr=>obtain ⟨a,rfl,_⟩:=h; rfl
 case ext=>obtain ⟨a,H0,rfl,_⟩:=h; rfl
 case obj=>obtain ⟨a,dx,xs,rfl,_⟩:=h; rfl
 all_goals subst h; rfl
def fIsN:D→D→(D→Prop)→Prop:=fun a b q=>match b with
 | .non=>q (.bl (nU a))
 | _=>False
def tZ:D→D→(D→Prop)→Prop:=fun a b q=>match b with
 | .non=>q (.bl (!nU a))
 | _=>False
theorem dIsN:DOp (fun x y H Q=>y = .non∧Q (.bl (decide (x = .non))) H) fIsN:=fun G H x y dx dy q Q s p1 p2 hf k=>by
 unfold fIsN at hf
 split at hf
 ·rw [Rep] at p2; exact ⟨p2,by rw [fU p1]; exact k _ _ hf (ck _)⟩
 ·exact hf.elim
theorem dNotN:DOp (fun x y H Q=>y = .non∧Q (.bl (!decide (x = .non))) H) tZ:=fun G H x y dx dy q Q s p1 p2 hf k=>by
 unfold tZ at hf
 split at hf
 ·rw [Rep] at p2; exact ⟨p2,by rw [fU p1]; exact k _ _ hf (ck _)⟩
 ·exact hf.elim
def fIsB:D→D→(D→Prop)→Prop:=fun a b q=>match a,b with
 | .bl x,.bl y=>q (.bl (x == y))
 | _,_=>False
def lh:D→Bool
 | .non=>true
 | .bl _=>true
 | .int _=>true
 | .str _=>true
 | _=>false
def eqF:D→D→Bool
 | .non,.non=>true
 | .bl a,.bl b=>a == b
 | .bl a,.int b=>(if a then 1 else 0) == b
 | .int a,.bl b=>a == (if b then 1 else 0)
 | .int a,.int b=>a == b
 | .str a,.str b=>a == b
 | _,_=>false
def inD (a:D) (ds:List D):Bool:=ds.any fun y=>eqF y a
def fIn (neg:Bool):D→D→(D→Prop)→Prop:=fun a b q=>match b with
 | .lst ds=>lh a=true∧ds.all lh=true∧q (.bl (if neg then !inD a ds else inD a ds))
 | .tup ds=>lh a=true∧ds.all lh=true∧q (.bl (if neg then !inD a ds else inD a ds))
 | _=>False
def atD (ds:List D) (i:Int) (q:D→Prop):Prop:=match atI ds i with
 | some d=>q d
 | none=>False
def fIx (K:PySem.W.Frag):D→D→(D→Prop)→Prop:=fun a b q=>match a,b with
 | .lst ds,.int i=>atD ds i q
 | .tup ds,.int i=>atD ds i q
 | .scr φ ns,.int i=>(∀ a H,φ a→SqL K H a (ns.map V.int))∧match atI ns i with
  | some n=>q (.int n)
  | none=>False
 | _,_=>False
theorem cQ {G:Hp}:∀ {ds:List D} {xs:List V} {j:Nat} {d:D},Reps G ds xs→ds[j]? = some d→∃ v,xs[j]? = some v∧Rep G d v
 | [],_,_,_,_,e=>by simp at e
 | d :: ds,xs,0,e,h,q=>by rw [Reps] at h; obtain ⟨v,vs,rfl,h1,_⟩:=h; simp at q; subst q; exact ⟨v,rfl,h1⟩
 | d :: ds,xs,j + 1,e,h,q=>by
  rw [Reps] at h
  obtain ⟨v,vs,rfl,_,h2⟩:=h
  obtain ⟨u,e1,e2⟩:=cQ (j:=j) h2 (by simpa using q)
  exact ⟨u,by simpa using e1,e2⟩
theorem jz {G:Hp} {ds:List D} {xs:List V} {i:Int} {d:D} (h:Reps G ds xs) (e:atI ds i=some d):∃ v,atI xs i=some v∧Rep G d v:=by
 unfold atI at *
 rw [h.length]
 cases q:ixN ds.length i with
 | none=>rw [q] at e; cases e
 | some j=>rw [q] at e; exact cQ h e
theorem ji {α β:Type} {f : α→β} {xs:List α} {i:Int} {x : α} (h:atI xs i=some x):atI (xs.map f) i=some (f x):=by
 unfold atI at *
 rw [List.length_map]
 cases q:ixN xs.length i with
 | none=>rw [q] at h; cases h
 | some j=>rw [q] at h; rw [show (Option.some j).bind _=(xs.map f)[j]? from rfl,List.getElem?_map,show xs[j]? = some x from h]; rfl
theorem dIx {K:PySem.W.Frag}:DOp (rIx K) (fIx K):=fun G H x y dx dy q Q s p1 p2 hf k=>by
 unfold fIx at hf
 split at hf
 ·rw [Rep] at p1
  obtain ⟨a,xs,rfl,h1,h2⟩:=p1
  unfold atD at hf
  split at hf
  ·rename_i e
   obtain ⟨v,e1,e2⟩:=jz h2 e
   exact .inl ⟨a,xs,_,v,rfl,aw p2,SqL.of (s _ _ h1),e1,k _ _ hf e2⟩
  ·exact hf.elim
 ·rw [Rep] at p1
  obtain ⟨a,xs,rfl,h1,h2⟩:=p1
  unfold atD at hf
  split at hf
  ·rename_i e
   obtain ⟨v,e1,e2⟩:=jz h2 e
   exact .inr (.inl ⟨a,xs,_,v,rfl,aw p2,SqT.of (s _ _ h1),e1,k _ _ hf e2⟩)
  ·exact hf.elim
 ·rw [Rep] at p1
  obtain ⟨a,rfl,h1⟩:=p1
  obtain ⟨hk,hf⟩:=hf
  split at hf
  ·rename_i e
   refine .inl ⟨a,_,_,_,rfl,aw p2,?_,ji e,k _ _ hf (a8 _)⟩
   rcases h1 with ⟨o,h1⟩ | h1
   ·exact .inl (.inr ⟨o,s _ _ h1⟩)
   ·exact hk a H h1
  ·exact hf.elim
 ·exact hf.elim
def fLen (K:PySem.W.Frag):List D→(D→Prop)→Prop:=fun ds q=>match ds with
 | [.lst ds]=>q (.int ds.length)
 | [.tup ds]=>q (.int ds.length)
 | [.scr φ ns]=>(∀ a H,φ a→SqL K H a (ns.map V.int))∧q (.int ns.length)
 | _=>False
theorem aW {G:Hp} {ds:List D} {v:V} (h:Rep G (.lst ds) v):∃ a xs,v = .ref a∧G a=some (.lst xs)∧Reps G ds xs:=by rw [Rep] at h; exact h
theorem eI {G:Hp} {ds:List D} {v:V} (h:Rep G (.tup ds) v):∃ a xs,v = .ref a∧G a=some (.tup xs)∧Reps G ds xs:=by rw [Rep] at h; exact h
theorem lc {G:Hp} {φ:Addr→Prop} {ns:List Int} {v:V} (h:Rep G (.scr φ ns) v):∃ a,v = .ref a∧((∃ o,G a=some (.frz o (.lst (ns.map V.int))))∨φ a):=by rw [Rep] at h; exact h
theorem aZ {G:Hp} {d:D} {xs:List V} (h:Reps G [d] xs):∃ v,xs=[v]∧Rep G d v:=by
 rw [Reps] at h; obtain ⟨v,vs,rfl,h1,h2⟩:=h; rw [Reps] at h2; subst h2; exact ⟨v,rfl,h1⟩
theorem fh {G:Hp} {d e:D} {xs:List V} (h:Reps G [d,e] xs):∃ v u,xs=[v,u]∧Rep G d v∧Rep G e u:=by
 rw [Reps] at h; obtain ⟨v,vs,rfl,h1,h2⟩:=h; obtain ⟨u,rfl,h3⟩:=aZ h2; exact ⟨v,u,rfl,h1,h3⟩
theorem eG {K:PySem.W.Frag}:di (fun xs H Q=>∃ p ys,xs=[.ref p]∧(SqL K H p ys∨SqT K H p ys)∧Q (.int ys.length) H) (fLen K):=fun G H xs ds q Q s p hf k=>by
 unfold fLen at hf
 split at hf
 ·obtain ⟨v,rfl,p1⟩:=aZ p
  obtain ⟨a,xs,rfl,h1,h2⟩:=aW p1
  exact ⟨a,xs,rfl,.inl (SqL.of (s _ _ h1)),by rw [h2.length]; exact k _ _ hf (a8 _)⟩
 ·obtain ⟨v,rfl,p1⟩:=aZ p
  obtain ⟨a,xs,rfl,h1,h2⟩:=eI p1
  exact ⟨a,xs,rfl,.inr (SqT.of (s _ _ h1)),by rw [h2.length]; exact k _ _ hf (a8 _)⟩
 ·obtain ⟨v,rfl,p1⟩:=aZ p
  obtain ⟨a,rfl,h1⟩:=lc p1
  rename_i φ ns
  have hS:SqL K H a (ns.map V.int):=by
   rcases h1 with ⟨o,h1⟩ | h1
   ·exact .inl (.inr ⟨o,s _ _ h1⟩)
   ·exact hf.1 a H h1
  exact ⟨a,_,rfl,.inl hS,by rw [List.length_map]; exact k _ _ hf.2 (a8 _)⟩
 ·exact hf.elim
def fMax:List D→(D→Prop)→Prop:=fun ds q=>match ds with
 | [.int i,.int j]=>q (.int (if j > i then j else i))
 | _=>False
def fMin:List D→(D→Prop)→Prop:=fun ds q=>match ds with
 | [.int i,.int j]=>q (.int (if j<i then j else i))
 | _=>False
theorem dMax:di (fun xs H Q=>∃ i j,xs=[.int i,.int j]∧Q (.int (if j > i then j else i)) H) fMax:=fun G H xs ds q Q s p hf k=>by
 unfold fMax at hf
 split at hf
 ·obtain ⟨v,u,rfl,p1,p2⟩:=fh p
  rw [aw p1,aw p2]
  exact ⟨_,_,rfl,k _ _ hf (a8 _)⟩
 ·exact hf.elim
theorem dMin:di (fun xs H Q=>∃ i j,xs=[.int i,.int j]∧Q (.int (if j<i then j else i)) H) fMin:=fun G H xs ds q Q s p hf k=>by
 unfold fMin at hf
 split at hf
 ·obtain ⟨v,u,rfl,p1,p2⟩:=fh p
  rw [aw p1,aw p2]
  exact ⟨_,_,rfl,k _ _ hf (a8 _)⟩
 ·exact hf.elim
def tO:List D→(D→Prop)→Prop:=fun ds q=>match ds with
 | [.int i]=>q (.int i)
 | [.bl k]=>q (.int (if k then 1 else 0))
 | _=>False
theorem tQ:di (fun xs H Q=>(∃ i,xs=[.int i]∧Q (.int i) H)∨∃ k,xs=[.bl k]∧Q (.int (if k then 1 else 0)) H) tO:=fun G H xs ds q Q s p hf k=>by
 unfold tO at hf
 split at hf
 ·obtain ⟨v,rfl,p1⟩:=aZ p
  rw [aw p1]
  exact .inl ⟨_,rfl,k _ _ hf (a8 _)⟩
 ·obtain ⟨v,rfl,p1⟩:=aZ p
  rw [bY p1]
  exact .inr ⟨_,rfl,k _ _ hf (a8 _)⟩
 ·exact hf.elim
def fAbs:List D→(D→Prop)→Prop:=fun ds q=>match ds with
 | [.int i]=>q (.int (if i<0 then -i else i))
 | _=>False
theorem dAbs:di (fun xs H Q=>∃ i,xs=[.int i]∧Q (.int (if i<0 then -i else i)) H) fAbs:=fun G H xs ds q Q s p hf k=>by
 unfold fAbs at hf
 split at hf
 ·obtain ⟨v,rfl,p1⟩:=aZ p
  rw [aw p1]
  exact ⟨_,rfl,k _ _ hf (a8 _)⟩
 ·exact hf.elim
section
variable {X:Cx} {ow:List Bool} {a b c e:Expr} {ma mb mc:ME} {pos:Pos} {mr:MA} {es:List Expr}
def mNeg (m:ME):ME:=fun ρ q=>m ρ fun d ρ'=>match d with
 | .int i=>q (.int (-i)) ρ'
 | _=>False
theorem qN (h:QE X ow a ma):QE X ow (.UnaryOp .USub a pos) (mNeg ma):=by
 obtain ⟨t,p,s⟩:=h
 refine ⟨_,pe_un vI p,fun C G ρ σ H pd q Q r hm k=>s C G ρ σ H pd _ _ r hm fun d ρ' v G' H' hq s kp r' p=>?_⟩
 cases d with
 | int i=>exact ⟨i,aw p,k _ ρ' _ G' H' hq s kp r' (a8 _)⟩
 | _=>exact hq.elim
def mIsT (T:String) (m:ME):ME:=fun ρ q=>m ρ fun d ρ'=>match mO d T with
 | some b=>q (.bl b) ρ'
 | none=>False
theorem cm {T:String} {x y:Str} {p1 p2:Pos} (hg:Gl X x) (hm:X.mg x=none) (hv:bootBuiltins x=some (.builtin "isinstance")) (ha:QE X ow a ma) (ht:PE X (.Name y p2) (tC (.ty T)))
 (hn:x ≠ "__name__":=by decide) (hdb:(x == ("__debug__":Str))=false:=by decide)
 (hs:starEach [.Name y p2] X.env=[(false,eval (.Name y p2) X.env)]:=by rfl)
 (he:starEach [a,.Name y p2] X.env=(false,eval a X.env) :: starEach [.Name y p2] X.env:=by rfl) (hpl:(backTo pos (starEach [.Name y p2] X.env)).any (·.1)=false:=by rfl) :
 QE X ow (.Call (.Name x p1) [a,.Name y p2] [] pos) (mIsT T ma):=by
 obtain ⟨t,p,s⟩:=ha
 refine ⟨_,gr jQ hg hm hv (bK p (bK ht dr hs) he) hn hdb he hpl,fun C G ρ σ H pd q Q r hm k=>s C G ρ σ H pd _ _ r hm fun d ρ' v G' H' hq s kp r' p=>?_⟩
 cases e:mO d T with
 | none=>rw [e] at hq; exact hq.elim
 | some b=>rw [e] at hq; exact ⟨v,T,d,b,rfl,Rep.mono r'.gh _ _ p,e,k _ ρ' _ G' H' hq s kp r' (ck _)⟩
def kC (f g:D→D→(D→Prop)→Prop) (ma mb mc:ME):ME:=fun ρ q=>ma ρ fun x ρ1=>mb ρ1 fun y ρ2=>f x y fun z=>match z with
 | .bl k=>if k=true then mc ρ2 fun w ρ3=>g y w fun d=>q d ρ3 else q (.bl false) ρ2
 | _=>False
theorem jq {r r':R2} {f g:D→D→(D→Prop)→Prop} {ta tb tc:TE} (hf:DOp r f) (hg:DOp r' g) (ha:SE ow ta ma) (hb:SE ow tb mb) (hc:SE ow tc mc):SE ow (k9 r r' ta tb tc) (kC f g ma mb mc):=fun C G ρ σ H pd q Q hr h k=>by
 refine iI (Q:=fun x y H2=>r x y H2 _) ha hb hr h fun dx dy ρ' x y G' H' h1 s kp r1 p1 p2=>?_
 refine hf G' H' x y dx dy _ _ r1.gh p1 p2 h1 fun d v hq p=>?_
 cases d with
 | bl b =>
  refine ⟨b,bY p,?_⟩
  change (if b=true then _ else _) at hq
  cases b with
  | true =>
   rw [if_pos rfl] at hq ⊢
   refine hc C G' ρ' σ H' pd _ _ r1 hq fun dw ρ3 w G3 H3 h3 s3 kp3 r3 p3=>?_
   exact hg G3 H3 y w dy dw _ _ r3.gh (Rep.mono s3 _ _ p2) p3 h3 fun d v hq p=>k d ρ3 v G3 H3 hq (s.trans s3) (kp.trans kp3) r3 p
  | false=>rw [if_neg (by decide)] at hq ⊢; exact k _ ρ' _ G' H' hq s kp r1 (ck _)
 | _=>exact hq.elim
theorem jZ {op op':CmpOp} {r r':R2} {f g:D→D→(D→Prop)→Prop} (ho:OpR X (compareOp op) r) (ho':OpR X (compareOp op') r') (hf:DOp r f) (hg:DOp r' g) (ha:QE X ow a ma) (hb:QE X ow b mb) (hc:QE X ow c mc)
 (hm:lastMarks [op,op'] [b,c]=false:=by with_unfolding_all rfl):QE X ow (.Compare a [op,op'] [b,c] pos) (kC f g ma mb mc):=by
 obtain ⟨ta,pa,sa⟩:=ha; obtain ⟨tb,pb,sb⟩:=hb; obtain ⟨tc,pc,sc⟩:=hc
 exact ⟨_,oh ho ho' pa pb pc hm,jq hf hg sa sb sc⟩
theorem o8 {op op':CmpOp} {r r':R2} {f g:D→D→(D→Prop)→Prop} (ho:OpR X (compareOp op) r) (ho':OpR X (compareOp op') r') (hf:DOp r f) (hg:DOp r' g) (ha:QE X ow a ma) (hb:QE X ow b mb) (hc:QE X ow c mc)
 (hm:lastMarks [op,op'] [b,c]=false:=by with_unfolding_all rfl):QT X ow (.Compare a [op,op'] [b,c] pos) (mB (kC f g ma mb mc)):=by
 obtain ⟨ta,pa,sa⟩:=ha; obtain ⟨tb,pb,sb⟩:=hb; obtain ⟨tc,pc,sc⟩:=hc
 exact ⟨_,rb ho ho' pa pb pc hm,qD (jq hf hg sa sb sc)⟩
def fK (r:List V→Hp→VK→Prop) (f:List D→(List D→Prop)→Prop):Prop:=∀ (G H:Hp) (xs:List V) (ds:List D) (q:List D→Prop) (Q:VK),aF G H→Reps G ds xs→f ds q →
 (∀ es ys p,q es→Reps G es ys→H p=none→Q (.ref p) (upd H p (.lst ys)))→r xs H Q
def mNew (f:List D→(List D→Prop)→Prop) (m:MA):ME:=fun ρ q=>m ρ fun ds ρ'=>f ds fun es=>imms es=true∧q (.lst es) ρ'
def nK (f:List D→(List D→Prop)→Prop) (m:MA):ME:=fun ρ q=>m ρ fun ds ρ'=>f ds fun es=>q (.lst es) ρ'
theorem kB {r:List V→Hp→VK→Prop} {f:List D→(List D→Prop)→Prop} {t:TA} {n:Nat} (hd:fK r f) (s:SA ow n t mr):SF ow (fun σ H Q=>t σ H fun xs H1=>r xs H1 Q) (mNew f mr):=fun C G ρ σ H pd q Q hr hm k =>
 s C G ρ σ H pd _ _ hr hm fun ds ρ' vs G' H' hq z kp r' p hn=>hd G' H' vs ds _ _ r'.gh p hq fun es ys a hq p ha=>by
  obtain ⟨O,r'⟩:=r'
  exact k _ ρ' _ _ _ hq.2 z kp (r'.newL ha hq.1 p)
theorem oY {r:List V→Hp→VK→Prop} {f:List D→(List D→Prop)→Prop} {t:TA} {n:Nat} (hd:fK r f) (s:SA ow n t mr):SE ow (fun σ H Q=>t σ H fun xs H1=>r xs H1 Q) (nK f mr):=fun C G ρ σ H pd q Q hr hm k =>
 s C G ρ σ H pd _ _ hr hm fun ds ρ' vs G' H' hq z kp r' p hn=>hd G' H' vs ds _ _ r'.gh p hq fun es ys a hq p ha=>by
  obtain ⟨O,r'⟩:=r'
  obtain ⟨r2,s2⟩:=r'.new ha (.lst ys)
  exact k _ ρ' _ _ _ hq (z.trans s2) kp ⟨O,r2⟩ (fq aJ (Reps.mono s2 _ _ p))
theorem qr {ta tb:TE} (ha:SE ow ta ma) (hb:SE ow tb mb):SA ow 2 (fun σ H Q=>ta σ H fun x H1=>tb σ H1 fun y H2=>Q [x,y] H2) (eH ma (eH mb nA)):=fun C G ρ σ H pd q Q hr hm k =>
 iI (Q:=fun x y H2=>Q [x,y] H2) ha hb hr hm fun dx dy ρ' x y G' H' h1 s kp r1 p1 p2=>k [dx,dy] ρ' [x,y] G' H' h1 s kp r1 (bb p1 (bb p2 bg)) rfl
theorem fo {G:Hp}:∀ {ds es:List D} {xs ys:List V},Reps G ds xs→Reps G es ys→Reps G (ds++es) (xs++ys)
 | [],es,xs,ys,h,h2=>by rw [Reps] at h; subst h; exact h2
 | d :: ds,es,xs,ys,h,h2=>by rw [Reps] at h; obtain ⟨v,vs,rfl,h1,h3⟩:=h; exact bb h1 (fo h3 h2)
theorem h9 {G:Hp}:∀ {ds:List D} {xs:List V} (n:Nat),Reps G ds xs→Reps G (ds.drop n) (xs.drop n)
 | [],xs,n,h=>by rw [Reps] at h; subst h; simp; exact bg
 | d :: ds,xs,0,h=>h
 | d :: ds,xs,n + 1,h=>by rw [Reps] at h; obtain ⟨v,vs,rfl,h1,h3⟩:=h; exact h9 n h3
theorem ii {G:Hp}:∀ {ds:List D} {xs:List V} (n:Nat),Reps G ds xs→Reps G (ds.take n) (xs.take n)
 | [],xs,n,h=>by rw [Reps] at h; subst h; simp; exact bg
 | d :: ds,xs,0,h=>by simp; exact bg
 | d :: ds,xs,n + 1,h=>by rw [Reps] at h; obtain ⟨v,vs,rfl,h1,h3⟩:=h; exact bb h1 (ii n h3)
theorem jP {G:Hp} {ds:List D} {xs:List V} (h:Reps G ds xs):∀ n:Nat,Reps G (List.replicate n ds).flatten (List.replicate n xs).flatten
 | 0=>by simp; exact bg
 | n + 1=>by simp [List.replicate_succ]; exact fo h (jP h n)
def fCat:List D→(List D→Prop)→Prop:=fun ds q=>match ds with
 | [.lst xs,.lst ys]=>xs.length + ys.length≤1000∧q (xs++ys)
 | _=>False
def fRep:List D→(List D→Prop)→Prop:=fun ds q=>match ds with
 | [.lst xs,.int n]=>(-(2 ^ 63)≤n∧n<2 ^ 63∧xs.length * n.toNat≤1000)∧q (List.replicate n.toNat xs).flatten
 | _=>False
theorem mj:fK (fun xs H Q=>∃ x y,xs=[x,y]∧rRep x y H Q) fRep:=fun G H xs ds q Q s p hf k=>by
 unfold fRep at hf
 split at hf
 ·obtain ⟨v,u,rfl,p1,p2⟩:=fh p
  obtain ⟨a1,xs,rfl,h1,h2⟩:=aW p1
  rw [aw p2]
  exact ⟨_,_,rfl,a1,_,xs,rfl,rfl,s _ _ h1,hf.1.1,hf.1.2.1,dH (by rw [h2.length]; exact hf.1.2.2),fun p hp=>k _ _ p hf.2 (jP h2 _) hp⟩
 ·exact hf.elim
def mMk (f:List D→(List D→Prop)→Prop) (ma mb:ME):ME:=mNew f (eH ma (eH mb nA))
def mMkS (f:List D→(List D→Prop)→Prop) (ma mb:ME):ME:=nK f (eH ma (eH mb nA))
def R2ok (r:R2):List V→Hp→VK→Prop:=fun xs H Q=>match xs with
 | [x,y]=>r x y H Q
 | _=>False
theorem fK.r2 {r:R2} {f:List D→(List D→Prop)→Prop} (h:fK (fun xs H Q=>∃ x y,xs=[x,y]∧r x y H Q) f):fK (R2ok r) f:=fun G H xs ds q Q s p hf k=>by
 obtain ⟨x,y,rfl,z⟩:=h G H xs ds q Q s p hf k
 exact z
theorem t3 {op:Operator} {r:R2} {f:List D→(List D→Prop)→Prop} (ho:OpR X (binaryOp op) r) (hd:fK (fun xs H Q=>∃ x y,xs=[x,y]∧r x y H Q) f) (ha:QE X ow a ma) (hb:QE X ow b mb):QF X ow (.BinOp a op b pos) (mMk f ma mb):=by
 obtain ⟨ta,pa,sa⟩:=ha; obtain ⟨tb,pb,sb⟩:=hb
 exact ⟨tOp r ta tb,pE ho pa pb,kB (r:=R2ok r) hd.r2 (qr sa sb)⟩
theorem l8 {op:Operator} {r:R2} {f:List D→(List D→Prop)→Prop} (ho:OpR X (binaryOp op) r) (hd:fK (fun xs H Q=>∃ x y,xs=[x,y]∧r x y H Q) f) (ha:QE X ow a ma) (hb:QE X ow b mb):QE X ow (.BinOp a op b pos) (mMkS f ma mb):=by
 obtain ⟨ta,pa,sa⟩:=ha; obtain ⟨tb,pb,sb⟩:=hb
 exact ⟨tOp r ta tb,pE ho pa pb,oY (r:=R2ok r) hd.r2 (qr sa sb)⟩
def tY:List D→(List D→Prop)→Prop:=fun ds q=>match ds with
 | [.lst xs]=>q xs
 | [.tup xs]=>q xs
 | _=>False
theorem pK {K:PySem.W.Frag}:fK (fun xs H Q=>∃ p ys,xs=[.ref p]∧(SqL K H p ys∨SqT K H p ys)∧∀ l,H l=none→Q (.ref l) (upd H l (.lst ys))) tY:=fun G H xs ds q Q s p hf k=>by
 unfold tY at hf
 split at hf
 ·obtain ⟨v,rfl,p1⟩:=aZ p
  obtain ⟨a,xs,rfl,h1,h2⟩:=aW p1
  exact ⟨a,xs,rfl,.inl (SqL.of (s _ _ h1)),fun l hl=>k _ _ l hf h2 hl⟩
 ·obtain ⟨v,rfl,p1⟩:=aZ p
  obtain ⟨a,xs,rfl,h1,h2⟩:=eI p1
  exact ⟨a,xs,rfl,.inr (SqT.of (s _ _ h1)),fun l hl=>k _ _ l hf h2 hl⟩
 ·exact hf.elim
variable {x:Str} {p':Pos}
theorem g8 {id:String} {r:List V→Hp→VK→Prop} {f:List D→(List D→Prop)→Prop} (hc:bX X (.type id) r) (hd:fK r f) (hg:Gl X x) (hm:X.mg x=none) (hv:bootBuiltins x=some (.type id)) (ha:QA X ow (e :: es) mr) (hn:x ≠ "__name__":=by decide) (hdb:(x == ("__debug__":Str))=false:=by decide)
 (he:starEach (e :: es) X.env=(false,eval e X.env) :: starEach es X.env:=by rfl) (hpl:(backTo pos (starEach es X.env)).any (·.1)=false:=by rfl):QF X ow (.Call (.Name x p') (e :: es) [] pos) (mNew f mr):=by
 obtain ⟨t,p,s⟩:=ha
 exact ⟨_,fy hc hg hm hv p hn hdb he hpl,kB hd s⟩
theorem kQ {id:String} {r:List V→Hp→VK→Prop} {f:List D→(List D→Prop)→Prop} (hc:bX X (.type id) r) (hd:fK r f) (hg:Gl X x) (hm:X.mg x=none) (hv:bootBuiltins x=some (.type id)) (ha:QA X ow (e :: es) mr) (hn:x ≠ "__name__":=by decide) (hdb:(x == ("__debug__":Str))=false:=by decide)
 (he:starEach (e :: es) X.env=(false,eval e X.env) :: starEach es X.env:=by rfl) (hpl:(backTo pos (starEach es X.env)).any (·.1)=false:=by rfl):QE X ow (.Call (.Name x p') (e :: es) [] pos) (nK f mr):=by
 obtain ⟨t,p,s⟩:=ha
 exact ⟨_,fy hc hg hm hv p hn hdb he hpl,oY hd s⟩
theorem j7 {id:String} {r:List V→Hp→VK→Prop} {f:List D→(List D→Prop)→Prop} (hc:bX X (.builtin id) r) (hd:fK r f) (hg:Gl X x) (hm:X.mg x=none) (hv:bootBuiltins x=some (.builtin id)) (ha:QA X ow (e :: es) mr) (hn:x ≠ "__name__":=by decide) (hdb:(x == ("__debug__":Str))=false:=by decide)
 (he:starEach (e :: es) X.env=(false,eval e X.env) :: starEach es X.env:=by rfl) (hpl:(backTo pos (starEach es X.env)).any (·.1)=false:=by rfl):QF X ow (.Call (.Name x p') (e :: es) [] pos) (mNew f mr):=by
 obtain ⟨t,p,s⟩:=ha
 exact ⟨_,gr hc hg hm hv p hn hdb he hpl,kB hd s⟩
def gX (xs:List D) (lo hi:Option Int):List D:=(xs.drop (HT.sIx xs.length 0 lo)).take (HT.sIx xs.length xs.length hi - HT.sIx xs.length 0 lo)
theorem oU {G:Hp} {ds:List D} {xs:List V} (h:Reps G ds xs) (lo hi:Option Int):Reps G (gX ds lo hi) (kF xs lo hi):=by
 unfold gX kF
 rw [h.length]
 exact ii _ (h9 _ h)
abbrev MO:=DSt→(Option Int→DSt→Prop)→Prop
def SO (ow:List Bool) (t:TO) (m:MO):Prop:=∀ (C:Ctx) (G:Hp) (ρ:DSt) (σ:St) (H:Hp) (pd:List (D×V)) (q:Option Int→DSt→Prop) (Q:Option Int→Hp→Prop),R C ow G ρ σ H pd→m ρ q →
 (∀ b ρ' G' H',q b ρ'→aF G G'→Kp ow ρ ρ'→R C ow G' ρ' σ H' pd→Q b H')→t σ H Q
structure QO (X:Cx) (ow:List Bool) (e:Option Expr) (m:MO):Prop where
 ex:∃ t,PO X e t∧SO ow t m
def sC:MO:=fun ρ q=>q none ρ
def mPart (m:ME):MO:=fun ρ q=>m ρ fun d ρ'=>match d with
 | .int i=>q (some i) ρ'
 | _=>False
theorem tj:QO X ow none sC:=⟨_,rT,fun C G ρ σ H pd q Q r h k=>k none ρ G H h (aF.refl _) Kp.refl r⟩
theorem r9 (h:QE X ow e ma):QO X ow (some e) (mPart ma):=by
 obtain ⟨t,p,s⟩:=h
 refine ⟨_,tE p,fun C G ρ σ H pd q Q r hm k=>s C G ρ σ H pd _ _ r hm fun d ρ' v G' H' hq s kp r' p=>?_⟩
 cases d with
 | int i=>exact ⟨i,aw p,k _ ρ' G' H' hq s kp r'⟩
 | _=>exact hq.elim
def mSl (m:ME) (ml mh:MO):ME:=fun ρ q=>m ρ fun d ρ1=>ml ρ1 fun lo ρ2=>mh ρ2 fun hi ρ3=>match d with
 | .lst ds=>imms (gX ds lo hi)=true∧q (.lst (gX ds lo hi)) ρ3
 | _=>False
def mSlS (m:ME) (ml mh:MO):ME:=fun ρ q=>m ρ fun d ρ1=>ml ρ1 fun lo ρ2=>mh ρ2 fun hi ρ3=>match d with
 | .lst ds=>q (.lst (gX ds lo hi)) ρ3
 | _=>False
variable {lo hi:Option Expr} {ml mh:MO} {p2:Pos}
theorem rz (h:QE X ow e ma) (hl:QO X ow lo ml) (hh:QO X ow hi mh):QE X ow (.Subscript e (.Slice lo hi none p2) pos) (mSlS ma ml mh):=by
 obtain ⟨t,p,s⟩:=h; obtain ⟨t1,p1,s1⟩:=hl; obtain ⟨t2,p2,s2⟩:=hh
 refine ⟨_,oM sh p p1 p2,fun C G ρ σ H pd q Q r hm k=>s C G ρ σ H pd _ _ r hm fun d ρ' v G' H' hq z kp r' p=>?_⟩
 refine s1 C G' ρ' σ H' pd _ _ r' hq fun l ρ1 G1 H1 hq1 z1 kp1 r1=>s2 C G1 ρ1 σ H1 pd _ _ r1 hq1 fun u ρ2 G2 H2 hq2 z2 kp2 r2=>?_
 cases d with
 | lst ds =>
  obtain ⟨a,xs,rfl,h1,h2⟩:=aW (Rep.mono (z1.trans z2) _ _ p)
  refine ⟨a,xs,rfl,SqL.of (r2.gh _ _ h1),fun b hb=>?_⟩
  obtain ⟨O,r2⟩:=r2
  obtain ⟨r3,z3⟩:=r2.new hb (.lst (kF xs l u))
  exact k _ ρ2 _ _ _ hq2 (z.trans (z1.trans (z2.trans z3))) (kp.trans (kp1.trans kp2)) ⟨O,r3⟩ (fq aJ (Reps.mono z3 _ _ (oU h2 _ _)))
 | _=>exact hq2.elim
end
def cw (f:Nat→Option Nat) (O:Own):Own:=fun a=>match O a with
 | some m=>(f m.1).map fun l=>(l,m.2)
 | none=>none
theorem lU {f:Nat→Option Nat} {O:Own} {a:Addr} {l l':Nat} {π:List Nat} (h:O a=some (l,π)) (hf:f l=some l'):cw f O a=some (l',π):=by unfold cw; rw [h]; show (f l).map _=_; rw [hf]; rfl
theorem d7 {f:Nat→Option Nat} {O:Own} {a:Addr} {l':Nat} {π:List Nat} (h:cw f O a=some (l',π)):∃ l,O a=some (l,π)∧f l=some l':=by
 unfold cw at h
 cases e:O a with
 | none=>rw [e] at h; cases h
 | some m =>
  rw [e] at h
  change (f m.1).map _=_ at h
  cases e2:f m.1 with
  | none=>rw [e2] at h; cases h
  | some l=>rw [e2] at h; cases h; exact ⟨m.1,rfl,e2⟩
theorem nh {f:Nat→Option Nat} {O:Own} {a:Addr} {l:Nat} {π:List Nat} (h:O a=some (l,π)) (hf:f l=none):cw f O a=none:=by unfold cw; rw [h]; show (f l).map _=_; rw [hf]; rfl
def msV:List Bool→List V→List (Option V)
 | b :: bs,v :: vs=>(if b=true then some v else none) :: msV bs vs
 | _,_=>[]
theorem iS:∀ {mu:List Bool} {vs:List V} {k:Nat} {v:V},(msV mu vs)[k]? = some (some v)→mu[k]? = some true∧vs[k]? = some v
 | [],vs,k,v,h=>by simp [msV] at h
 | b :: bs,[],k,v,h=>by simp [msV] at h
 | b :: bs,u :: vs,0,v,h=>by
  simp only [msV,List.getElem?_cons_zero,Option.some.injEq] at h
  split at h
  ·rename_i c; cases h; subst c; exact ⟨rfl,rfl⟩
  ·cases h
 | b :: bs,u :: vs,k + 1,v,h=>by
  simp only [msV,List.getElem?_cons_succ] at h
  simpa using iS h
theorem kP:∀ {mu:List Bool} {vs:List V} {k:Nat} {v:V},mu[k]? = some true→vs[k]? = some v→(msV mu vs)[k]? = some (some v)
 | [],vs,k,v,h,_=>by simp at h
 | b :: bs,[],k,v,_,h=>by simp at h
 | b :: bs,u :: vs,0,v,h,h2=>by simp at h h2; subst h; subst h2; simp [msV]
 | b :: bs,u :: vs,k + 1,v,h,h2=>by simp only [msV,List.getElem?_cons_succ]; exact kP (by simpa using h) (by simpa using h2)
section
variable {C:Ctx} {ow mu:List Bool} {G:Hp} {ρ:DSt} {σ:St} {H:Hp} {pd:List (D×V)} {O:Own} {fin fbk:Nat→Option Nat}
theorem RO.into (ro:RO C ow G ρ σ H pd O) {ds:List D} {vs:List V} (hl:ds.length=vs.length)
 (hs:∀ (k:Nat) d,ds[k]? = some d→∃ v,vs[k]? = some v∧if mu[k]? = some true then ∃ l,Sep G H O l d [] v∧fin l=some (2 * k) else Rep G d v)
 (hc:∀ l l',fin l=some l'→∃ k,l'=2 * k∧mu[k]? = some true∧k<vs.length) :
 RO ⟨G,H,cw fin O,msV mu vs,0⟩ mu G (ds.map some) (vs.map some) H [] (cw fin O):=by
 refine ⟨by simp [hl],ro.gh,fun _ _ e=>e,fun _ _ e=>.inl e,?_,?_,fun _ _ e _ _=>e,ro.ft,fun _ e=>e,?_,?_,trivial,Nat.le_refl _⟩
 ·intro a m e
  obtain ⟨l',π⟩:=m
  obtain ⟨l,e1,e2⟩:=d7 e
  obtain ⟨q1,q2,_⟩:=ro.og a _ e1
  exact ⟨q1,q2,.inr ⟨π,e⟩⟩
 ·intro a l' π e
  obtain ⟨l,e1,e2⟩:=d7 e
  obtain ⟨k,rfl,h2,h3⟩:=hc _ _ e2
  exact .inl ⟨k,vs[k],rfl,kP h2 (List.getElem?_eq_getElem h3)⟩
 ·intro k v e
  rw [List.getElem?_map,(iS e).2]; rfl
 ·intro k d e
  rw [List.getElem?_map] at e
  cases e1:ds[k]? with
  | none=>rw [e1] at e; cases e
  | some d' =>
   rw [e1] at e
   cases e
   obtain ⟨v,h1,h2⟩:=hs k d e1
   refine ⟨v,by rw [List.getElem?_map,h1]; rfl,?_⟩
   split at h2
   ·rename_i c
    rw [if_pos c]
    obtain ⟨l,h3,h4⟩:=h2
    exact h3.keep (fun _ _ z=>z) fun a τ q=>⟨lU q h4,rfl⟩
   ·rename_i c; rw [if_neg c]; exact h2
def mI (fin fbk:Nat→Option Nat) (O O2:Own):Own:=fun a=>match O2 a with
 | some m=>(fbk m.1).map fun l=>(l,m.2)
 | none=>match cw fin O a with
  | some _=>none
  | none=>O a
theorem RO.out (ro:RO C ow G ρ σ H pd O) {vs:List V} {G2:Hp} {ρ2:DSt} {σ2:St} {H2:Hp} {pd2 pd3:List (D×V)} {O2:Own} {ρ3:DSt} {ow2:List Bool} {np:Nat} {mv:List (Option V)}
 (ri:RO ⟨G,H,cw fin O,mv,np⟩ ow2 G2 ρ2 σ2 H2 pd2 O2) (hib:∀ l0 l' l,fin l0=some l'→fbk l'=some l→l=l0)
 (hlen : ρ3.length=σ.length) (hnp:C.np≤pd3.length)
 (hS:∀ (i:Nat) d,ow[i]?≠some true→ρ3[i]? = some (some d)→ρ[i]? = some (some d))
 (hO:∀ (i:Nat) d,ow[i]? = some true→ρ3[i]? = some (some d)→(fin (2 * i)=none∧ρ[i]? = some (some d))∨∃ (k:Nat) (v:V),fbk (2 * k)=some (2 * i)∧ow2[k]? = some true∧ρ2[k]? = some (some d)∧σ[i]? = some (some v)∧σ2[k]? = some (some v))
 (hP:∀ (O3:Own),(∀ a l π,O a=some (l,π)→fin l=none→O3 a=some (l,π)∧H2 a=H a)→(∀ a l l' π,O2 a=some (l',π)→fbk l'=some l→O3 a=some (l,π))→cb G G2→bV G2 H2 O3 pd3) :
 RO C ow G2 ρ3 σ H2 pd3 (mI fin fbk O O2):=by
 have keep:∀ a l π,O a=some (l,π)→fin l=none→mI fin fbk O O2 a=some (l,π)∧H2 a=H a:=fun a l π e hn=>by
  have e1:=nh (f:=fin) e hn
  obtain ⟨g,⟨xs,hx⟩,_⟩:=ro.og a _ e
  have e2:O2 a=none:=by
   cases q:O2 a with
   | none=>rfl
   | some m =>
    obtain ⟨_,_,q3⟩:=ri.og a m q
    rcases q3 with q3 | ⟨π',q3⟩
    ·change H a=none at q3; rw [hx] at q3; cases q3
    ·change cw fin O a=_ at q3; rw [e1] at q3; cases q3
  constructor
  ·show (match O2 a with | some m=>_ | none=>_)=_
   rw [e2]
   show (match cw fin O a with | some _=>none | none=>O a)=_
   rw [e1]; exact e
  ·rw [ri.fr a _ hx e1 (WrO.nt xs),hx]
 have come:∀ a l l' π,O2 a=some (l',π)→fbk l'=some l→mI fin fbk O O2 a=some (l,π):=fun a l l' π e hb=>by
  show (match O2 a with | some m=>_ | none=>_)=_
  rw [e]
  show (fbk l').map _=_
  rw [hb]; rfl
 have ts:cb G G2:=(aF.ts ri.g0)
 refine ⟨hlen,ri.gh,fun a o e=>ri.g0 a o (ro.g0 a o e),?_,?_,ro.cok,?_,ri.ft,fun a e=>ro.al a (ri.al a e),ro.mp,?_,hP _ keep come ts,hnp⟩
 ·intro a o e
  rcases ri.gn a o e with q | q
  ·exact ro.gn a o q
  ·exact .inr (ro.al a q)
 ·intro a m e
  change (match O2 a with | some m=>_ | none=>_)=_ at e
  cases q:O2 a with
  | some m' =>
   rw [q] at e
   change (fbk m'.1).map _=_ at e
   cases q2:fbk m'.1 with
   | none=>rw [q2] at e; cases e
   | some l =>
    rw [q2] at e; cases e
    obtain ⟨g1,g2,g3⟩:=ri.og a m' q
    refine ⟨g1,g2,?_⟩
    rcases g3 with g3 | ⟨π',g3⟩
    ·exact .inl (ro.al a g3)
    ·obtain ⟨l0,g4,g5⟩:=d7 g3
     have:=hib _ _ _ g5 q2
     subst this
     exact (ro.og a _ g4).2.2
  | none =>
   rw [q] at e
   change (match cw fin O a with | some _=>none | none=>O a)=_ at e
   cases q2:cw fin O a with
   | some _=>rw [q2] at e; cases e
   | none =>
    rw [q2] at e
    change O a=some m at e
    obtain ⟨g1,⟨xs,g2⟩,g3⟩:=ro.og a m e
    refine ⟨?_,⟨xs,ri.fr a _ g2 q2 (WrO.nt xs)⟩,g3⟩
    cases z:G2 a with
    | none=>rfl
    | some o =>
     rcases ri.gn a o z with z | z
     ·change G a=_ at z; rw [g1] at z; cases z
     ·change H a=_ at z; rw [g2] at z; cases z
 ·intro a o e n t
  have q:=ro.fr a o e n t
  refine ri.fr a o q ?_ t
  show cw fin O a=none
  cases z:cw fin O a with
  | none=>rfl
  | some m =>
   obtain ⟨l',π⟩:=m
   obtain ⟨l,z1,_⟩:=d7 z
   obtain ⟨_,_,z3⟩:=ro.og a _ z1
   rcases z3 with z3 | ⟨_,z3⟩
   ·rw [z3] at e; cases e
   ·rw [z3] at n; cases n
 ·intro i d e
  by_cases c:ow[i]? = some true
  ·rcases hO i d c e with ⟨h1,h2⟩ | ⟨k,v,h1,h2,h3,h4,h5⟩
   ·obtain ⟨v,q1,q2⟩:=ro.sl i d h2
    rw [if_pos c] at q2
    exact ⟨v,q1,by rw [if_pos c]; exact q2.keep ts fun a τ q=>keep a _ _ q h1⟩
   ·obtain ⟨v',q1,q2⟩:=ri.sl k d h3
    rw [if_pos h2] at q2
    rw [h5] at q1; cases q1
    exact ⟨v,h4,by rw [if_pos c]; exact q2.keep (fun _ _ z=>z) fun a τ q=>⟨come _ _ _ _ q h1,rfl⟩⟩
  ·obtain ⟨v,q1,q2⟩:=ro.sl i d (hS i d c e)
   rw [if_neg c] at q2
   exact ⟨v,q1,by rw [if_neg c]; exact q2.mono ri.g0⟩
end
def Ret (fr:Bool) (C:Ctx) (ow:List Bool) (G:Hp) (ρ:DSt) (σ:St) (H:Hp) (d:D) (v:V):Prop:=if fr=true then R C ow G ρ σ H [(d,v)] else R C ow G ρ σ H []∧Rep G d v
def mus:List Bool→DSt→DSt
 | true :: bs,x :: ρ=>x :: mus bs ρ
 | false :: bs,_ :: ρ=>mus bs ρ
 | true :: bs,[]=>none :: mus bs []
 | false :: bs,[]=>mus bs []
 | [],_=>[]
def b9 {α:Type}:Nat→List (Option α)→List (Option α)
 | 0,_=>[]
 | n + 1,x :: ρ=>x :: b9 n ρ
 | n + 1,[]=>none :: b9 n []
theorem cE {α:Type}:∀ (n:Nat) (ρ:List (Option α)),(b9 n ρ).length=n
 | 0,_=>rfl
 | n + 1,x :: ρ=>by simp [b9,cE n ρ]
 | n + 1,[]=>by simp [b9,cE n []]
theorem cD:∀ (mu:List Bool) (ρ:DSt),mus mu (b9 mu.length ρ)=mus mu ρ
 | [],_=>by simp [mus]
 | true :: bs,x :: ρ=>by simp [b9,mus,cD bs ρ]
 | false :: bs,x :: ρ=>by simp [b9,mus,cD bs ρ]
 | true :: bs,[]=>by simp [b9,mus,cD bs []]
 | false :: bs,[]=>by simp [b9,mus,cD bs []]
theorem jg {α:Type}:∀ {n:Nat} {ρ:List (Option α)} {i:Nat} {d : α},(b9 n ρ)[i]? = some (some d)→i<n∧ρ[i]? = some (some d)
 | 0,_,_,_,h=>by simp [b9] at h
 | n + 1,x :: ρ,0,d,h=>by simp [b9] at h; exact ⟨by omega,by simp [h]⟩
 | n + 1,x :: ρ,i + 1,d,h=>by simp only [b9,List.getElem?_cons_succ] at h; obtain ⟨a,b⟩:=jg h; exact ⟨by omega,by simpa using b⟩
 | n + 1,[],0,d,h=>by simp [b9] at h
 | n + 1,[],i + 1,d,h=>by simp only [b9,List.getElem?_cons_succ] at h; obtain ⟨a,b⟩:=jg h; simp at b
theorem i8 {α:Type}:∀ {n:Nat} {ρ:List (Option α)} {i:Nat} {d : α},i<n→ρ[i]? = some (some d)→(b9 n ρ)[i]? = some (some d)
 | 0,_,_,_,h,_=>by omega
 | n + 1,x :: ρ,0,d,h,e=>by simp at e; simp [b9,e]
 | n + 1,x :: ρ,i + 1,d,h,e=>by simp only [b9,List.getElem?_cons_succ]; exact i8 (by omega) (by simpa using e)
 | n + 1,[],i,d,h,e=>by simp at e
abbrev SpD:=List D→(D→DSt→Prop)→Prop
def aQ (mu:List Bool) (fr:Bool) (sd:SpD):Sp:=fun vs H Q _=>∃ (C:Ctx) (G:Hp) (ds:List D) (q:D→DSt→Prop),C.np=0∧C.mu=msV mu vs∧R C mu G (ds.map some) (vs.map some) H []∧sd ds q∧mu.length=ds.length ∧
 ∀ d ρ' σ' v G' H',q d (mus mu ρ')→aF G G'→ρ'.length=mu.length→Ret fr C mu G' ρ' σ' H' d v→Q v H'
structure EndsD where
 nx:DSt→Prop
 rt:D→DSt→Prop
 bk:DSt→Prop:=fun _=>False
 ct:DSt→Prop:=fun _=>False
abbrev MS:=EndsD→DSt→Prop
structure Ks (C:Ctx) (ow:List Bool) (fr:Bool) (G:Hp) (n:EndsD) (D:Ends):Prop where
 nx:∀ ρ σ G' H,n.nx ρ→aF G G'→R C ow G' ρ σ H []→D.nx σ H
 bk:∀ ρ σ G' H,n.bk ρ→aF G G'→R C ow G' ρ σ H []→D.bk σ H
 ct:∀ ρ σ G' H,n.ct ρ→aF G G'→R C ow G' ρ σ H []→D.ct σ H
 rt:∀ d ρ σ v G' H,n.rt d ρ→aF G G'→Ret fr C ow G' ρ σ H d v→D.rt v H
theorem Ks.mono {C:Ctx} {ow:List Bool} {fr:Bool} {G G1:Hp} {n:EndsD} {D:Ends} (h:Ks C ow fr G n D) (s:aF G G1):Ks C ow fr G1 n D :=
 ⟨fun ρ σ G' H a b c=>h.nx ρ σ G' H a (s.trans b) c,fun ρ σ G' H a b c=>h.bk ρ σ G' H a (s.trans b) c,fun ρ σ G' H a b c=>h.ct ρ σ G' H a (s.trans b) c,fun d ρ σ v G' H a b c=>h.rt d ρ σ v G' H a (s.trans b) c⟩
def f6 (C:Ctx) (mu:List Bool):Prop:=∀ (i:Nat) v,C.mu[i]? = some (some v)→mu[i]? = some true
theorem f6.no {C:Ctx} {mu:List Bool} (h:f6 C mu) {i:Nat} (hi:mu[i]?≠some true):∀ v,C.mu[i]?≠some (some v):=fun v e=>hi (h i v e)
structure Md where
 mu:List Bool
 ow:List Bool
 fr:Bool
def SS (M:Md) (t:TS) (m:MS):Prop:=∀ (C:Ctx) (G:Hp) (ρ:DSt) (σ:St) (H:Hp) (n:EndsD) (D:Ends),f6 C M.mu→C.np=0→R C M.ow G ρ σ H []→m n ρ→Ks C M.ow M.fr G n D→t D σ H
structure QS (X:Cx) (M:Md) (st:Stmt) (m:MS):Prop where
 ex:∃ t,PS X st t∧SS M t m
structure QSs (X:Cx) (M:Md) (st:List Stmt) (m:MS):Prop where
 ex:∃ t,PSs X st t∧SS M t m
section
variable {X:Cx} {M:Md} {a b c e:Expr} {ma mb mc:ME} {mt:MT} {pos pos':Pos} {st:Stmt} {rest:List Stmt} {m m1 m2:MS}
def mSeq (m1 m2:MS):MS:=fun n ρ=>m1 { n with nx:=fun ρ'=>m2 n ρ' } ρ
def mNext:MS:=fun n ρ=>n.nx ρ
theorem aB:QSs X M [] mNext:=⟨_,r_,fun C G ρ σ H n D hm hn r h k=>k.nx ρ σ G H h (aF.refl _) r⟩
theorem af (h:QS X M st m):QSs X M [st] m:=by obtain ⟨t,p,s⟩:=h; exact ⟨_,sP p,s⟩
theorem ad (h:QS X M st m1) (h2:QSs X M rest m2):QSs X M (st :: rest) (mSeq m1 m2):=by
 obtain ⟨t,p,s⟩:=h; obtain ⟨t2,p2,s2⟩:=h2
 refine ⟨_,pS p p2,fun C G ρ σ H n D hm hn r h k=>s C G ρ σ H _ _ hm hn r h ?_⟩
 exact ⟨fun ρ' σ' G' H' h' z r'=>s2 C G' ρ' σ' H' n D hm hn r' h' (k.mono z),k.bk,k.ct,k.rt⟩
def xa:MS:=fun _ _=>False
theorem bf:QS X M st xa:=⟨_,oV,fun C G ρ σ H n D hm hn r h k=>h.elim⟩
def mIfS (mt:MT) (m1 m2:MS):MS:=fun n ρ=>mt ρ fun b ρ1=>if b=true then m1 n ρ1 else m2 n ρ1
theorem aU {s1 s2:List Stmt} (h:QT X M.ow c mt) (h1:QSs X M s1 m1) (h2:QSs X M s2 m2):QS X M (.If c s1 s2 pos) (mIfS mt m1 m2):=by
 obtain ⟨t,p,s⟩:=h; obtain ⟨t1,p1,s1⟩:=h1; obtain ⟨t2,p2,s2⟩:=h2
 refine ⟨_,ps_if p p1 p2,fun C G ρ σ H n D hm hn r h k=>s C G ρ σ H [] _ _ r h fun b ρ' G' H' hq z kp r'=>?_⟩
 cases b with
 | true=>rw [if_pos rfl] at hq ⊢; exact s1 C G' ρ' σ H' n D hm hn r' hq (k.mono z)
 | false=>rw [if_neg (by decide)] at hq ⊢; exact s2 C G' ρ' σ H' n D hm hn r' hq (k.mono z)
def mRet (m:ME):MS:=fun n ρ=>m ρ n.rt
theorem ax (h:QE X M.ow e ma) (hf:M.fr=false:=by rfl):QS X M (.Return (some e) pos) (mRet ma):=by
 obtain ⟨t,p,s⟩:=h
 refine ⟨_,pq p,fun C G ρ σ H n D hm hn r h k=>s C G ρ σ H [] _ _ r h fun d ρ' v G' H' hq z kp r' p=>k.rt d ρ' σ v G' H' hq z (by unfold Ret; rw [if_neg (by rw [hf]; decide)]; exact ⟨r',p⟩)⟩
theorem R.non {C:Ctx} {ow:List Bool} {fr:Bool} {G:Hp} {ρ:DSt} {σ:St} {H:Hp} (r:R C ow G ρ σ H []):Ret fr C ow G ρ σ H .non .non:=by
 unfold Ret
 split
 ·obtain ⟨O,r⟩:=r
  exact ⟨O,r.len,r.gh,r.g0,r.gn,r.og,r.cok,r.fr,r.ft,r.al,r.mp,r.sl,⟨by rw [Sep],trivial⟩,Nat.le_succ_of_le r.np⟩
 ·exact ⟨r,l5⟩
def my (i:Nat) (m:ME):MS:=fun n ρ=>m ρ fun d ρ1=>n.nx (ρ1.set i (some d))
theorem vZ {t:TE} {i:Nat} (s:SE M.ow t ma) (ho:M.ow[i]?≠some true) (hu:M.mu[i]?≠some true):SS M (pB t (gw i)) (my i ma):=fun C G ρ σ H n D hm hn r h k =>
 s C G ρ σ H [] _ _ r h fun d ρ' v G' H' hq z kp r' p=>by
  obtain ⟨O,r'⟩:=r'
  exact k.nx _ _ G' H' hq z ⟨O,r'.setS ho (hm.no hu) p⟩
theorem i_ {t:TE} {i:Nat} (s:SF M.ow t ma) (ho:M.ow[i]? = some true) (hu:M.mu[i]?≠some true):SS M (pB t (gw i)) (my i ma):=fun C G ρ σ H n D hm hn r h k =>
 s C G ρ σ H [] _ _ r h fun d ρ' v G' H' hq z kp r'=>by
  obtain ⟨O,r'⟩:=r'
  exact k.nx _ _ G' H' hq z (r'.setO ho (hm.no hu) (by rw [hn]; exact Nat.zero_le _))
theorem aS {i:Nat} {x:Str} (hN:X.N.Nodup) (hi:X.N[i]? = some x) (hx:Loc X.env.scope x) (he:QE X M.ow e ma) (ho:M.ow[i]?≠some true:=by decide) (hu:M.mu[i]?≠some true:=by decide) (hs:swapsWith e (some (.Name x pos')) pos.line X.env=pure false:=by rfl) (hf:X.fn x=true∨X.env.scope.names.lookup x=some .local:=by first | exact .inl rfl | exact .inr rfl | assumption) :
 QS X M (.Assign [.Name x pos'] e pos) (my i ma):=by
 obtain ⟨t,p,s⟩:=he
 exact ⟨_,pW hN hi hx p hs hf,vZ s ho hu⟩
theorem ci {i:Nat} {x:Str} (hN:X.N.Nodup) (hi:X.N[i]? = some x) (hx:Loc X.env.scope x) (he:QF X M.ow e ma) (ho:M.ow[i]? = some true:=by decide) (hu:M.mu[i]?≠some true:=by decide) (hs:swapsWith e (some (.Name x pos')) pos.line X.env=pure false:=by rfl) (hf:X.fn x=true∨X.env.scope.names.lookup x=some .local:=by first | exact .inl rfl | exact .inr rfl | assumption) :
 QS X M (.Assign [.Name x pos'] e pos) (my i ma):=by
 obtain ⟨t,p,s⟩:=he
 exact ⟨_,pW hN hi hx p hs hf,i_ s ho hu⟩
def mPar (i j:Nat) (ma mb:ME):MS:=fun n ρ=>ma ρ fun x ρ1=>mb ρ1 fun y ρ2=>n.nx ((ρ2.set i (some x)).set j (some y))
theorem iC {i j:Nat} {x y:Str} {px py pt:Pos} {kt k2 pt2} (hc:X.calm=true) (hN:X.N.Nodup) (hi:X.N[i]? = some x) (hj:X.N[j]? = some y) (hij:i≠j)
 (hx:X.env.scope.names.lookup x=some .local) (hy:X.env.scope.names.lookup y=some .local) (ha:QE X M.ow a ma) (hb:QE X M.ow b mb)
 (hw:swappedStores [.Tuple [.Name x px,.Name y py] kt pt] (.Tuple [a,b] k2 pt2) X.env=pure (some [x,y]))
 (oi:M.ow[i]?≠some true:=by decide) (oj:M.ow[j]?≠some true:=by decide) (ui:M.mu[i]?≠some true:=by decide) (uj:M.mu[j]?≠some true:=by decide)
 (hs1:starEach [a,b] X.env=(false,eval a X.env) :: starEach [b] X.env:=by rfl) (hs2:starEach [b] X.env=[(false,eval b X.env)]:=by rfl)
 (hs:swapsWithSole [.Tuple [.Name x px,.Name y py] kt pt] (.Tuple [a,b] k2 pt2) pos.line X.env=pure false:=by rfl) :
 QS X M (.Assign [.Tuple [.Name x px,.Name y py] kt pt] (.Tuple [a,b] k2 pt2) pos) (mPar i j ma mb):=by
 obtain ⟨ta,pa,sa⟩:=ha; obtain ⟨tb,pb,sb⟩:=hb
 refine ⟨_,ww hc hN hi hj hij hx hy (bK pa (bK pb dr hs2) hs1) hw hs,fun C G ρ σ H n D hm hn r h k=>?_⟩
 refine iI (Q:=fun u w H2=>∃ v w',[u,w]=[v,w']∧D.nx ((σ.set i (some v)).set j (some w')) H2) sa sb r h fun dx dy ρ' u w G' H' hq z kp r' p1 p2=>⟨u,w,rfl,?_⟩
 obtain ⟨O,r'⟩:=r'
 exact k.nx _ _ G' H' hq z ⟨O,(r'.setS oi (hm.no ui) p1).setS oj (hm.no uj) p2⟩
abbrev MG:=D→DSt→(DSt→Prop)→Prop
abbrev MGs:=List D→DSt→(DSt→Prop)→Prop
def SG (M:Md) (g:TG) (m:MG):Prop:=∀ (C:Ctx) (G:Hp) (ρ:DSt) (σ:St) (H:Hp) (pd:List (D×V)) (d:D) (v:V) (k:DSt→Prop) (K:St→Hp→Prop),f6 C M.mu→R C M.ow G ρ σ H pd→Rep G d v→m d ρ k →
 (∀ ρ' σ',k ρ'→R C M.ow G ρ' σ' H pd→K σ' H)→g v σ H K
def SGs (M:Md) (g:TGs) (m:MGs):Prop:=∀ (C:Ctx) (G:Hp) (ρ:DSt) (σ:St) (H:Hp) (pd:List (D×V)) (d:List D) (v:List V) (k:DSt→Prop) (K:St→Hp→Prop),f6 C M.mu→R C M.ow G ρ σ H pd→Reps G d v→m d ρ k →
 (∀ ρ' σ',k ρ'→R C M.ow G ρ' σ' H pd→K σ' H)→g v σ H K
structure QG (X:Cx) (M:Md) (e:Expr) (m:MG):Prop where
 ex:∃ t,PG X e t∧SG M t m
structure QGs (X:Cx) (M:Md) (e:List Expr) (m:MGs):Prop where
 ex:∃ t,PGs X e t∧SGs M t m
def fN (i:Nat):MG:=fun d ρ k=>k (ρ.set i (some d))
theorem az {i:Nat} {x:Str} (hN:X.N.Nodup) (hi:X.N[i]? = some x) (hx:Loc X.env.scope x) (ho:M.ow[i]?≠some true:=by decide) (hu:M.mu[i]?≠some true:=by decide) (hf:X.fn x=true∨X.env.scope.names.lookup x=some .local:=by first | exact .inl rfl | exact .inr rfl | assumption):QG X M (.Name x pos) (fN i) :=
 ⟨_,bc hN hi hx hf,fun C G ρ σ H pd d v k K hm r p h kk=>by obtain ⟨O,r⟩:=r; exact kk _ _ h ⟨O,r.setS ho (hm.no hu) p⟩⟩
def oH:MGs:=fun ds ρ k=>match ds with
 | []=>k ρ
 | _=>False
def iW (t:MG) (u:MGs):MGs:=fun ds ρ k=>match ds with
 | d :: ds=>t d ρ fun ρ1=>u ds ρ1 k
 | []=>False
def uf (t:MGs):MG:=fun d ρ k=>match d with
 | .tup ds=>t ds ρ k
 | _=>False
variable {mg:MG} {mgs:MGs} {es:List Expr}
theorem bB:QGs X M [] oH:=⟨_,lg,fun C G ρ σ H pd d v k K hm r p h kk=>by
 cases d with
 | nil=>rw [Reps] at p; exact ⟨p,kk _ _ h r⟩
 | cons _ _=>exact h.elim⟩
theorem aD (h1:QG X M e mg) (h2:QGs X M es mgs) (hs:(assignEach (e :: es) X.env).map (·.2)=assign e X.env :: (assignEach es X.env).map (·.2):=by rfl):QGs X M (e :: es) (iW mg mgs):=by
 obtain ⟨t,p,s⟩:=h1; obtain ⟨t2,p2,s2⟩:=h2
 refine ⟨_,gq p p2 hs,fun C G ρ σ H pd d v k K hm r p h kk=>?_⟩
 cases d with
 | nil=>exact h.elim
 | cons d ds =>
  rw [Reps] at p
  obtain ⟨v,vs,rfl,p1,p3⟩:=p
  exact ⟨v,vs,rfl,s C G ρ σ H pd d v _ _ hm r p1 h fun ρ' σ' h' r'=>s2 C G ρ' σ' H pd ds vs k K hm r' p3 h' kk⟩
def jX (n:Nat) (m:MGs):Prop:=∀ ds ρ k,m ds ρ k→ds.length=n
theorem aY:jX 0 oH:=fun ds ρ k h=>by cases ds with | nil=>rfl | cons _ _=>exact h.elim
theorem ao {n:Nat} {i:Nat} (h:jX n mgs):jX (n + 1) (iW (fN i) mgs):=fun ds ρ k q=>by
 cases ds with
 | nil=>exact q.elim
 | cons d ds=>simp [h ds _ _ q]
theorem b_ {kk:Nat} {n:Nat} (hc:X.calm=true) (h:QGs X M es mgs) (ht:jX n mgs)
 (hn:(assignEach es X.env).length=n:=by rfl) (hst:(assignEach es X.env).findIdx? (·.1)=none:=by rfl):QG X M (.Tuple es kk pos) (uf mgs):=by
 obtain ⟨t,p,s⟩:=h
 refine ⟨_,q9 hc p hn hst,fun C G ρ σ H pd d v k K hm r p h kk=>?_⟩
 cases d with
 | tup ds =>
  obtain ⟨a,xs,rfl,h1,h2⟩:=eI p
  exact ⟨a,xs,rfl,SqT.of (r.gh _ _ h1),by rw [h2.length]; exact ht _ _ _ h,s C G ρ σ H pd ds xs k K hm r h2 h kk⟩
 | _=>exact h.elim
def mAsg (m:ME) (g:MG):MS:=fun n ρ=>m ρ fun d ρ1=>g d ρ1 n.nx
theorem du {tg:Expr} (he:QE X M.ow e ma) (hg:QG X M tg mg) (hs:swapsWithSole [tg] e pos.line X.env=pure false:=by rfl) (hw:swappedStores [tg] e X.env=pure none:=by rfl)
 (h1:(assignEach [tg] X.env).map (·.2)=[assign tg X.env]:=by rfl):QS X M (.Assign [tg] e pos) (mAsg ma mg):=by
 obtain ⟨t,p,s⟩:=he; obtain ⟨t2,p2,s2⟩:=hg
 refine ⟨_,kK p p2 hs hw h1,fun C G ρ σ H n D hm hn r h k=>s C G ρ σ H [] _ _ r h fun d ρ' v G' H' hq z kp r' p=>?_⟩
 exact s2 C G' ρ' σ H' [] d v _ _ hm r' p hq fun ρ2 σ2 h2 r2=>k.nx ρ2 σ2 G' H' h2 z r2
def mDrop (m:ME):MS:=fun n ρ=>m ρ fun _ ρ1=>n.nx ρ1
theorem cy (he:QE X M.ow e ma) (hs:swapsWith e none pos.line X.env=pure false:=by rfl):QS X M (.Expr e pos) (mDrop ma):=by
 obtain ⟨t,p,s⟩:=he
 exact ⟨_,iz p hs,fun C G ρ σ H n D hm hn r h k=>s C G ρ σ H [] _ _ r h fun d ρ' v G' H' hq z kp r' p=>k.nx ρ' σ G' H' hq z r'⟩
def lD (i:Nat) (m:ME):MS:=fun n ρ=>match ρ[i]? with
 | some (some (.lst _))=>m ρ fun d ρ1=>match ρ1[i]? with
  | some (some (.lst ds))=>ds.length<1000∧n.nx (ρ1.set i (some (.lst (ds++[d]))))
  | _=>False
 | _=>False
theorem cM {i:Nat} {x:Str} {apos cpos npos:Pos} (hN:X.N[i]? = some x) (he:QF X M.ow e ma) (ho:M.ow[i]? = some true:=by decide)
 (hv:Vis X.env.scope x:=by first | exact Or.inl rfl | exact Or.inr (Or.inl rfl) | exact Or.inr (Or.inr rfl)) (hd:(x == ("__debug__":Str))=false:=by decide) (hcd:(x == ("__classdict__":Str))=false:=by decide)
 (hbase:attributeBase (.Name x npos) "append" X.env (eval (.Name x npos) X.env)=eval (.Name x npos) X.env:=by rfl)
 (hfew:((backTo cpos (starEach [e] X.env)).all (fun x=>!x.1)&&(backToKw cpos (keywordEach [] X.env)).all (fun x=>x.1.isSome)
  && decide ([e].length + ([]:List Keyword).length + (if ([]:List Keyword).isEmpty then 0 else 1)<30))=true:=by rfl)
 (hline:(apos.endLine == cpos.line)=true:=by rfl) (hst:starEach [e] X.env=[(false,eval e X.env)]:=by rfl)
 (hs:swapsWith (.Call (.Attribute (.Name x npos) "append" apos) [e] [] cpos) none pos.line X.env=pure false:=by rfl) :
 QS X M (.Expr (.Call (.Attribute (.Name x npos) "append" apos) [e] [] cpos) pos) (lD i ma):=by
 obtain ⟨t,p,s⟩:=he
 refine ⟨_,iz (lv PySem.F.plainAttrs_list PySem.F.slot_list_append PySem.F.type_list_append nu (dS hN hv hd hcd) (bK p dr hst) hbase hfew hline hst (by rfl)) hs,fun C G ρ σ H n D hm hn r h k=>?_⟩
 unfold lD at h
 split at h
 ·rename_i ds e1
  obtain ⟨O,ro⟩:=r
  obtain ⟨a,xs,h1,h2,_,_⟩:=ro.write e1 ho
  refine ⟨.ref a,h1,.inl ⟨rfl,xs,SqL.of h2⟩,?_⟩
  refine s C G ρ σ H [] _ _ ⟨O,ro⟩ h fun d ρ' v G' H' hq z kp r'=>?_
  split at hq
  ·rename_i ds' e2
   obtain ⟨O',r'⟩:=r'
   obtain ⟨O2,r2,s2,s3⟩:=r'.join i ds'.length (by rw [hn]; exact Nat.zero_le _)
   obtain ⟨a',xs',g1,g2,g3,g4⟩:=r2.write e2 ho
   rw [h1] at g1; cases g1
   have hl:=g3.length
   refine ⟨a,xs',v,rfl,rfl,g2,by rw [hl]; exact dg (Nat.le_of_lt hq.1),?_⟩
   exact k.nx _ _ G' _ hq.2 z ⟨O2,g4 _ _ (g3.snoc (by simpa using s2))⟩
  ·exact hq.elim
 ·exact h.elim
def mSetI (i:Nat) (mk m:ME):MS:=fun n ρ=>m ρ fun d ρ1=>match ρ1[i]? with
 | some (some (.lst _))=>mk ρ1 fun k ρ2=>match ρ2[i]? with
  | some (some (.lst ds))=>match k with
   | .int j=>match ixN ds.length j with
    | some p=>n.nx (ρ2.set i (some (.lst (ds.set p d))))
    | none=>False
   | _=>False
  | _=>False
 | _=>False
theorem e7 {i:Nat} {x:Str} {npos spos:Pos} (hN:X.N[i]? = some x) (he:QF X M.ow e ma) (hk:QE X M.ow b mb) (ho:M.ow[i]? = some true:=by decide)
 (hv:Vis X.env.scope x:=by first | exact Or.inl rfl | exact Or.inr (Or.inl rfl) | exact Or.inr (Or.inr rfl)) (hd:(x == ("__debug__":Str))=false:=by decide) (hcd:(x == ("__classdict__":Str))=false:=by decide)
 (ha:∀ v,assign (.Subscript (.Name x npos) b spos) X.env v=(do
  let ov ← holding [v] (eval (.Name x npos) X.env)
  let iv ← holding [v,ov] (eval b X.env)
  standAt spos
  holding [v,ov,iv] (setItem ov iv v)
  release [v,ov,iv] []):=by intro _; rfl)
 (hs:swapsWithSole [.Subscript (.Name x npos) b spos] e pos.line X.env=pure false:=by rfl) (hw:swappedStores [.Subscript (.Name x npos) b spos] e X.env=pure none:=by rfl)
 (h1:(assignEach [.Subscript (.Name x npos) b spos] X.env).map (·.2)=[assign (.Subscript (.Name x npos) b spos) X.env]:=by rfl) :
 QS X M (.Assign [.Subscript (.Name x npos) b spos] e pos) (mSetI i mb ma):=by
 obtain ⟨t,p,s⟩:=he; obtain ⟨t2,p2,s2⟩:=hk
 refine ⟨_,kK p (wR (dS hN hv hd hcd) p2 jt ha) hs hw h1,fun C G ρ σ H n D hm hn r h k=>s C G ρ σ H [] _ _ r h fun d ρ' v G' H' hq z kp r'=>?_⟩
 split at hq
 ·rename_i ds0 e0
  obtain ⟨O0,ro⟩:=r'
  obtain ⟨a,xs,hu,_,_,_⟩:=ro.write e0 ho
  refine ⟨.ref a,hu,?_⟩
  refine s2 C G' ρ' σ H' _ _ _ ⟨O0,ro⟩ hq fun dk ρ2 jv G2 H2 hq2 z2 kp2 r2 pj=>?_
  split at hq2
  ·rename_i ds e2
   cases dk with
   | int j =>
    dsimp only at hq2
    split at hq2
    ·rename_i pl e3
     obtain ⟨O',r2⟩:=r2
     obtain ⟨O2,r3,w2,w3⟩:=r2.join i pl (by rw [hn]; exact Nat.zero_le _)
     obtain ⟨a',xs',g1,g2,g3,g4⟩:=r3.write e2 ho
     rw [hu] at g1; cases g1
     refine ⟨a,xs',j,pl,rfl,aw pj,g2,by rw [g3.length]; exact e3,?_⟩
     exact k.nx _ _ G2 _ hq2 (z.trans z2) ⟨O2,g4 _ _ (g3.set (by simpa using w2))⟩
    ·exact hq2.elim
   | _=>exact hq2.elim
  ·exact hq2.elim
 ·exact hq.elim
def vQ (mt:MT) (mb:MS):MS:=fun n ρ=>∃ W:Nat→DSt→Prop,(∃ k,W k ρ)∧∀ k ρ,W k ρ→mt ρ fun b ρ1 =>
 if b=true then mb { n with nx:=fun ρ'=>∃ k',k'<k∧W k' ρ',ct:=fun ρ'=>∃ k',k'<k∧W k' ρ',bk:=n.nx } ρ1 else n.nx ρ1
theorem gI {body:List Stmt} (hp:PassesOwn (model X.prog X.w) X.A X.env X.xe) (hc:QT X M.ow c mt) (hb:QSs X M body m):QS X M (.While c body [] pos) (vQ mt m):=by
 obtain ⟨t,p,s⟩:=hc; obtain ⟨t2,p2,s2⟩:=hb
 refine ⟨_,rf hp p p2,fun C G ρ σ H n D hm hn r h k=>?_⟩
 obtain ⟨W,⟨k0,w0⟩,turn⟩:=h
 refine ⟨fun j σ' H'=>∃ G' ρ',aF G G'∧R C M.ow G' ρ' σ' H' []∧W j ρ',⟨k0,G,ρ,aF.refl _,r,w0⟩,?_⟩
 rintro j σ' H' ⟨G',ρ',z,r',w⟩
 refine s C G' ρ' σ' H' [] _ _ r' (turn j ρ' w) fun b ρ1 G1 H1 hq z1 kp r1=>?_
 cases b with
 | true =>
  rw [if_pos rfl] at hq ⊢
  refine ⟨fun σ2 H2=>∃ j',j'<j∧∃ G2 ρ2,aF G G2∧R C M.ow G2 ρ2 σ2 H2 []∧W j' ρ2,fun σ2 H2 h=>h,?_⟩
  refine s2 C G1 ρ1 σ' H1 _ _ hm hn r1 hq ⟨?_,?_,?_,?_⟩
  ·rintro ρ2 σ2 G2 H2 ⟨j',hj,w'⟩ z2 r2; exact ⟨j',hj,G2,ρ2,z.trans (z1.trans z2),r2,w'⟩
  ·intro ρ2 σ2 G2 H2 h z2 r2; exact k.nx ρ2 σ2 G2 H2 h (z.trans (z1.trans z2)) r2
  ·rintro ρ2 σ2 G2 H2 ⟨j',hj,w'⟩ z2 r2; exact ⟨j',hj,G2,ρ2,z.trans (z1.trans z2),r2,w'⟩
  ·intro d ρ2 σ2 v G2 H2 h z2 r2; exact k.rt d ρ2 σ2 v G2 H2 h (z.trans (z1.trans z2)) r2
 | false=>rw [if_neg (by decide)] at hq ⊢; exact k.nx ρ1 σ' G1 H1 hq (z.trans z1) r1
def iy (J:It) (G:Hp) (ds:List D):Prop:=∀ (C:Ctx) (ow:List Bool) (G':Hp) (ρ:DSt) (σ:St) (H:Hp) (pd:List (D×V)) (i:Nat),aF G G'→R C ow G' ρ σ H pd →
 (ds.length≤i→J.stop i H)∧∀ d,ds[i]? = some d→J.go i H∧∀ x H',J.yld i H x H'→∃ G2,aF G' G2∧R C ow G2 ρ σ H' pd∧Rep G2 d x
def SI (ow:List Bool) (wi:TI) (mi:MA):Prop:=∀ (C:Ctx) (G:Hp) (ρ:DSt) (σ:St) (H:Hp) (pd:List (D×V)) (q:List D→DSt→Prop) (Q:It→Hp→Prop),R C ow G ρ σ H pd→mi ρ q →
 (∀ ds ρ' G' H' J,q ds ρ'→aF G G'→Kp ow ρ ρ'→R C ow G' ρ' σ H' pd→iy J G' ds→Q J H')→wi σ H Q
structure QI (X:Cx) (ow:List Bool) (tg iter:Expr) (mi:MA):Prop where
 ex:∃ t,PI X tg iter t∧SI ow t mi
def forD (g:MG) (mb:MS) (n:EndsD) (ds:List D) (ρ:DSt):Prop:=∃ I:Nat→DSt→Prop,I 0 ρ ∧
 (∀ i d ρ,ds[i]? = some d→I i ρ→g d ρ fun ρ1=>mb { n with nx:=I (i + 1),ct:=I (i + 1),bk:=n.nx } ρ1)∧∀ ρ,I ds.length ρ→n.nx ρ
def mFor (mi:MA) (g:MG) (mb:MS):MS:=fun n ρ=>mi ρ fun ds ρ1=>forD g mb n ds ρ1
theorem ca {mi:MA} {tg iter:Expr} {body:List Stmt} (hp:PassesOwn (model X.prog X.w) X.A X.env X.xe) (hc:X.calm=true) (hi:QI X M.ow tg iter mi) (hg:QG X M tg mg) (hb:QSs X M body m)
 (hs:∀ x,foldedSetIterable iter X.env x=pure x:=by intro _; rfl):QS X M (.For tg iter body [] pos) (mFor mi mg m):=by
 obtain ⟨ti,pi,si⟩:=hi; obtain ⟨tg',pg,sg⟩:=hg; obtain ⟨tb,pb,sb⟩:=hb
 refine ⟨_,u6 hp hc pi pg pb hs,fun C G ρ σ H n D hm hn r h k=>si C G ρ σ H [] _ _ r h fun ds ρ0 G0 H0 J hq z0 kp r0 jo=>?_⟩
 obtain ⟨I,i0,turn,fin⟩:=hq
 refine ⟨fun i j σ' H'=>j=ds.length - i∧i≤ds.length∧∃ G' ρ',aF G0 G'∧R C M.ow G' ρ' σ' H' []∧I i ρ',⟨_,rfl,Nat.zero_le _,G0,ρ0,aF.refl _,r0,i0⟩,?_⟩
 rintro i j σ' H' ⟨rfl,hi,G',ρ',z,r',w⟩
 obtain ⟨st,go⟩:=jo C M.ow G' ρ' σ' H' [] i z r'
 by_cases hlt:i<ds.length
 ·obtain ⟨g1,g2⟩:=go ds[i] (List.getElem?_eq_getElem hlt)
  refine .inr ⟨g1,fun σ2 H2=>∃ G2 ρ2,aF G0 G2∧R C M.ow G2 ρ2 σ2 H2 []∧I (i + 1) ρ2,fun σ2 H2 h=>⟨ds.length - (i + 1),by omega,rfl,hlt,h⟩,fun x H1 hy=>?_⟩
  obtain ⟨G1,z1,r1,p1⟩:=g2 x H1 hy
  refine sg C G1 ρ' σ' H1 [] ds[i] x _ _ hm r1 p1 (turn i ds[i] ρ' (List.getElem?_eq_getElem hlt) w) fun ρ2 σ2 h2 r2=>?_
  refine sb C G1 ρ2 σ2 H1 _ _ hm hn r2 h2 ⟨?_,?_,?_,?_⟩
  ·intro ρ3 σ3 G3 H3 h3 z3 r3; exact ⟨G3,ρ3,z.trans (z1.trans z3),r3,h3⟩
  ·intro ρ3 σ3 G3 H3 h3 z3 r3; exact k.nx ρ3 σ3 G3 H3 h3 (z0.trans (z.trans (z1.trans z3))) r3
  ·intro ρ3 σ3 G3 H3 h3 z3 r3; exact ⟨G3,ρ3,z.trans (z1.trans z3),r3,h3⟩
  ·intro d ρ3 σ3 v G3 H3 h3 z3 r3; exact k.rt d ρ3 σ3 v G3 H3 h3 (z0.trans (z.trans (z1.trans z3))) r3
 ·have e:i=ds.length:=by omega
  subst e
  exact .inl ⟨st (Nat.le_refl _),k.nx ρ' σ' G' H' (fin ρ' w) (z0.trans z) r'⟩
end
section
variable {X:Cx} {ow:List Bool} {a b c e tg:Expr} {ma mb mc:ME} {pos:Pos} {mr:MA} {es:List Expr}
theorem vJ {K:PySem.W.Frag} {G:Hp} {p:Addr} {xs:List V} {ds:List D} (h1:G p=some (.lst xs)) (h2:Reps G ds xs):iy (Itl K p) G ds:=fun C ow G' ρ σ H pd i z r=>by
 have hp:=r.gh _ _ (z _ _ h1)
 refine ⟨fun hl=>⟨xs,SqL.of hp,by rw [h2.length]; exact hl⟩,fun d e=>?_⟩
 obtain ⟨v,e1,e2⟩:=cQ h2 e
 refine ⟨⟨xs,v,SqL.of hp,e1⟩,fun x H' hy=>?_⟩
 obtain ⟨rfl,hy⟩:=hy
 have:=hy xs (SqL.of hp)
 rw [e1] at this; cases this
 exact ⟨G',aF.refl _,r,Rep.mono z _ _ e2⟩
def miLst (m:ME):MA:=fun ρ q=>m ρ fun d ρ'=>match d with
 | .lst ds=>q ds ρ'
 | _=>False
theorem bd (h:QE X ow e ma):QI X ow tg e (miLst ma):=by
 obtain ⟨t,p,s⟩:=h
 refine ⟨_,tw p,fun C G ρ σ H pd q Q r hm k=>s C G ρ σ H pd _ _ r hm fun d ρ' v G' H' hq z kp r' p=>?_⟩
 cases d with
 | lst ds=>obtain ⟨a,xs,rfl,h1,h2⟩:=aW p; exact ⟨a,rfl,⟨xs,SqL.of (r'.gh _ _ h1)⟩,k ds ρ' G' H' _ hq z kp r' (vJ h1 h2)⟩
 | _=>exact hq.elim
def kh (lo:Int) (n:Nat):List D:=(List.range n).map fun (i:Nat)=>.int (lo + i)
theorem f9 {lo:Int} {n i:Nat} {d:D} (h:(kh lo n)[i]? = some d):i<n∧d = .int (lo + i):=by
 unfold kh at h
 rw [List.getElem?_map] at h
 by_cases c:i<n
 ·rw [List.getElem?_range c] at h; exact ⟨c,(Option.some.inj h).symm⟩
 ·rw [List.getElem?_eq_none (by simp; omega)] at h; cases h
theorem eX (lo:Int) (n:Nat):(kh lo n).length=n:=by unfold kh; simp
theorem u4 {G:Hp} {lo:Int} {n:Nat}:iy (Itr lo n) G (kh lo n):=fun C ow G' ρ σ H pd i z r=>by
 refine ⟨fun hl=>by rw [eX] at hl; exact hl,fun d e=>?_⟩
 obtain ⟨h1,rfl⟩:=f9 e
 refine ⟨h1,fun x H' hy=>?_⟩
 obtain ⟨rfl,rfl⟩:=hy
 exact ⟨G',aF.refl _,r,a8 _⟩
def miR1 (m:MA):MA:=fun ρ q=>m ρ fun ds ρ'=>match ds with
 | [.int j]=>(-(2 ^ 62)≤j∧j<2 ^ 62)∧q (kh 0 j.toNat) ρ'
 | _=>False
theorem em {p:Pos} (hg:Gl X "range") (hm:X.mg "range" = none) (ha:QA X ow [a] mr) (hs:starEach [a] X.env=[(false,eval a X.env)]:=by rfl):QI X ow tg (.Call (.Name "range" p) [a] [] pos) (miR1 mr):=by
 obtain ⟨t,p,s⟩:=ha
 refine ⟨_,mU hg hm p hs,fun C G ρ σ H pd q Q r hm k=>s C G ρ σ H pd _ _ r hm fun ds ρ' vs G' H' hq z kp r' p hn=>?_⟩
 split at hq
 ·obtain ⟨v,rfl,p1⟩:=aZ p
  rw [aw p1]
  exact ⟨_,rfl,hq.1.1,hq.1.2,k _ ρ' G' H' _ hq.2 z kp r' u4⟩
 ·exact hq.elim
def m_ (ds:List D):List D:=ds.mapIdx fun i d=>.tup [.int i,d]
theorem nI (ds:List D):(m_ ds).length=ds.length:=by unfold m_; simp
theorem eZ {ds:List D} {i:Nat} {d:D} (h:(m_ ds)[i]? = some d):∃ d',ds[i]? = some d'∧d = .tup [.int i,d']:=by
 unfold m_ at h
 rw [List.getElem?_mapIdx] at h
 cases e:ds[i]? with
 | none=>rw [e] at h; cases h
 | some d'=>rw [e] at h; exact ⟨d',rfl,(Option.some.inj h).symm⟩
theorem vH {G:Hp} {p:Addr} {xs:List V} {ds:List D} (h1:G p=some (.lst xs)) (h2:Reps G ds xs):iy (Ite p) G (m_ ds):=fun C ow G' ρ σ H pd i z r=>by
 have hp:=r.gh _ _ (z _ _ h1)
 refine ⟨fun hl=>⟨xs,hp,by rw [h2.length]; rw [nI] at hl; exact hl⟩,fun d e=>?_⟩
 obtain ⟨d',e0,rfl⟩:=eZ e
 obtain ⟨v,e1,e2⟩:=cQ h2 e0
 refine ⟨⟨xs,v,hp,e1⟩,fun x H' hy=>?_⟩
 obtain ⟨a,x',ha,rfl,rfl,hy⟩:=hy
 have:=hy xs hp
 rw [e1] at this; cases this
 obtain ⟨O,r⟩:=r
 obtain ⟨r2,s2⟩:=r.new ha (.tup [.int i,v])
 exact ⟨_,s2,⟨O,r2⟩,ga aJ (bb (a8 _) (bb (Rep.mono (z.trans s2) _ _ e2) bg))⟩
def miEnu (m:MA):MA:=fun ρ q=>m ρ fun ds ρ'=>match ds with
 | [.lst ds]=>q (m_ ds) ρ'
 | _=>False
theorem gb {k:Nat} {tpos p:Pos} (hg:Gl X "enumerate") (hm:X.mg "enumerate" = none) (ha:QA X ow [a] mr) (hs:starEach [a] X.env=[(false,eval a X.env)]:=by rfl):QI X ow (.Tuple es k tpos) (.Call (.Name "enumerate" p) [a] [] pos) (miEnu mr):=by
 obtain ⟨t,p,s⟩:=ha
 refine ⟨_,sA hg hm p hs,fun C G ρ σ H pd q Q r hm k=>s C G ρ σ H pd _ _ r hm fun ds ρ' vs G' H' hq z kp r' p hn=>?_⟩
 split at hq
 ·obtain ⟨v,rfl,p1⟩:=aZ p
  obtain ⟨a,xs,rfl,h1,h2⟩:=aW p1
  exact ⟨a,rfl,⟨xs,r'.gh _ _ h1⟩,k _ ρ' G' H' _ hq z kp r' (vH h1 h2)⟩
 ·exact hq.elim
def tT (i:Nat):ME:=fun ρ q=>match ρ[i]? with
 | some (some d)=>q d (ρ.set i none)
 | _=>False
end
inductive AK where
 | s | m (i:Nat) | t
def AK.isM:AK→Bool
 | .s=>false
 | _=>true
def gP (G:Hp) (σ:St):List AK→List D→List V→List (D×V)→Prop
 | [],[],[],[]=>True
 | .s :: ks,d :: ds,v :: vs,T=>Rep G d v∧gP G σ ks ds vs T
 | .m i :: ks,_ :: ds,v :: vs,T=>σ[i]? = some (some v)∧gP G σ ks ds vs T
 | .t :: ks,d :: ds,v :: vs,x :: T=>x=(d,v)∧gP G σ ks ds vs T
 | _,_,_,_=>False
def SAk (ow:List Bool) (ks:List AK) (t:TA) (m:MA):Prop:=∀ (C:Ctx) (G:Hp) (ρ:DSt) (σ:St) (H:Hp) (pd:List (D×V)) (q:List D→DSt→Prop) (Q:List V→Hp→Prop),R C ow G ρ σ H pd→m ρ q →
 (∀ ds ρ' vs T G' H',q ds ρ'→aF G G'→Kp ow ρ ρ'→R C ow G' ρ' σ H' (T.reverse++pd)→gP G' σ ks ds vs T→Q vs H')→t σ H Q
structure QAk (X:Cx) (ow:List Bool) (ks:List AK) (es:List Expr) (m:MA):Prop where
 ex:∃ t,PA X es t∧SAk ow ks t m
section
variable {X:Cx} {ow:List Bool} {a b c e tg:Expr} {ma mb mc:ME} {pos:Pos} {mr:MA} {es:List Expr} {ks:List AK}
theorem ai:QAk X ow [] [] nA:=⟨_,dr,fun C G ρ σ H pd q Q r h k=>k [] ρ [] [] G H h (aF.refl _) Kp.refl r trivial⟩
theorem am (ha:QE X ow e ma) (hr:QAk X ow ks es mr) (hs:starEach (e :: es) X.env=(false,eval e X.env) :: starEach es X.env:=by rfl):QAk X ow (.s :: ks) (e :: es) (eH ma mr):=by
 obtain ⟨t,p,s⟩:=ha; obtain ⟨t2,p2,s2⟩:=hr
 refine ⟨_,bK p p2 hs,fun C G ρ σ H pd q Q r hm k=>s C G ρ σ H pd _ _ r hm fun d ρ' v G' H' hq z kp r' p=>?_⟩
 exact s2 C G' ρ' σ H' pd _ _ r' hq fun ds ρ2 vs T G2 H2 hq2 z2 kp2 r2 p2=>k (d :: ds) ρ2 (v :: vs) T G2 H2 hq2 (z.trans z2) (kp.trans kp2) r2 ⟨Rep.mono z2 _ _ p,p2⟩
theorem qk_t (ha:QF X ow e ma) (hr:QAk X ow ks es mr) (hs:starEach (e :: es) X.env=(false,eval e X.env) :: starEach es X.env:=by rfl):QAk X ow (.t :: ks) (e :: es) (eH ma mr):=by
 obtain ⟨t,p,s⟩:=ha; obtain ⟨t2,p2,s2⟩:=hr
 refine ⟨_,bK p p2 hs,fun C G ρ σ H pd q Q r hm k=>s C G ρ σ H pd _ _ r hm fun d ρ' v G' H' hq z kp r'=>?_⟩
 exact s2 C G' ρ' σ H' _ _ _ r' hq fun ds ρ2 vs T G2 H2 hq2 z2 kp2 r2 p2=>k (d :: ds) ρ2 (v :: vs) ((d,v) :: T) G2 H2 hq2 (z.trans z2) (kp.trans kp2) (by simpa using r2) ⟨rfl,p2⟩
def qX (i:Nat) (r:MA):MA:=fun ρ q=>match ρ[i]? with
 | some (some _)=>r ρ fun ds ρ2=>q (.non :: ds) ρ2
 | _=>False
theorem fE (i:Nat) {x:Str} (hr:QAk X ow ks es mr) (hN:X.N[i]? = some x:=by rfl) (hv:Vis X.env.scope x:=by first | exact Or.inl rfl | exact Or.inr (Or.inl rfl) | exact Or.inr (Or.inr rfl)) (hd:(x == ("__debug__":Str))=false:=by decide)
 (hcd:(x == ("__classdict__":Str))=false:=by decide) (hs:starEach (.Name x pos :: es) X.env=(false,eval (.Name x pos) X.env) :: starEach es X.env:=by rfl):QAk X ow (.m i :: ks) (.Name x pos :: es) (qX i mr):=by
 obtain ⟨t2,p2,s2⟩:=hr
 refine ⟨_,bK (dS hN hv hd hcd) p2 hs,fun C G ρ σ H pd q Q r hm k=>?_⟩
 unfold qX at hm
 split at hm
 ·rename_i d e
  obtain ⟨O,ro⟩:=r
  obtain ⟨v,h1,_⟩:=ro.sl i d e
  exact ⟨v,h1,s2 C G ρ σ H pd _ _ ⟨O,ro⟩ hm fun ds ρ2 vs T G2 H2 hq2 z2 kp2 r2 p2=>k (.non :: ds) ρ2 (v :: vs) T G2 H2 hq2 z2 kp2 r2 ⟨h1,p2⟩⟩
 ·exact hm.elim
def df:List AK→List D→DSt→Option (List D)
 | [],[],_=>some []
 | .s :: ks,d :: ds,ρ=>(df ks ds ρ).map (d :: ·)
 | .t :: ks,d :: ds,ρ=>(df ks ds ρ).map (d :: ·)
 | .m i :: ks,_ :: ds,ρ=>match ρ[i]? with
  | some (some d)=>(df ks ds ρ).map (d :: ·)
  | _=>none
 | _,_,_=>none
def lbs:List AK→Nat→List (Option Nat)
 | [],_=>[]
 | .s :: ks,r=>none :: lbs ks r
 | .m i :: ks,r=>some (2 * i) :: lbs ks r
 | .t :: ks,r=>some (2 * r + 1) :: lbs ks (r + 1)
def aA:List AK→List Nat
 | []=>[]
 | .m i :: ks=>i :: aA ks
 | _ :: ks=>aA ks
def fnd (l:Nat):List (Option Nat)→Nat→Option Nat
 | [],_=>none
 | x :: xs,k=>if x=some l then some k else fnd l xs (k + 1)
theorem qj {l:Nat}:∀ {xs:List (Option Nat)} {k j:Nat},fnd l xs k=some j→∃ i,j=k + i∧xs[i]? = some (some l)
 | [],_,_,h=>by cases h
 | x :: xs,k,j,h=>by
  unfold fnd at h
  split at h
  ·rename_i c; cases h; exact ⟨0,rfl,by simp [c]⟩
  ·obtain ⟨i,rfl,e⟩:=qj h; exact ⟨i + 1,by omega,by simpa using e⟩
theorem jp {l:Nat}:∀ {xs:List (Option Nat)} {k:Nat},(∀ i:Nat,xs[i]?≠some (some l))→fnd l xs k=none
 | [],_,_=>rfl
 | x :: xs,k,h=>by
  unfold fnd
  rw [if_neg (fun c=>h 0 (by simp [c]))]
  exact jp fun i=>by simpa using h (i + 1)
theorem rh {l:Nat}:∀ {xs:List (Option Nat)} {k i:Nat},(∀ (i j:Nat) (l:Nat),xs[i]? = some (some l)→xs[j]? = some (some l)→i=j)→xs[i]? = some (some l)→fnd l xs k=some (k + i)
 | [],_,_,_,h=>by simp at h
 | x :: xs,k,i,u,h=>by
  unfold fnd
  by_cases c:x=some l
  ·rw [if_pos c]
   have:=u 0 i l (by simp [c]) h
   subst this; rfl
  ·rw [if_neg c]
   cases i with
   | zero=>simp at h; exact absurd h c
   | succ i =>
    have:=rh (k:=k + 1) (i:=i) (fun i j l a b=>by have:=u (i + 1) (j + 1) l (by simpa using a) (by simpa using b); omega) (by simpa using h)
    rw [this]; congr 1; omega
theorem cJ:∀ {ks:List AK} {r:Nat} {i l:Nat},(lbs ks r)[i]? = some (some l)→(∃ j∈aA ks,l=2 * j)∨∃ j,r≤j∧l=2 * j + 1
 | [],_,_,_,h=>by simp [lbs] at h
 | .s :: ks,r,0,l,h=>by simp [lbs] at h
 | .s :: ks,r,i + 1,l,h=>by simp only [lbs,List.getElem?_cons_succ] at h; have:=cJ (ks:=ks) h; simpa [aA] using this
 | .m j :: ks,r,0,l,h=>by simp [lbs] at h; exact .inl ⟨j,by simp [aA],h.symm⟩
 | .m j :: ks,r,i + 1,l,h=>by
  simp only [lbs,List.getElem?_cons_succ] at h
  rcases cJ h with ⟨z,h1,h2⟩ | h
  ·exact .inl ⟨z,by simp [aA,h1],h2⟩
  ·exact .inr h
 | .t :: ks,r,0,l,h=>by simp [lbs] at h; exact .inr ⟨r,Nat.le_refl _,h.symm⟩
 | .t :: ks,r,i + 1,l,h=>by
  simp only [lbs,List.getElem?_cons_succ] at h
  rcases cJ h with ⟨z,h1,h2⟩ | ⟨j,h1,h2⟩
  ·exact .inl ⟨z,by simpa [aA] using h1,h2⟩
  ·exact .inr ⟨j,by omega,h2⟩
theorem fe:∀ {ks:List AK} {r:Nat},(aA ks).Nodup→∀ (i j l:Nat),(lbs ks r)[i]? = some (some l)→(lbs ks r)[j]? = some (some l)→i=j
 | [],_,_,i,j,l,h,_=>by simp [lbs] at h
 | .s :: ks,r,nd,0,j,l,h,_=>by simp [lbs] at h
 | .s :: ks,r,nd,i + 1,0,l,_,h=>by simp [lbs] at h
 | .s :: ks,r,nd,i + 1,j + 1,l,h,h2=>by simp only [lbs,List.getElem?_cons_succ] at h h2; rw [fe (ks:=ks) (by simpa [aA] using nd) i j l h h2]
 | .m a :: ks,r,nd,0,0,l,_,_=>rfl
 | .m a :: ks,r,nd,0,j + 1,l,h,h2=>by
  simp only [lbs,List.getElem?_cons_succ] at h2; simp [lbs] at h
  simp only [aA,List.nodup_cons] at nd
  rcases cJ h2 with ⟨z,h3,h4⟩ | ⟨z,h3,h4⟩
  ·exact absurd h3 (by rw [show z=a by omega]; exact nd.1)
  ·omega
 | .m a :: ks,r,nd,i + 1,0,l,h2,h=>by
  simp only [lbs,List.getElem?_cons_succ] at h2; simp [lbs] at h
  simp only [aA,List.nodup_cons] at nd
  rcases cJ h2 with ⟨z,h3,h4⟩ | ⟨z,h3,h4⟩
  ·exact absurd h3 (by rw [show z=a by omega]; exact nd.1)
  ·omega
 | .m a :: ks,r,nd,i + 1,j + 1,l,h,h2=>by
  simp only [aA,List.nodup_cons] at nd
  simp only [lbs,List.getElem?_cons_succ] at h h2; rw [fe (ks:=ks) nd.2 i j l h h2]
 | .t :: ks,r,nd,0,0,l,_,_=>rfl
 | .t :: ks,r,nd,0,j + 1,l,h,h2=>by
  simp only [lbs,List.getElem?_cons_succ] at h2; simp [lbs] at h
  rcases cJ h2 with ⟨z,h3,h4⟩ | ⟨z,h3,h4⟩ <;> omega
 | .t :: ks,r,nd,i + 1,0,l,h2,h=>by
  simp only [lbs,List.getElem?_cons_succ] at h2; simp [lbs] at h
  rcases cJ h2 with ⟨z,h3,h4⟩ | ⟨z,h3,h4⟩ <;> omega
 | .t :: ks,r,nd,i + 1,j + 1,l,h,h2=>by simp only [lbs,List.getElem?_cons_succ] at h h2; rw [fe (ks:=ks) (by simpa [aA] using nd) i j l h h2]
end
theorem d9 {G H:Hp} {O:Own}:∀ {T pd:List (D×V)},bV G H O (T++pd)→bV G H O pd
 | [],_,h=>h
 | _ :: T,_,h=>d9 (T:=T) h.2
theorem i9 {G H:Hp} {O:Own}:∀ {T pd:List (D×V)} {j:Nat} {x:D×V},bV G H O (T.reverse++pd)→T[j]? = some x→Sep G H O (2 * (pd.length + j) + 1) x.1 [] x.2
 | [],_,_,_,_,e=>by simp at e
 | y :: T,pd,j,x,h,e=>by
  have h':bV G H O (T.reverse++(y :: pd)):=by simpa using h
  cases j with
  | zero=>simp at e; subst e; exact (d9 h').1
  | succ j =>
   have:=i9 (j:=j) h' (by simpa using e)
   rw [show pd.length + (j + 1)=(y :: pd).length + j by simp; omega]
   exact this
theorem gf {G H:Hp} {O:Own} {σ:St} {ρ:DSt}:∀ {ks:List AK} {ds ds':List D} {vs:List V} {T:List (D×V)} {r:Nat},gP G σ ks ds vs T→df ks ds ρ=some ds' →
 (∀ (j:Nat) x,T[j]? = some x→Sep G H O (2 * (r + j) + 1) x.1 [] x.2)→(∀ i∈aA ks,∀ d,ρ[i]? = some (some d)→∃ v,σ[i]? = some (some v)∧Sep G H O (2 * i) d [] v) →
 ds'.length=vs.length∧vs.length=ks.length∧∀ (k:Nat) d,ds'[k]? = some d→∃ v,vs[k]? = some v∧((∃ l,(lbs ks r)[k]? = some (some l)∧(ks.map AK.isM)[k]? = some true∧Sep G H O l d [] v)∨((ks.map AK.isM)[k]? = some false∧Rep G d v))
 | [],[],ds',[],[],r,_,hf,_,_=>by simp [df] at hf; subst hf; exact ⟨rfl,rfl,fun k d e=>by simp at e⟩
 | .s :: ks,d :: ds,ds',v :: vs,T,r,h,hf,hT,hS=>by
  rw [df] at hf
  cases e:df ks ds ρ with
  | none=>rw [e] at hf; cases hf
  | some es =>
   rw [e] at hf; cases hf
   obtain ⟨l1,l2,ih⟩:=gf (ks:=ks) h.2 e hT (fun i hi=>hS i (by simpa [aA] using hi))
   refine ⟨by simp [l1],by simp [l2],fun k d' e'=>?_⟩
   cases k with
   | zero=>simp at e'; subst e'; exact ⟨v,rfl,.inr ⟨rfl,h.1⟩⟩
   | succ k=>obtain ⟨u,g1,g2⟩:=ih k d' (by simpa using e'); exact ⟨u,by simpa using g1,by simpa [lbs] using g2⟩
 | .m i :: ks,d :: ds,ds',v :: vs,T,r,h,hf,hT,hS=>by
  rw [df] at hf
  cases e0 : ρ[i]? with
  | none=>rw [e0] at hf; cases hf
  | some o =>
   cases o with
   | none=>rw [e0] at hf; cases hf
   | some d0 =>
    rw [e0] at hf
    dsimp only at hf
    cases e:df ks ds ρ with
    | none=>rw [e] at hf; cases hf
    | some es =>
     rw [e] at hf; cases hf
     obtain ⟨l1,l2,ih⟩:=gf (ks:=ks) h.2 e hT (fun i hi=>hS i (by simp [aA,hi]))
     refine ⟨by simp [l1],by simp [l2],fun k d' e'=>?_⟩
     cases k with
     | zero =>
      simp at e'; subst e'
      obtain ⟨u,g1,g2⟩:=hS i (by simp [aA]) d0 e0
      rw [h.1] at g1; cases g1
      exact ⟨v,rfl,.inl ⟨2 * i,by simp [lbs],rfl,g2⟩⟩
     | succ k=>obtain ⟨u,g1,g2⟩:=ih k d' (by simpa using e'); exact ⟨u,by simpa using g1,by simpa [lbs] using g2⟩
 | .t :: ks,d :: ds,ds',v :: vs,x :: T,r,h,hf,hT,hS=>by
  rw [df] at hf
  cases e:df ks ds ρ with
  | none=>rw [e] at hf; cases hf
  | some es =>
   rw [e] at hf; cases hf
   obtain ⟨l1,l2,ih⟩:=gf (ks:=ks) (r:=r + 1) h.2 e (fun j x e=>by rw [show r + 1 + j=r + (j + 1) by omega]; exact hT (j + 1) x (by simpa using e)) (fun i hi=>hS i (by simpa [aA] using hi))
   refine ⟨by simp [l1],by simp [l2],fun k d' e'=>?_⟩
   cases k with
   | zero =>
    simp at e'; subst e'
    have:=hT 0 x rfl
    rw [h.1] at this
    exact ⟨v,rfl,.inl ⟨2 * r + 1,by simp [lbs],rfl,this⟩⟩
   | succ k=>obtain ⟨u,g1,g2⟩:=ih k d' (by simpa using e'); exact ⟨u,by simpa using g1,by simpa [lbs] using g2⟩
 | [],_ :: _,_,_,_,_,h,_,_,_=>h.elim
 | [],[],_,_ :: _,_,_,h,_,_,_=>h.elim
 | [],[],_,[],_ :: _,_,h,_,_,_=>h.elim
 | .s :: _,[],_,_,_,_,h,_,_,_=>h.elim
 | .s :: _,_ :: _,_,[],_,_,h,_,_,_=>h.elim
 | .m _ :: _,[],_,_,_,_,h,_,_,_=>h.elim
 | .m _ :: _,_ :: _,_,[],_,_,h,_,_,_=>h.elim
 | .t :: _,[],_,_,_,_,h,_,_,_=>h.elim
 | .t :: _,_ :: _,_,[],_,_,h,_,_,_=>h.elim
 | .t :: _,_ :: _,_,_ :: _,[],_,h,_,_,_=>h.elim
theorem eD {G:Hp} {σ:St}:∀ {ks:List AK} {ds:List D} {vs:List V} {T:List (D×V)} {k i:Nat},gP G σ ks ds vs T→ks[k]? = some (.m i)→∃ v,vs[k]? = some v∧σ[i]? = some (some v)
 | [],_,_,_,k,i,_,e=>by simp at e
 | .s :: ks,d :: ds,v :: vs,T,0,i,h,e=>by simp at e
 | .s :: ks,d :: ds,v :: vs,T,k + 1,i,h,e=>by obtain ⟨u,g1,g2⟩:=eD (k:=k) h.2 (by simpa using e); exact ⟨u,by simpa using g1,g2⟩
 | .m j :: ks,d :: ds,v :: vs,T,0,i,h,e=>by simp at e; subst e; exact ⟨v,rfl,h.1⟩
 | .m j :: ks,d :: ds,v :: vs,T,k + 1,i,h,e=>by obtain ⟨u,g1,g2⟩:=eD (k:=k) h.2 (by simpa using e); exact ⟨u,by simpa using g1,g2⟩
 | .t :: ks,d :: ds,v :: vs,x :: T,0,i,h,e=>by simp at e
 | .t :: ks,d :: ds,v :: vs,x :: T,k + 1,i,h,e=>by obtain ⟨u,g1,g2⟩:=eD (k:=k) h.2 (by simpa using e); exact ⟨u,by simpa using g1,g2⟩
 | .s :: _,[],_,_,_,_,h,_=>h.elim
 | .s :: _,_ :: _,[],_,_,_,h,_=>h.elim
 | .m _ :: _,[],_,_,_,_,h,_=>h.elim
 | .m _ :: _,_ :: _,[],_,_,_,h,_=>h.elim
 | .t :: _,[],_,_,_,_,h,_=>h.elim
 | .t :: _,_ :: _,[],_,_,_,h,_=>h.elim
 | .t :: _,_ :: _,_ :: _,[],_,_,h,_=>h.elim
def bZ:List AK→DSt→DSt→DSt
 | .m i :: ks,x :: ρ2,ρ=>bZ ks ρ2 (ρ.set i x)
 | _ :: ks,_ :: ρ2,ρ=>bZ ks ρ2 ρ
 | _,_,ρ=>ρ
def gY:List AK→DSt→DSt→DSt
 | .s :: ks,os,ρ=>gY ks os ρ
 | .m i :: ks,o :: os,ρ=>gY ks os (ρ.set i o)
 | .t :: ks,_ :: os,ρ=>gY ks os ρ
 | _,_,ρ=>ρ
theorem f8:∀ {ks:List AK} {ρ2 ρ:DSt},ρ2.length=ks.length→gY ks (mus (ks.map AK.isM) ρ2) ρ=bZ ks ρ2 ρ
 | [],[],ρ,_=>rfl
 | .s :: ks,x :: ρ2,ρ,h=>by simp only [List.map,AK.isM,mus,gY,bZ]; exact f8 (by simpa using h)
 | .m i :: ks,x :: ρ2,ρ,h=>by simp only [List.map,AK.isM,mus,gY,bZ]; exact f8 (by simpa using h)
 | .t :: ks,x :: ρ2,ρ,h=>by simp only [List.map,AK.isM,mus,gY,bZ]; exact f8 (by simpa using h)
theorem fc:∀ {ks:List AK} {ρ2 ρ:DSt},(bZ ks ρ2 ρ).length=ρ.length
 | [],_,_=>by simp [bZ]
 | .s :: ks,[],_=>by simp [bZ]
 | .m i :: ks,[],_=>by simp [bZ]
 | .t :: ks,[],_=>by simp [bZ]
 | .s :: ks,x :: ρ2,ρ=>by simp only [bZ]; exact fc
 | .m i :: ks,x :: ρ2,ρ=>by simp only [bZ]; rw [fc]; simp
 | .t :: ks,x :: ρ2,ρ=>by simp only [bZ]; exact fc
theorem fm:∀ {ks:List AK} {ρ2 ρ:DSt} {i:Nat},i ∉ aA ks→(bZ ks ρ2 ρ)[i]? = ρ[i]?
 | [],_,_,_,_=>by simp [bZ]
 | .s :: ks,[],_,_,_=>by simp [bZ]
 | .m i :: ks,[],_,_,_=>by simp [bZ]
 | .t :: ks,[],_,_,_=>by simp [bZ]
 | .s :: ks,x :: ρ2,ρ,i,h=>by simp only [bZ]; exact fm (by simpa [aA] using h)
 | .t :: ks,x :: ρ2,ρ,i,h=>by simp only [bZ]; exact fm (by simpa [aA] using h)
 | .m j :: ks,x :: ρ2,ρ,i,h=>by
  simp only [bZ]
  simp only [aA,List.mem_cons,not_or] at h
  rw [fm h.2,List.getElem?_set_ne (Ne.symm h.1)]
theorem e6:∀ {ks:List AK} {ρ2 ρ:DSt} {i:Nat} {d:D},(bZ ks ρ2 ρ)[i]? = some (some d)→ρ2.length=ks.length→(i ∉ aA ks∧ρ[i]? = some (some d))∨∃ k:Nat,ks[k]? = some (.m i)∧ρ2[k]? = some (some d)
 | [],[],ρ,i,d,h,_=>.inl ⟨by simp [aA],by simpa [bZ] using h⟩
 | .s :: ks,x :: ρ2,ρ,i,d,h,hl=>by
  simp only [bZ] at h
  rcases e6 h (by simpa using hl) with ⟨h1,h2⟩ | ⟨k,h1,h2⟩
  ·exact .inl ⟨by simpa [aA] using h1,h2⟩
  ·exact .inr ⟨k + 1,by simpa using h1,by simpa using h2⟩
 | .t :: ks,x :: ρ2,ρ,i,d,h,hl=>by
  simp only [bZ] at h
  rcases e6 h (by simpa using hl) with ⟨h1,h2⟩ | ⟨k,h1,h2⟩
  ·exact .inl ⟨by simpa [aA] using h1,h2⟩
  ·exact .inr ⟨k + 1,by simpa using h1,by simpa using h2⟩
 | .m j :: ks,x :: ρ2,ρ,i,d,h,hl=>by
  simp only [bZ] at h
  rcases e6 h (by simpa using hl) with ⟨h1,h2⟩ | ⟨k,h1,h2⟩
  ·rcases dZ h2 with ⟨rfl,rfl⟩ | ⟨h3,h4⟩
   ·exact .inr ⟨0,rfl,rfl⟩
   ·exact .inl ⟨by simp [aA,h1,h3],h4⟩
  ·exact .inr ⟨k + 1,by simpa using h1,by simpa using h2⟩
theorem lE:∀ {ks:List AK} {r k i:Nat},ks[k]? = some (.m i)→(lbs ks r)[k]? = some (some (2 * i))
 | [],_,_,_,e=>by simp at e
 | .s :: ks,r,0,i,e=>by simp at e
 | .s :: ks,r,k + 1,i,e=>by simp only [lbs,List.getElem?_cons_succ]; exact lE (by simpa using e)
 | .m j :: ks,r,0,i,e=>by simp at e; subst e; simp [lbs]
 | .m j :: ks,r,k + 1,i,e=>by simp only [lbs,List.getElem?_cons_succ]; exact lE (by simpa using e)
 | .t :: ks,r,0,i,e=>by simp at e
 | .t :: ks,r,k + 1,i,e=>by simp only [lbs,List.getElem?_cons_succ]; exact lE (by simpa using e)
theorem e5:∀ {ks:List AK} {r k l:Nat},(lbs ks r)[k]? = some (some l)→(ks.map AK.isM)[k]? = some true
 | [],_,_,_,e=>by simp [lbs] at e
 | .s :: ks,r,0,i,e=>by simp [lbs] at e
 | .s :: ks,r,k + 1,i,e=>by simp only [lbs,List.getElem?_cons_succ] at e; simp only [List.map,List.getElem?_cons_succ]; exact e5 e
 | .m j :: ks,r,0,i,e=>rfl
 | .m j :: ks,r,k + 1,i,e=>by simp only [lbs,List.getElem?_cons_succ] at e; simp only [List.map,List.getElem?_cons_succ]; exact e5 e
 | .t :: ks,r,0,i,e=>rfl
 | .t :: ks,r,k + 1,i,e=>by simp only [lbs,List.getElem?_cons_succ] at e; simp only [List.map,List.getElem?_cons_succ]; exact e5 e
theorem sf {ks:List AK} {k i:Nat} (h:ks[k]? = some (.m i)):i∈aA ks:=by
 induction ks generalizing k with
 | nil=>simp at h
 | cons x ks ih =>
  cases k with
  | zero=>simp at h; subst h; simp [aA]
  | succ k=>have:=ih (by simpa using h); cases x <;> simp [aA,this]
theorem jS {C:Ctx} {ow:List Bool} {G:Hp} {ρ:DSt} {σ:St} {H:Hp} {pd T:List (D×V)} {ks:List AK} {ds ds':List D} {vs:List V} {fr:Bool} {sd:SpD} {q:D→DSt→Prop} {Q:VK} {E:XK}
 (hn:C.np≤pd.length) (r:R C ow G ρ σ H (T.reverse++pd)) (ha:gP G σ ks ds vs T) (hf:df ks ds ρ=some ds') (nd:(aA ks).Nodup) (hw:∀ i∈aA ks,ow[i]? = some true)
 (h:sd ds' fun d os=>q d (gY ks os ρ))
 (k:∀ d ρ' v G' H',q d ρ'→aF G G'→Kp ow ρ ρ'→(if fr=true then R C ow G' ρ' σ H' ((d,v) :: pd) else R C ow G' ρ' σ H' pd∧Rep G' d v)→Q v H'):aQ (ks.map AK.isM) fr sd vs H Q E:=by
 obtain ⟨O,ro⟩:=r
 have pn:=ro.pn
 obtain ⟨l1,l2,hat⟩:=gf (O:=O) (H:=H) (r:=pd.length) ha hf (fun j x e=>i9 pn e) (fun i hi d e=>by
  obtain ⟨v,h1,h2⟩:=ro.sl i d e; rw [if_pos (hw i hi)] at h2; exact ⟨v,h1,h2⟩)
 let lb:=lbs ks pd.length
 let fin:Nat→Option Nat:=fun l=>(fnd l lb 0).map (2 * ·)
 let fbk:Nat→Option Nat:=fun l=>if l=1 then some (2 * pd.length + 1) else if l % 2=0 then (match lb[l / 2]? with | some o=>o | none=>none) else none
 have uq:=fe (ks:=ks) (r:=pd.length) nd
 have fin_at:∀ (i l:Nat),lb[i]? = some (some l)→fin l=some (2 * i):=fun i l e=>by
  show (fnd l lb 0).map _=_
  rw [rh uq e]; simp
 have fin_of:∀ l l',fin l=some l'→∃ i,l'=2 * i∧lb[i]? = some (some l):=fun l l' e=>by
  change (fnd l lb 0).map _=_ at e
  cases z:fnd l lb 0 with
  | none=>rw [z] at e; cases e
  | some j=>rw [z] at e; cases e; obtain ⟨i,rfl,e2⟩:=qj z; exact ⟨i,by show 2 * (0 + i)=2 * i; omega,e2⟩
 have fin_none:∀ l,(∀ i:Nat,lb[i]?≠some (some l))→fin l=none:=fun l e=>by
  show (fnd l lb 0).map _=_
  rw [jp e]; rfl
 have ri:=ro.into (mu:=ks.map AK.isM) (fin:=fin) (ds:=ds') (vs:=vs) l1 (fun j d e=>by
  obtain ⟨v,h1,h2⟩:=hat j d e
  refine ⟨v,h1,?_⟩
  rcases h2 with ⟨l,h2,h3,h4⟩ | ⟨h2,h3⟩
  ·rw [if_pos h3]; exact ⟨l,h4,fin_at j l h2⟩
  ·rw [if_neg (by rw [h2]; decide)]; exact h3) (fun l l' e=>by
  obtain ⟨i,rfl,e2⟩:=fin_of l l' e
  exact ⟨i,rfl,e5 e2,by have:=(List.getElem?_eq_some_iff.mp (e5 e2)).1; rw [List.length_map] at this; omega⟩)
 refine ⟨_,G,ds',fun d os=>q d (gY ks os ρ),rfl,rfl,⟨_,ri⟩,h,by rw [List.length_map,l1,l2],?_⟩
 intro d ρ2 σ2 v G2 H2 hq z hl hr
 rw [List.length_map] at hl
 rw [f8 hl] at hq
 have out:∀ (pd2 pd3:List (D×V)) (O2:Own),RO ⟨G,H,cw fin O,msV (ks.map AK.isM) vs,0⟩ (ks.map AK.isM) G2 ρ2 σ2 H2 pd2 O2→C.np≤pd3.length →
  (∀ (O3:Own),(∀ a l π,O a=some (l,π)→fin l=none→O3 a=some (l,π)∧H2 a=H a)→(∀ a l l' π,O2 a=some (l',π)→fbk l'=some l→O3 a=some (l,π))→cb G G2→bV G2 H2 O3 pd3) →
  RO C ow G2 (bZ ks ρ2 ρ) σ H2 pd3 (mI fin fbk O O2):=fun pd2 pd3 O2 r2 hn3 hP=>by
  refine ro.out (vs:=vs) r2 ?_ (by rw [fc]; exact ro.len) hn3 ?_ ?_ hP
  ·intro l0 l' l e1 e2
   obtain ⟨i,rfl,e3⟩:=fin_of l0 l' e1
   change (if 2 * i=1 then _ else if 2 * i % 2=0 then _ else _)=_ at e2
   rw [if_neg (by omega),if_pos (by omega),show 2 * i / 2=i by omega,e3] at e2
   exact (Option.some.inj e2).symm
  ·intro i d c e
   rcases e6 e hl with ⟨_,h2⟩ | ⟨k,h1,_⟩
   ·exact h2
   ·exact absurd (hw i (sf h1)) c
  ·intro i d c e
   rcases e6 e hl with ⟨h1,h2⟩ | ⟨j,h1,h2⟩
   ·refine .inl ⟨fin_none _ fun j e=>?_,h2⟩
    rcases cJ e with ⟨z,h3,h4⟩ | ⟨z,h3,h4⟩
    ·exact h1 (by rw [show i=z by omega]; exact h3)
    ·omega
   ·obtain ⟨u,g1,g2⟩:=eD ha h1
    have im:(ks.map AK.isM)[j]? = some true:=by rw [List.getElem?_map,h1]; rfl
    refine .inr ⟨j,u,?_,im,h2,g2,r2.mp j u (kP im g1)⟩
    show (if 2 * j=1 then _ else if 2 * j % 2=0 then _ else _)=_
    rw [if_neg (by omega),if_pos (by omega),show 2 * j / 2=j by omega,lE h1]
 have pdk:∀ (O3:Own),(∀ a l π,O a=some (l,π)→fin l=none→O3 a=some (l,π)∧H2 a=H a)→cb G G2→bV G2 H2 O3 pd:=fun O3 h1 ts =>
  bV.keep ts (fun a j π hj e=>h1 a _ _ e (fin_none _ fun i e=>by
   rcases cJ e with ⟨z,h3,h4⟩ | ⟨z,h3,h4⟩ <;> omega)) (d9 (T:=T.reverse) pn)
 have kp:Kp ow ρ (bZ ks ρ2 ρ):=fun j hj=>fm fun hs=>hj (hw j hs)
 refine k d (bZ ks ρ2 ρ) v G2 H2 hq z kp ?_
 unfold Ret at hr
 split at hr
 ·rename_i c
  rw [if_pos c]
  obtain ⟨O2,r2⟩:=hr
  refine ⟨_,out _ ((d,v) :: pd) O2 r2 (Nat.le_succ_of_le hn) fun O3 h1 h2 ts=>⟨?_,pdk O3 h1 ts⟩⟩
  exact r2.pn.1.keep (fun _ _ z=>z) fun a τ e=>⟨h2 a _ _ _ e (by show (if 2 * 0 + 1=1 then _ else _)=_; rw [if_pos rfl]),rfl⟩
 ·rename_i c
  rw [if_neg c]
  obtain ⟨⟨O2,r2⟩,p⟩:=hr
  exact ⟨⟨_,out _ pd O2 r2 hn fun O3 h1 h2 ts=>pdk O3 h1 ts⟩,p⟩
section
variable {X:Cx} {ow:List Bool} {a b c e tg:Expr} {ma mb mc:ME} {pos p':Pos} {mr:MA} {es:List Expr} {ks:List AK} {x:Str}
def lZ (ks:List AK) (sd:SpD) (m:MA):ME:=fun ρ q=>m ρ fun ds ρ1=>match df ks ds ρ1 with
 | some ds'=>sd ds' fun d os=>q d (gY ks os ρ1)
 | none=>False
theorem sI {k:Nat} {f:Addr} {fd:FuncData} {ps:List Str} {mu:List Bool} {sd:SpD} (F:FnOk X.prog X.w X.K X.mg X.base CX0 k f fd ps (aQ mu false sd)) (hr:Room k X.A) (hg:Gl X x) (hm:X.mg x=some (.ref f)) (hk:PySem.W.keepIn X.K (.ref f)=true) (hb:fX X.K fd ps [])
 (ha:QAk X ow ks (e :: es) mr) (hmu:mu=ks.map AK.isM:=by rfl) (nd:(aA ks).Nodup:=by decide) (hw:∀ i∈aA ks,ow[i]? = some true:=by decide) (hdb:(x == ("__debug__":Str))=false:=by decide)
 (he:starEach (e :: es) X.env=(false,eval e X.env) :: starEach es X.env:=by rfl) (hpl:(backTo pos (starEach es X.env)).any (·.1)=false:=by rfl):QE X ow (.Call (.Name x p') (e :: es) [] pos) (lZ ks sd mr):=by
 obtain ⟨t,p,s⟩:=ha
 subst hmu
 refine ⟨_,l6 F hr hg hm hk hb .nil t7 p hdb he hpl,fun C G ρ σ H pd q Q r hm k=>s C G ρ σ H pd _ _ r hm fun ds ρ' vs T G' H' hq z kp r' p=>?_⟩
 rw [List.append_nil]
 split at hq
 ·rename_i ds' ef
  exact jS (fr:=false) r.np r' p ef nd hw hq fun d ρ2 v G2 H2 hq2 z2 kp2 h2=>by
   rw [if_neg (by decide)] at h2
   exact k d ρ2 v G2 H2 hq2 (z.trans z2) (kp.trans kp2) h2.1 h2.2
 ·exact hq.elim
theorem sU {k:Nat} {f:Addr} {fd:FuncData} {ps:List Str} {mu:List Bool} {sd:SpD} (F:FnOk X.prog X.w X.K X.mg X.base CX0 k f fd ps (aQ mu true sd)) (hr:Room k X.A) (hg:Gl X x) (hm:X.mg x=some (.ref f)) (hk:PySem.W.keepIn X.K (.ref f)=true) (hb:fX X.K fd ps [])
 (ha:QAk X ow ks (e :: es) mr) (hmu:mu=ks.map AK.isM:=by rfl) (nd:(aA ks).Nodup:=by decide) (hw:∀ i∈aA ks,ow[i]? = some true:=by decide) (hdb:(x == ("__debug__":Str))=false:=by decide)
 (he:starEach (e :: es) X.env=(false,eval e X.env) :: starEach es X.env:=by rfl) (hpl:(backTo pos (starEach es X.env)).any (·.1)=false:=by rfl):QF X ow (.Call (.Name x p') (e :: es) [] pos) (lZ ks sd mr):=by
 obtain ⟨t,p,s⟩:=ha
 subst hmu
 refine ⟨_,l6 F hr hg hm hk hb .nil t7 p hdb he hpl,fun C G ρ σ H pd q Q r hm k=>s C G ρ σ H pd _ _ r hm fun ds ρ' vs T G' H' hq z kp r' p=>?_⟩
 rw [List.append_nil]
 split at hq
 ·rename_i ds' ef
  exact jS (fr:=true) r.np r' p ef nd hw hq fun d ρ2 v G2 H2 hq2 z2 kp2 h2=>by
   rw [if_pos rfl] at h2
   exact k d ρ2 v G2 H2 hq2 (z.trans z2) (kp.trans kp2) h2
 ·exact hq.elim
end
theorem RO.grow {C:Ctx} {mu ow:List Bool} {G:Hp} {ds:List D} {vs:List V} {H:Hp} {O:Own} (n:Nat) (h:RO C mu G (ds.map some) (vs.map some) H [] O) (ho:∀ i:Nat,i<ds.length→ow[i]? = mu[i]?) :
 RO C ow G (ds.map some++List.replicate n none) (vs.map some++List.replicate n none) H [] O:=by
 have hl:ds.length=vs.length:=by simpa using h.len
 have up:∀ {α:Type} {l:List α} {i:Nat} {d : α},(l.map some++List.replicate n none)[i]? = some (some d)→i<l.length∧(l.map some)[i]? = some (some d):=fun {α l i d} e=>by
  by_cases c:i<l.length
  ·rw [List.getElem?_append_left (by simpa using c)] at e; exact ⟨c,e⟩
  ·rw [List.getElem?_append_right (by simpa using c)] at e
   rw [List.getElem?_replicate] at e
   split at e <;> cases e
 refine ⟨by simp [hl],h.gh,h.g0,h.gn,h.og,h.cok,h.fr,h.ft,h.al,?_,?_,h.pn,h.np⟩
 ·intro i v e
  have:=h.mp i v e
  rw [List.getElem?_append_left (dC this)]; exact this
 ·intro i d e
  obtain ⟨c,e1⟩:=up e
  obtain ⟨v,h1,h2⟩:=h.sl i d e1
  exact ⟨v,by rw [List.getElem?_append_left (dC h1)]; exact h1,by rw [ho i c]; exact h2⟩
theorem RO.trim {C:Ctx} {mu ow:List Bool} {G:Hp} {ρ:DSt} {σ:St} {H:Hp} {pd:List (D×V)} {O:Own} (h:RO C ow G ρ σ H pd O) (hm:f6 C mu) (ho:∀ i:Nat,i<mu.length→ow[i]? = mu[i]?) :
 RO C mu G (b9 mu.length ρ) (b9 mu.length σ) H pd O:=by
 refine ⟨by rw [cE,cE],h.gh,h.g0,h.gn,h.og,h.cok,h.fr,h.ft,h.al,?_,?_,h.pn,h.np⟩
 ·intro i v e
  exact i8 (lt_of_slot' (hm i v e)) (h.mp i v e)
 ·intro i d e
  obtain ⟨c,e1⟩:=jg e
  obtain ⟨v,h1,h2⟩:=h.sl i d e1
  exact ⟨v,i8 c h1,by rw [← ho i c]; exact h2⟩
where
 lt_of_slot' {l:List Bool} {i:Nat} {x:Bool} (h:l[i]? = some x):i<l.length:=(List.getElem?_eq_some_iff.mp h).1
def iK (mu:List Bool) (q:D→DSt→Prop):EndsD:=⟨fun ρ=>q .non (mus mu ρ),fun d ρ=>q d (mus mu ρ),fun _=>False,fun _=>False⟩
theorem fnD {P:Program} {w:World} {K:PySem.W.Frag} {mg:Str→Option Value} {base:Heap} {x qual:Str} {st:Stmt} {f:Addr} {fd:FuncData} {N ps:List Str} {k:Nat} (F:Fun K x qual st f fd) (S:FnScope N ps (ah st)) (M:Md) (sd:SpD)
 (hl:∀ ds q,sd ds q→ds.length=ps.length) (ho:M.ow.take ps.length=M.mu) (hml:M.mu.length=ps.length)
 (hbody:∀ (cdv:Value) (A:Around) (outer:List Env) (s:Shared) (H:Hp) (E:XK),Room k (A.deeper (envOfC qual (ah st) s.heap.objs.size f cdv)) →
  ∃ m,QSs (jh CX0 P w K mg base N qual (ah st) f cdv A outer s H E).nox M (ce st) m∧∀ ds q,sd ds q→m (iK M.mu q) (ds.map some++List.replicate (N.length - ps.length) none)) :
 FnOk P w K mg base CX0 (k + 1) f fd ps (aQ M.mu M.fr sd):=by
 have hov:∀ i:Nat,i<M.mu.length→M.ow[i]? = M.mu[i]?:=fun i hi=>by rw [← ho,List.getElem?_take_of_lt (by omega)]
 have hlen:∀ vs H Q E,aQ M.mu M.fr sd vs H Q E→vs.length=ps.length:=fun vs H Q E ⟨C,G,ds,q,_,_,⟨O,ro⟩,h1,_,_⟩=>by
  have:=ro.len; simp at this; rw [← this]; exact hl ds q h1
 refine F.ok S hlen fun cdv A outer s H vs Q E hr hsp=>?_
 obtain ⟨m,⟨t,p,ss⟩,hm⟩:=hbody cdv A outer s H E hr
 have hvl:=hlen vs H Q E hsp
 obtain ⟨C,G,ds,q,hnp,hmu,⟨O,ro⟩,hsd,hml2,kk⟩:=hsp
 refine ⟨t,p,?_⟩
 have hmo:f6 C M.mu:=fun i v e=>by rw [hmu] at e; exact (iS e).1
 have r0:R C M.ow G (ds.map some++List.replicate (N.length - ps.length) none) (cS N vs) H []:=by
  unfold cS; rw [hvl]
  exact ⟨O,ro.grow _ fun i hi=>hov i (by omega)⟩
 refine ss C G _ _ H (iK M.mu q) _ hmo hnp r0 (hm ds q hsd) ⟨?_,fun _ _ _ _ h=>h.elim,fun _ _ _ _ h=>h.elim,?_⟩
 ·intro ρ σ G' H' h z ⟨O',r'⟩
  refine kk .non (b9 M.mu.length ρ) (b9 M.mu.length σ) .non G' H' (by rw [cD]; exact h) z (cE _ _) (R.non ⟨O',r'.trim hmo hov⟩)
 ·intro d ρ σ v G' H' h z hr'
  refine kk d (b9 M.mu.length ρ) (b9 M.mu.length σ) v G' H' (by rw [cD]; exact h) z (cE _ _) ?_
  unfold Ret at hr' ⊢
  split at hr'
  ·rename_i c; rw [if_pos c]; obtain ⟨O',r'⟩:=hr'; exact ⟨O',r'.trim hmo hov⟩
  ·rename_i c; rw [if_neg c]; obtain ⟨⟨O',r'⟩,p⟩:=hr'; exact ⟨⟨O',r'.trim hmo hov⟩,p⟩
theorem Seps.mk {G H:Hp} {O:Own} {i:Nat}:∀ {T:List (D×V)} {k:Nat} {π:List Nat},(∀ (j:Nat) x,T[j]? = some x→Sep G H O i x.1 ((k + j) :: π) x.2)→Seps G H O i (T.map (·.1)) k π (T.map (·.2))
 | [],_,_,_=>by simp; rw [Seps]
 | x :: T,k,π,h=>by
  simp only [List.map]; rw [Seps]
  exact ⟨x.2,_,rfl,by simpa using h 0 x rfl,Seps.mk fun j y e=>by rw [show k + 1 + j=k + (j + 1) by omega]; exact h (j + 1) y (by simpa using e)⟩
section
variable {C:Ctx} {ow:List Bool} {G:Hp} {ρ:DSt} {σ:St} {H:Hp} {pd T:List (D×V)} {O:Own}
theorem RO.gather (h:RO C ow G ρ σ H (T.reverse++pd) O) (hn:C.np≤pd.length):∃ O',RO C ow G ρ σ H pd O'∧Seps G H O' (2 * pd.length + 1) (T.map (·.1)) 0 [] (T.map (·.2)):=by
 refine ⟨lab (fun l π=>if l % 2=1∧pd.length≤l / 2 then (2 * pd.length + 1,π++[l / 2 - pd.length]) else (l,π)) O,⟨h.len,h.gh,h.g0,h.gn,?_,h.cok,h.fr,h.ft,h.al,h.mp,?_,?_,hn⟩,?_⟩
 ·intro a m e
  obtain ⟨l,π,e1,rfl⟩:=gz e
  obtain ⟨q1,q2,q3⟩:=h.og a _ e1
  refine ⟨q1,q2,?_⟩
  split
  ·rename_i z
   rcases q3 with q3 | ⟨_,q3⟩
   ·exact .inl q3
   ·rcases h.cok _ _ _ q3 with ⟨k,_,q4,_⟩ | ⟨k,q4,q5⟩
    ·omega
    ·omega
  ·exact q3
 ·intro j e q
  obtain ⟨u,h1,h2⟩:=h.sl j e q
  refine ⟨u,h1,?_⟩
  split at h2
  ·rename_i c; rw [if_pos c]; exact h2.keep (fun _ _ z=>z) fun a τ q=>⟨by rw [bR q,if_neg (by omega)],rfl⟩
  ·rename_i c; rw [if_neg c]; exact h2
 ·exact bV.keep (fun _ _ z=>z) (fun a j π hj q=>⟨by rw [bR q,if_neg (by omega)],rfl⟩) (d9 (T:=T.reverse) h.pn)
 ·refine Seps.mk fun j x e=>?_
  have:=i9 h.pn e
  refine Sep.map (f:=fun π=>π++[0 + j]) (fun _ _ z=>z) (fun _ _=>rfl) x.1 [] x.2 (fun a τ q=>⟨?_,rfl⟩) this
  rw [bR q,if_pos (by omega)]
  rw [show (2 * (pd.length + j) + 1) / 2 - pd.length=0 + j by omega]
theorem RO.newT (h:RO C ow G ρ σ H pd O) {p:Addr} (hp:H p=none) {ds:List D} {vs:List V} (hs:Seps G H O (2 * pd.length + 1) ds 0 [] vs):R C ow (upd G p (.tup vs)) ρ σ (upd H p (.tup vs)) ((.tup ds,.ref p) :: pd)∧aF G (upd G p (.tup vs)):=by
 obtain ⟨r,z⟩:=h.new hp (.tup vs)
 refine ⟨⟨O,r.len,r.gh,r.g0,r.gn,r.og,r.cok,r.fr,r.ft,r.al,r.mp,r.sl,⟨?_,r.pn⟩,Nat.le_succ_of_le r.np⟩,z⟩
 rw [Sep]
 exact ⟨p,vs,rfl,aJ,hs.keep z.ts fun a τ _ q=>⟨q,ar (fun e=>by obtain ⟨_,⟨xs,w⟩,_⟩:=h.og a _ q; rw [e,hp] at w; cases w)⟩⟩
end
def SFm (M:Md) (t:TE) (m:ME):Prop:=∀ (C:Ctx) (G:Hp) (ρ:DSt) (σ:St) (H:Hp) (pd:List (D×V)) (q:D→DSt→Prop) (Q:VK),f6 C M.mu→R C M.ow G ρ σ H pd→m ρ q →
 (∀ d ρ' v G' H',q d ρ'→aF G G'→R C M.ow G' ρ' σ H' ((d,v) :: pd)→Q v H')→t σ H Q
structure QM (X:Cx) (M:Md) (e:Expr) (m:ME):Prop where
 ex:∃ t,PE X e t∧SFm M t m
def SAm (M:Md) (n:Nat) (t:TA) (m:MA):Prop:=∀ (C:Ctx) (G:Hp) (ρ:DSt) (σ:St) (H:Hp) (pd:List (D×V)) (q:List D→DSt→Prop) (Q:List V→Hp→Prop),f6 C M.mu→R C M.ow G ρ σ H pd→m ρ q →
 (∀ (T:List (D×V)) ρ' G' H',q (T.map (·.1)) ρ'→aF G G'→R C M.ow G' ρ' σ H' (T.reverse++pd)→T.length=n→Q (T.map (·.2)) H')→t σ H Q
structure QMs (X:Cx) (M:Md) (es:List Expr) (m:MA):Prop where
 ex:∃ t,PA X es t∧SAm M es.length t m
section
variable {X:Cx} {M:Md} {a b c e:Expr} {ma mb mc:ME} {pos pos':Pos} {mr:MA} {es:List Expr}
theorem QF.qm (h:QF X M.ow e ma):QM X M e ma:=by
 obtain ⟨t,p,s⟩:=h
 exact ⟨_,p,fun C G ρ σ H pd q Q hm r h k=>s C G ρ σ H pd q Q r h fun d ρ' v G' H' hq z kp r'=>k d ρ' v G' H' hq z r'⟩
theorem cz (i:Nat) {x:Str} (ho:M.ow[i]? = some true:=by decide) (hu:M.mu[i]?≠some true:=by decide) (hN:X.N[i]? = some x:=by rfl) (hv:Vis X.env.scope x:=by first | exact Or.inl rfl | exact Or.inr (Or.inl rfl) | exact Or.inr (Or.inr rfl)) (hd:(x == ("__debug__":Str))=false:=by decide)
 (hcd:(x == ("__classdict__":Str))=false:=by decide):QM X M (.Name x pos) (tT i):=⟨_,dS hN hv hd hcd,fun C G ρ σ H pd q Q hm r h k=>by
 unfold tT at h
 split at h
 ·rename_i d e
  obtain ⟨O,ro⟩:=r
  obtain ⟨v,h1,h2⟩:=ro.move e ho (hm.no hu)
  exact ⟨v,h1,k d _ v G H h (aF.refl _) h2⟩
 ·exact h.elim⟩
theorem iM:QMs X M [] nA:=⟨_,dr,fun C G ρ σ H pd q Q hm r h k=>k [] ρ G H h (aF.refl _) r rfl⟩
theorem cC (ha:QM X M e ma) (hr:QMs X M es mr) (hs:starEach (e :: es) X.env=(false,eval e X.env) :: starEach es X.env:=by rfl):QMs X M (e :: es) (eH ma mr):=by
 obtain ⟨t,p,s⟩:=ha; obtain ⟨t2,p2,s2⟩:=hr
 refine ⟨_,bK p p2 hs,fun C G ρ σ H pd q Q hm r h k=>s C G ρ σ H pd _ _ hm r h fun d ρ' v G' H' hq z r'=>?_⟩
 exact s2 C G' ρ' σ H' _ _ _ hm r' hq fun T ρ2 G2 H2 hq2 z2 r2 hn=>k ((d,v) :: T) ρ2 G2 H2 hq2 (z.trans z2) (by simpa using r2) (by simp [hn])
theorem k7 {x1} (h:QMs X M es mr) (hl:es.length≤1000:=by decide):QM X M (.Tuple es x1 pos) (mTup mr):=by
 obtain ⟨t,p,s⟩:=h
 refine ⟨_,qA p,fun C G ρ σ H pd q Q hm r h k=>s C G ρ σ H pd _ _ hm r h fun T ρ' G' H' hq z r' hn=>⟨dH (by simp; omega),fun a ha=>?_⟩⟩
 obtain ⟨O,r'⟩:=r'
 obtain ⟨O2,r2,s2⟩:=r'.gather r.np
 obtain ⟨r3,z3⟩:=r2.newT ha s2
 exact k _ ρ' _ _ _ hq (z.trans z3) r3
theorem bh (h:QM X M e ma) (hf:M.fr=true:=by rfl):QS X M (.Return (some e) pos) (mRet ma):=by
 obtain ⟨t,p,s⟩:=h
 refine ⟨_,pq p,fun C G ρ σ H n D hm hn r h k=>s C G ρ σ H [] _ _ hm r h fun d ρ' v G' H' hq z r'=>k.rt d ρ' σ v G' H' hq z (by unfold Ret; rw [if_pos hf]; exact r')⟩
end
def hX (g:MG) (mt:MT) (me:ME) (ρ0:DSt) (ds:List D) (K:List D→Prop):Prop:=∃ I:Nat→List D→Prop,I 0 [] ∧
 (∀ i d es,ds[i]? = some d→I i es→g d ρ0 fun ρ2=>mt ρ2 fun b ρ3=>if b=true then me ρ3 fun x _=>I (i + 1) (es++[x]) else I (i + 1) es)∧∀ es,I ds.length es→K es
def dJ (k:Nat) (js:List Nat) (ρ:DSt):DSt:=List.replicate k none++js.map fun j=>(ρ[j]?).getD none
def rM (mi:MA) (g:MG) (mt:MT) (me:ME) (k:Nat) (js:List Nat):ME:=fun ρ q=>mi ρ fun ds ρ1=>ds.length≤1000∧hX g mt me (dJ k js ρ1) ds fun es=>imms es=true∧q (.lst es) ρ1
def nX (mi:MA) (g:MG) (mt:MT) (me:ME) (k:Nat) (js:List Nat):ME:=fun ρ q=>mi ρ fun ds ρ1=>ds.length≤1000∧hX g mt me (dJ k js ρ1) ds fun es=>q (.lst es) ρ1
structure QIf (X:Cx) (ow:List Bool) (ifs:List Expr) (m:MT):Prop where
 ex:∃ t,PIf X ifs t∧STe ow t m
theorem bS {X:Cx} {ow:List Bool}:QIf X ow [] (oo true):=⟨_,tF,nQ true⟩
theorem jc {X:Cx} {ow:List Bool} {c:Expr} {mt:MT} (h:QT X ow c mt):QIf X ow [c] mt:=by obtain ⟨t,p,s⟩:=h; exact ⟨_,s_ p,s⟩
section
variable {C:Ctx} {ow:List Bool} {G:Hp} {ρ:DSt} {σ:St} {H:Hp} {pd:List (D×V)} {O:Own}
theorem RO.inner (h:RO C ow G ρ σ H pd O) (own:List Str) (js:List Nat) (hj:∀ j∈js,ow[j]?≠some true) :
 RO ⟨G,H,cw (fun _=>none) O,[],0⟩ [] G (dJ own.length js ρ) (bM own js σ) H [] (cw (fun _=>none) O):=by
 have no:∀ a,cw (fun _=>none) O a=none:=fun a=>by unfold cw; cases O a <;> rfl
 refine ⟨by simp [dJ,bM],h.gh,fun _ _ e=>e,fun _ _ e=>.inl e,fun a l e=>?_,fun a l π e=>?_,fun _ _ e _ _=>e,h.ft,fun _ e=>e,fun i v e=>by simp at e,?_,trivial,Nat.le_refl _⟩
 ·rw [no] at e; cases e
 ·exact absurd (e.symm.trans (no a)) (by simp)
 ·intro i d e
  unfold dJ at e
  by_cases c:i<own.length
  ·rw [List.getElem?_append_left (by simpa using c),List.getElem?_replicate] at e
   split at e <;> cases e
  ·rw [List.getElem?_append_right (by simpa using c),List.getElem?_map] at e
   simp only [List.length_replicate] at e
   cases z:js[i - own.length]? with
   | none=>rw [z] at e; cases e
   | some j =>
    rw [z] at e
    have e':(ρ[j]?).getD none=some d:=Option.some.inj e
    have e2 : ρ[j]? = some (some d):=by
     cases w : ρ[j]? with
     | none=>rw [w] at e'; cases e'
     | some o=>rw [w] at e'; exact congrArg some e'
    obtain ⟨v,h1,h2⟩:=h.sl j d e2
    rw [if_neg (hj j (List.mem_of_getElem? z))] at h2
    refine ⟨v,?_,by simpa using h2⟩
    unfold bM
    rw [List.getElem?_append_right (by simpa using c),List.getElem?_map]
    simp only [List.length_map]
    rw [z,show (some j).map _=some ((σ[j]?).getD none) from rfl,h1]; rfl
end
theorem RO.back {C:Ctx} {ow:List Bool} {G G':Hp} {ρ0 ρ2:DSt} {σ0 σ2:St} {H H':Hp} {pd:List (D×V)} {O O':Own} (h0:RO C ow G ρ0 σ0 H pd O) (hn:∀ i:Nat,ow[i]?≠some true) (h:RO C ow G' ρ2 σ2 H' pd O') (z:aF G G'):RO C ow G' ρ0 σ0 H' pd O' :=
 ⟨h0.len,h.gh,h.g0,h.gn,h.og,h.cok,h.fr,h.ft,h.al,h0.mp,fun i d e=>by
  obtain ⟨v,h1,h2⟩:=h0.sl i d e
  rw [if_neg (hn i)] at h2
  exact ⟨v,h1,by rw [if_neg (hn i)]; exact h2.mono z⟩,h.pn,h.np⟩
theorem gL {ow:List Bool} {J:It} {g:TG} {mg:MG} {tt:TT} {mt:MT} {te:TE} {me:ME} {C:Ctx} {G:Hp} {ρ:DSt} {σ:St} {H:Hp} {pd:List (D×V)} {ds:List D} {own:List Str} {js:List Nat} {K:List D→Prop} {Z:List V→Hp→Prop}
 (r:R C ow G ρ σ H pd) (hj:∀ j∈js,ow[j]?≠some true) (jo:iy J G ds) (sg:SG ⟨[],[],false⟩ g mg) (st:STe [] tt mt) (se:SE [] te me) (hk:∀ x H k,g x (bM own js σ) H k→g x (bM own js σ) H fun σ2 H2=>kept (bM own js σ) σ2∧k σ2 H2)
 (hl:ds.length≤1000) (h:hX mg mt me (dJ own.length js ρ) ds K)
 (k:∀ es vs G' H',K es→aF G G'→R C ow G' ρ σ H' pd→Reps G' es vs→vs.length≤1000→Z vs H'):li J g tt te (bM own js σ) H Z:=by
 obtain ⟨O,ro⟩:=r
 have ri:=ro.inner own js hj
 obtain ⟨I,i0,turn,fin⟩:=h
 have nt:∀ i:Nat,([]:List Bool)[i]?≠some true:=fun i=>by simp
 let C1:Ctx:=⟨G,H,cw (fun _=>none) O,[],0⟩
 have fnone:cw (fun _=>none) O=fun _=>none:=by funext a; unfold cw; cases O a <;> rfl
 refine ⟨fun i m acc H'=>m=ds.length - i∧i≤ds.length∧acc.length≤i∧∃ G' es,aF G G'∧R C1 [] G' (dJ own.length js ρ) (bM own js σ) H' []∧Reps G' es acc∧I i es,⟨_,rfl,Nat.zero_le _,Nat.le_refl _,G,[],aF.refl _,⟨_,ri⟩,bg,i0⟩,?_⟩
 rintro i m acc H' ⟨rfl,hi,ha,G',es,z,r',pa,w⟩
 obtain ⟨sp,go⟩:=jo C1 [] G' _ _ H' [] i z r'
 by_cases hlt:i<ds.length
 ·obtain ⟨g1,g2⟩:=go ds[i] (List.getElem?_eq_getElem hlt)
  refine .inr ⟨g1,dg (by omega),fun acc' H2=>acc'.length≤i + 1∧∃ G2 es2,aF G G2∧R C1 [] G2 (dJ own.length js ρ) (bM own js σ) H2 []∧Reps G2 es2 acc'∧I (i + 1) es2,fun acc' H2 h=>⟨ds.length - (i + 1),by omega,rfl,hlt,h.1,h.2⟩,fun x H1 hy=>hk _ _ _ ?_⟩
  obtain ⟨G1,z1,r1,p1⟩:=g2 x H1 hy
  refine sg C1 G1 _ _ H1 [] ds[i] x _ _ (fun i v e=>by simp [C1] at e) r1 p1 (turn i ds[i] es (List.getElem?_eq_getElem hlt) w) fun ρ2 σ2 h2 r2=>?_
  refine st C1 G1 ρ2 σ2 H1 [] _ _ r2 h2 fun b ρ3 G3 H3 h3 z3 kp3 r3=>?_
  have bk:∀ {G4:Hp} {ρ4:DSt} {H4:Hp},aF G3 G4→R C1 [] G4 ρ4 σ2 H4 []→R C1 [] G4 (dJ own.length js ρ) (bM own js σ) H4 []:=fun z4 ⟨O4,r4⟩=>by
   obtain ⟨O1,r1'⟩:=r1
   exact ⟨_,r1'.back nt r4 (z3.trans z4)⟩
  cases b with
  | true =>
   rw [if_pos rfl] at h3 ⊢
   refine se C1 G3 ρ3 σ2 H3 [] _ _ r3 h3 fun d ρ4 v G4 H4 h4 z4 kp4 r4 p4=>?_
   exact ⟨by simp; omega,G4,es++[d],z.trans (z1.trans (z3.trans z4)),bk z4 r4,fo (Reps.mono (z1.trans (z3.trans z4)) _ _ pa) (bb p4 bg),h4⟩
  | false =>
   rw [if_neg (by decide)] at h3 ⊢
   exact ⟨by omega,G3,es,z.trans (z1.trans z3),bk (aF.refl _) r3,Reps.mono (z1.trans z3) _ _ pa,h3⟩
 ·have e:i=ds.length:=by omega
  subst e
  refine .inl ⟨sp (Nat.le_refl _),dH (by omega),?_⟩
  obtain ⟨O2,r2⟩:=r'
  refine k es acc G' H' (fin es w) z ⟨mI (fun _=>none) (fun _=>none) O O2,?_⟩ pa (by omega)
  refine ro.out (vs:=[]) r2 (fun _ _ _ e=>by cases e) ro.len ro.np (fun i d _ e=>e) (fun i d _ e=>.inl ⟨rfl,e⟩) fun O3 h1 h2 ts=>?_
  exact bV.keep ts (fun a j π hj e=>h1 a _ _ e rfl) ro.pn
section
variable {X:Cx} {ow:List Bool} {elt tg iter:Expr} {ifs:List Expr} {pos:Pos} {mi:MA} {mg:MG} {mt:MT} {me:ME} {scope:Scope} {cl:List (Str×Addr)}
def t8 (n:Nat) (g:TG):Prop:=∀ (σ0:St),(∀ i,i<n→σ0[i]? = some none)→∀ σ x H k,kept σ0 σ→g x σ H k→g x σ H fun σ2 H2=>kept σ0 σ2∧k σ2 H2
theorem fi:∀ {a b:St} {i:Nat} {v:V},kept a b→a[i]? = some none→kept a (b.set i (some v))
 | [],[],i,v,h,e=>by simp at e
 | none :: r,y :: r',0,v,h,e=>h
 | none :: r,y :: r',i + 1,v,h,e=>by simp only [List.set_cons_succ]; exact fi (a:=r) (b:=r') h (by simpa using e)
 | some w :: r,y :: r',0,v,h,e=>by simp at e
 | some w :: r,y :: r',i + 1,v,h,e=>by simp only [List.set_cons_succ]; exact ⟨h.1,fi (a:=r) (b:=r') h.2 (by simpa using e)⟩
 | [],_ :: _,_,_,h,_=>h.elim
 | none :: _,[],_,_,h,_=>h.elim
 | some _ :: _,[],_,_,h,_=>h.elim
theorem dl:∀ (a:St),kept a a
 | []=>trivial
 | none :: r=>dl r
 | some v :: r=>⟨rfl,dl r⟩
def MonG (g:TG):Prop:=∀ x σ H (k k':St→Hp→Prop),(∀ σ2 H2,k σ2 H2→k' σ2 H2)→g x σ H k→g x σ H k'
structure CG (n:Nat) (g:TG) (m:MG):Prop where
 sg:SG ⟨[],[],false⟩ g m
 kp:t8 n g
 mn:MonG g
theorem bE {n:Nat} (i:Nat) (h:i<n:=by decide):CG n (gw i) (fN i) :=
 ⟨fun C G ρ σ H pd d v k K hm r p h kk=>by obtain ⟨O,r⟩:=r; exact kk _ _ h ⟨O,r.setS (by simp) (fun v e=>by have:=hm i v e; simp at this) p⟩,
  fun σ0 h0 σ x H k hk hg=>⟨fi hk (h0 i h),hg⟩,fun x σ H k k' hk h=>hk _ _ h⟩
def rE (ow:List Bool) (m:ME):TE:=fun σ H Q=>∃ (C:Ctx) (G:Hp) (ρ:DSt) (pd:List (D×V)) (q:D→DSt→Prop),R C ow G ρ σ H pd∧m ρ q∧∀ d ρ' v G' H',q d ρ'→aF G G'→Kp ow ρ ρ'→R C ow G' ρ' σ H' pd→Rep G' d v→Q v H'
def p6 (ow:List Bool) (m:MT):TT:=fun σ H Q=>∃ (C:Ctx) (G:Hp) (ρ:DSt) (pd:List (D×V)) (q:Bool→DSt→Prop),R C ow G ρ σ H pd∧m ρ q∧∀ d ρ' G' H',q d ρ'→aF G G'→Kp ow ρ ρ'→R C ow G' ρ' σ H' pd→Q d H'
theorem kE {ow:List Bool} {m:ME}:SE ow (rE ow m) m:=fun C G ρ σ H pd q Q r h k=>⟨C,G,ρ,pd,q,r,h,k⟩
theorem kY {ow:List Bool} {m:MT}:STe ow (p6 ow m) m:=fun C G ρ σ H pd q Q r h k=>⟨C,G,ρ,pd,q,r,h,k⟩
theorem QE.can {X:Cx} {ow:List Bool} {e:Expr} {m:ME} (h:QE X ow e m):PE X e (rE ow m):=by
 obtain ⟨t,p,s⟩:=h
 exact ⟨fun pins s' σ H Q I ⟨C,G,ρ,pd,q,r,h,k⟩=>p.go pins s' σ H Q I (s C G ρ σ H pd q Q r h k)⟩
theorem QIf.can {X:Cx} {ow:List Bool} {e:List Expr} {m:MT} (h:QIf X ow e m):PIf X e (p6 ow m):=by
 obtain ⟨t,p,s⟩:=h
 exact ⟨fun pins s' σ H Q I ⟨C,G,ρ,pd,q,r,h,k⟩=>p.go pins s' σ H Q I (s C G ρ σ H pd q Q r h k)⟩
theorem fP {own:List Str} {js:List Nat} {σ:St}:∀ i,i<own.length→(bM own js σ)[i]? = some none:=fun i h=>by
 unfold bM
 rw [List.getElem?_append_left (by simpa using h),List.getElem?_map,List.getElem?_eq_getElem h]; rfl
theorem lM {ow:List Bool} {wi:TI} {g:TG} {own:List Str} {js:List Nat} (si:SI ow wi mi) (cg:CG own.length g mg) (hj:∀ j∈js,ow[j]?≠some true):SF ow (jx wi g (p6 [] mt) (rE [] me) own js) (rM mi mg mt me own.length js):=fun C G ρ σ H pd q Q r h k =>
 si C G ρ σ H pd _ _ r h fun ds ρ' G' H' J hq z kp r' jo=>by
  refine gL r' hj jo cg.sg kY kE (fun x H k hg=>cg.kp _ fP _ x H k (dl _) hg) hq.1 hq.2 fun es vs G2 H2 hK z2 r2 p2 hl p hp=>?_
  obtain ⟨O2,r2⟩:=r2
  exact k _ ρ' _ _ _ hK.2 (z.trans z2) kp (r2.newL hp hK.1 p2)
theorem tp {ow:List Bool} {wi:TI} {g:TG} {own:List Str} {js:List Nat} (si:SI ow wi mi) (cg:CG own.length g mg) (hj:∀ j∈js,ow[j]?≠some true):SE ow (jx wi g (p6 [] mt) (rE [] me) own js) (nX mi mg mt me own.length js):=fun C G ρ σ H pd q Q r h k =>
 si C G ρ σ H pd _ _ r h fun ds ρ' G' H' J hq z kp r' jo=>by
  refine gL r' hj jo cg.sg kY kE (fun x H k hg=>cg.kp _ fP _ x H k (dl _) hg) hq.1 hq.2 fun es vs G2 H2 hK z2 r2 p2 hl p hp=>?_
  obtain ⟨O2,r2⟩:=r2
  obtain ⟨r3,z3⟩:=r2.new hp (.lst vs)
  exact k _ ρ' _ _ _ hK (z.trans (z2.trans z3)) kp ⟨O2,r3⟩ (fq aJ (Reps.mono z3 _ _ p2))
structure CInn (X:Cx) (tg:Expr) (ifs:List Expr) (elt:Expr) (g:TG) (mt:MT) (me:ME):Prop where
 pg:PG X tg g
 qi:QIf X [] ifs mt
 qe:QE X [] elt me
theorem iE {g:TG} (own:List Str) (js:List Nat) (c:CompOk X scope cl own js) (hc:X.calm=true) (hi:QI X ow tg iter mi) (cg:CG own.length g mg)
 (inner:∀ (C:Addr) (s₀:Shared) (H₀:Hp) (ex:List Addr),CInn (bo X scope cl (cO X own js) C s₀ H₀ ex) tg ifs elt g mt me) (hj:∀ j∈js,ow[j]?≠some true:=by decide)
 (hs:∀ x,foldedSetIterable iter X.env x=pure x:=by intro _; rfl):QF X ow (.ListComp elt [⟨tg,iter,ifs,0⟩] scope pos) (rM mi mg mt me own.length js):=by
 obtain ⟨wi,pi,si⟩:=hi
 exact ⟨_,lw own js c hc pi (fun C s₀ H₀ ex=>⟨(inner C s₀ H₀ ex).pg,(inner C s₀ H₀ ex).qi.can,(inner C s₀ H₀ ex).qe.can⟩) hs,lM si cg hj⟩
theorem cx {g:TG} (own:List Str) (js:List Nat) (c:CompOk X scope cl own js) (hc:X.calm=true) (hi:QI X ow tg iter mi) (cg:CG own.length g mg)
 (inner:∀ (C:Addr) (s₀:Shared) (H₀:Hp) (ex:List Addr),CInn (bo X scope cl (cO X own js) C s₀ H₀ ex) tg ifs elt g mt me) (hj:∀ j∈js,ow[j]?≠some true:=by decide)
 (hs:∀ x,foldedSetIterable iter X.env x=pure x:=by intro _; rfl):QE X ow (.ListComp elt [⟨tg,iter,ifs,0⟩] scope pos) (nX mi mg mt me own.length js):=by
 obtain ⟨wi,pi,si⟩:=hi
 exact ⟨_,lw own js c hc pi (fun C s₀ H₀ ex=>⟨(inner C s₀ H₀ ex).pg,(inner C s₀ H₀ ex).qi.can,(inner C s₀ H₀ ex).qe.can⟩) hs,tp si cg hj⟩
theorem jl {M:Md} {g:TG} {i:Nat} {y:Str} {spos py:Pos} (own:List Str) (js:List Nat) (c:CompOk X scope cl own js) (hc:X.calm=true) (hN:X.N.Nodup) (hy:X.N[i]? = some y) (hx:Loc X.env.scope y) (hi:QI X M.ow tg iter mi) (cg:CG own.length g mg)
 (inner:∀ (C:Addr) (s₀:Shared) (H₀:Hp) (ex:List Addr),CInn (bo X scope cl (cO X own js) C s₀ H₀ ex) tg ifs elt g mt me) (hj:∀ j∈js,M.ow[j]?≠some true:=by decide) (ho:M.ow[i]? = some true:=by decide) (hu:M.mu[i]?≠some true:=by decide)
 (hsw:swapsWith (.ListComp elt [⟨tg,iter,ifs,0⟩] scope pos) (some (.Name y py)) spos.line X.env=pure true:=by rfl)
 (hs:∀ x,foldedSetIterable iter X.env x=pure x:=by intro _; rfl) (hf:X.fn y=true∨X.env.scope.names.lookup y=some .local:=by first | exact .inl rfl | exact .inr rfl | assumption) :
 QS X M (.Assign [.Name y py] (.ListComp elt [⟨tg,iter,ifs,0⟩] scope pos) spos) (my i (rM mi mg mt me own.length js)):=by
 obtain ⟨wi,pi,si⟩:=hi
 exact ⟨_,gm own js c hc hN hy hx pi (fun C s₀ H₀ ex=>⟨(inner C s₀ H₀ ex).pg,(inner C s₀ H₀ ex).qi.can,(inner C s₀ H₀ ex).qe.can⟩) hsw hs hf,i_ (lM si cg hj) ho hu⟩
end
theorem gy {g:MG} {mt:MT} {me:ME} {ρ0:DSt} {ds:List D} {K:List D→Prop} (f:D→Option D)
 (step:∀ (d:D),d∈ds→∀ k:Option D→Prop,k (f d)→g d ρ0 fun ρ2=>mt ρ2 fun b ρ3=>if b=true then me ρ3 fun x _=>k (some x) else k none) (h:K (ds.filterMap f)):hX g mt me ρ0 ds K:=by
 refine ⟨fun i es=>es=(ds.take i).filterMap f,rfl,?_,fun es e=>by rw [e,List.take_length]; exact h⟩
 rintro i d es hd rfl
 have:=step d (List.mem_of_getElem? hd) (fun o=>match o with | some x=>(ds.take i).filterMap f++[x]=(ds.take (i + 1)).filterMap f | none=>(ds.take i).filterMap f=(ds.take (i + 1)).filterMap f) (by
  rw [List.take_add_one,hd]
  simp only [Option.toList,List.filterMap_append]
  cases e:f d with
  | none=>simp [e]
  | some x=>simp [e])
 exact this
theorem eA {g:MG} {me:ME} {ρ0:DSt} {ds:List D} {K:List D→Prop} (f:D→D)
 (step:∀ (d:D),d∈ds→∀ k:D→Prop,k (f d)→g d ρ0 fun ρ2=>me ρ2 fun x _=>k x) (h:K (ds.map f)):hX g (oo true) me ρ0 ds K:=by
 refine ⟨fun i es=>es=(ds.take i).map f,rfl,?_,fun es e=>by rw [e,List.take_length]; exact h⟩
 rintro i d es hd rfl
 have:=step d (List.mem_of_getElem? hd) (fun x=>(ds.take i).map f++[x]=(ds.take (i + 1)).map f) (by
  rw [List.take_add_one,hd]; simp)
 exact this
def km (x:Int):List Int→List Int
 | []=>[x]
 | y :: r=>if x≤y then x :: y :: r else y :: km x r
def cf:List Int→List Int
 | []=>[]
 | x :: r=>km x (cf r)
theorem fQ (x:Int):∀ l:List Int,(km x l).Perm (x :: l)
 | []=>List.Perm.refl _
 | y :: r=>by
  unfold km
  split
  ·exact List.Perm.refl _
  ·exact ((fQ x r).cons y).trans (List.Perm.swap x y r)
theorem cq:∀ l:List Int,(cf l).Perm l
 | []=>List.Perm.refl _
 | x :: r=>(fQ x (cf r)).trans ((cq r).cons x)
theorem fW (x:Int):∀ {l:List Int},l.Pairwise (·≤·)→(km x l).Pairwise (·≤·)
 | [],_=>by simp [km]
 | y :: r,h=>by
  unfold km
  rw [List.pairwise_cons] at h
  split
  ·rename_i c
   refine List.pairwise_cons.mpr ⟨fun z hz=>?_,List.pairwise_cons.mpr h⟩
   rcases List.mem_cons.mp hz with rfl | hz
   ·exact c
   ·exact Int.le_trans c (h.1 z hz)
  ·rename_i c
   refine List.pairwise_cons.mpr ⟨fun z hz=>?_,fW x h.2⟩
   rcases List.mem_cons.mp ((fQ x r).mem_iff.mp hz) with rfl | hz
   ·omega
   ·exact h.1 z hz
theorem fb:∀ l:List Int,(cf l).Pairwise (·≤·)
 | []=>List.Pairwise.nil
 | x :: r=>fW x (fb r)
theorem gQ:∀ {a b:List Int},a.Perm b→a.Pairwise (·≤·)→b.Pairwise (·≤·)→a=b
 | [],b,p,_,_=>(List.Perm.nil_eq p)
 | x :: a,[],p,_,_=>by have:=p.length_eq; simp at this
 | x :: a,y :: b,p,ha,hb=>by
  have hx:x=y:=by
   rw [List.pairwise_cons] at ha hb
   have h1:x∈y :: b:=p.mem_iff.mp (.head _)
   have h2:y∈x :: a:=p.mem_iff.mpr (.head _)
   rcases List.mem_cons.mp h1 with rfl | h1
   ·rfl
   rcases List.mem_cons.mp h2 with h2 | h2
   ·exact h2.symm
   have:=ha.1 y h2
   have:=hb.1 x h1
   omega
  subst hx
  rw [gQ ((List.perm_cons x).mp p) (List.pairwise_cons.mp ha).2 (List.pairwise_cons.mp hb).2]
theorem rB {a b:List Int} (p:a.Perm b) (h:a.Pairwise (·≤·)):a=cf b:=gQ (p.trans (cq b).symm) h (fb b)
theorem g_ (l:List Int):(cf l).length=l.length:=(cq l).length_eq
section
variable {X:Cx}
def ou (K:PySem.W.Frag):List V→Hp→VK→Prop:=fun xs H Q=>∃ (p:Addr) (ns:List Int),xs=[.ref p]∧SqL K H p (ns.map V.int)∧ns.length<64∧∀ l,H l=none→Q (.ref l) (upd H l (.lst ((cf ns).map V.int)))
theorem eQ:bX X (.builtin "sorted") (ou X.K):=by
 intro pins s σ H xs us Q I r h
 obtain ⟨p,ns,rfl,hS,h64,q⟩:=h
 obtain ⟨u,rfl,ru⟩:=cH r
 cases ru
 obtain ⟨its,rv,pl,_⟩:=I.list hS
 have hI:IntsAre its ns:=gt rv
 have hlen:its.length=ns.length:=by have:=rv.length; simp at this; exact this.symm
 refine sorted_ints (l:=p) (vs:=its) (ns:=ns) (isList_of pl) hI (by omega) fun out ns' a1 a2 a3=>?_
 obtain ⟨e,he⟩:=sortedAll_at s.heap its out
 have hl:ns'=cf ns:=rB a2 a3
 subst hl
 refine ⟨.ref (s.heap.objs.size + 1),_,I.laid (a:=s.heap.objs.size + 1) (o:=.lst ((cf ns).map V.int)) (t':=s.toks) (fun _ _ q=>sortedAll_old q) (Nat.le_succ _) ?_,rfl,q _ (I.hok.fresh (Nat.le_succ _))⟩
 refine ⟨Nat.le_of_lt (dg (by rw [List.length_map,g_]; omega)),out.toList,e,er a1,?_⟩
 simpa [seqObj] using he
where
 isList_of {h:Heap} {a:Addr} {its:List Value} (pl:PlainL h a its.toArray):h.IsList a its.toArray:=by
  first | exact pl.isList | exact pl.1 | exact pl
theorem gM {pins:List (Addr×Obj)} {σ:St} {H:Hp} {s:Shared} {p:Addr} {xs:List V} (I:Inv X pins σ H s) (h:SqL X.K H p xs):∃ its:List Value,aN xs its∧s.heap.IsList p its.toArray:=by
 obtain ⟨its,rv,⟨o,n,h1,h2,h3,h4⟩,_⟩:=I.list h
 exact ⟨its,rv,o,h1,h2,n,h4⟩
theorem mT (hc:X.calm=true):bX X (.builtin "sum") (fun xs H Q=>∃ (p:Addr) (ns:List Int),xs=[.ref p]∧SqL X.K H p (ns.map V.int)∧Q (.int ns.sum) H):=by
 intro pins s σ H xs us Q I r h
 obtain ⟨p,ns,rfl,hS,q⟩:=h
 obtain ⟨u,rfl,ru⟩:=cH r
 cases ru
 obtain ⟨its,rv,hl⟩:=gM I hS
 have hI₂:IntsAre its ns:=gt rv
 obtain ⟨ys,hys⟩:=hI₂.allInts.items
 have hlY:s.heap.IsList p (intItems ys):=hys ▸ hl
 refine sum_intListG (I.ok.hd hc) hlY fun hp tk₁ tk₂ kept=>?_
 have eY:ns=ys.toList.map (·.1):=by
  rw [← nums_intItems,← hys]; exact Eq.symm (show numsOf its.toArray.toList=ns from hI₂.numsOf)
 have eS:preSum (numAt ys) ys.size=ns.sum:=by rw [preSum_eq,List.take_of_length_le (by simp),eY]
 rw [eS]
 exact ⟨.int ns.sum,H,I.kept kept,⟨tk₂,rfl⟩,q⟩
theorem jn:∀ {bs:List Bool} {us:List Value},aN (bs.map V.bl) us→LSm.BoolsAre us bs
 | [],us,h=>by cases h; exact .nil
 | b :: bs,us,h=>by
  cases h with
  | cons r1 r2=>cases (show _=Value.bool b from r1); exact .cons b (jn r2)
theorem md (hc:X.calm=true):bX X (.builtin "all") (fun xs H Q=>∃ (p:Addr) (bs:List Bool),xs=[.ref p]∧SqL X.K H p (bs.map V.bl)∧Q (.bl (bs.all id)) H):=by
 intro pins s σ H xs us Q I r h
 obtain ⟨p,bs,rfl,hS,q⟩:=h
 obtain ⟨u,rfl,ru⟩:=cH r
 cases ru
 obtain ⟨its,rv,hl⟩:=gM I hS
 have truths:=jn rv
 have below:p<s.heap.objs.size:=by obtain ⟨_,at_p,_⟩:=hl; exact Heap.lt_size at_p
 refine call_all_walk (wpAny_pyIter_list hl ⟨s.heap.objs.size,[s.heap.objs.size,p],[s.heap.objs.size],its.toArray.size,_,_,fun j=>(bs[j]?).getD true,rfl,Walks.list (A:=X.A.in1) (I.ok.hd hc) _ p (Nat.ne_of_lt below) its.toArray,
  ⟨⟨_,Heap.get?_push_size _ rfl,rfl,rfl⟩,hl.push _⟩,fun j u s₁ Q₁ E₁ at_j want=>?_,fun hp tk₁ kept=>?_⟩)
 ·obtain ⟨b,is_b,rfl⟩:=truths.get j u (by simpa using at_j)
  simp only [is_b,Option.getD_some] at want
  exact wpAny_truthy_bool want
 ·have same:((List.range its.toArray.size).all fun j=>(bs[j]?).getD true)=bs.all id:=by rw [List.size_toArray,truths.length]; exact LSm.range_all bs
  rw [same]
  exact ⟨.bl (bs.all id),H,I.kept (LSm.kept_iter kept),rfl,q⟩
end
theorem cI {G:Hp}:∀ {ns:List Int} {xs:List V},Reps G (ns.map D.int) xs→xs=ns.map V.int
 | [],xs,h=>by rw [List.map_nil,Reps] at h; subst h; rfl
 | n :: r,xs,h=>by rw [List.map_cons,Reps] at h; obtain ⟨v,vs,rfl,h1,h2⟩:=h; rw [aw h1,cI h2]; rfl
theorem fT {G:Hp}:∀ {ns:List Bool} {xs:List V},Reps G (ns.map D.bl) xs→xs=ns.map V.bl
 | [],xs,h=>by rw [List.map_nil,Reps] at h; subst h; rfl
 | n :: r,xs,h=>by rw [List.map_cons,Reps] at h; obtain ⟨v,vs,rfl,h1,h2⟩:=h; rw [bY h1,fT h2]; rfl
def oJ:List D→(List D→Prop)→Prop:=fun ds q=>match ds with
 | [.lst xs]=>∃ ns:List Int,xs=ns.map D.int∧ns.length<64∧q ((cf ns).map D.int)
 | _=>False
theorem nO {K:PySem.W.Frag}:fK (ou K) oJ:=fun G H xs ds q Q s p hf k=>by
 unfold oJ at hf
 split at hf
 ·obtain ⟨v,rfl,p1⟩:=aZ p
  obtain ⟨a,xs,rfl,h1,h2⟩:=aW p1
  obtain ⟨ns,rfl,hl,hq⟩:=hf
  rw [cI h2] at h1
  exact ⟨a,ns,rfl,SqL.of (s _ _ h1),hl,fun l hl=>k _ _ l hq (fG _) hl⟩
 ·exact hf.elim
def fSum:List D→(D→Prop)→Prop:=fun ds q=>match ds with
 | [.lst xs]=>∃ ns:List Int,xs=ns.map D.int∧q (.int ns.sum)
 | _=>False
theorem dSum {K:PySem.W.Frag}:di (fun xs H Q=>∃ (p:Addr) (ns:List Int),xs=[.ref p]∧SqL K H p (ns.map V.int)∧Q (.int ns.sum) H) fSum:=fun G H xs ds q Q s p hf k=>by
 unfold fSum at hf
 split at hf
 ·obtain ⟨v,rfl,p1⟩:=aZ p
  obtain ⟨a,xs,rfl,h1,h2⟩:=aW p1
  obtain ⟨ns,rfl,hq⟩:=hf
  rw [cI h2] at h1
  exact ⟨a,ns,rfl,SqL.of (s _ _ h1),k _ _ hq (a8 _)⟩
 ·exact hf.elim
def fAll:List D→(D→Prop)→Prop:=fun ds q=>match ds with
 | [.lst xs]=>∃ bs:List Bool,xs=bs.map D.bl∧q (.bl (bs.all id))
 | _=>False
theorem dAll {K:PySem.W.Frag}:di (fun xs H Q=>∃ (p:Addr) (bs:List Bool),xs=[.ref p]∧SqL K H p (bs.map V.bl)∧Q (.bl (bs.all id)) H) fAll:=fun G H xs ds q Q s p hf k=>by
 unfold fAll at hf
 split at hf
 ·obtain ⟨v,rfl,p1⟩:=aZ p
  obtain ⟨a,xs,rfl,h1,h2⟩:=aW p1
  obtain ⟨bs,rfl,hq⟩:=hf
  rw [fT h2] at h1
  exact ⟨a,bs,rfl,SqL.of (s _ _ h1),k _ _ hq (ck _)⟩
 ·exact hf.elim
section
variable {C:Ctx} {ow:List Bool} {G:Hp} {ρ:DSt} {σ:St} {H:Hp} {pd:List (D×V)} {O:Own}
end
section
variable {ow:List Bool} {t:TE} {m:ME}
end
section
variable {X:Cx} {M:Md} {a b c e:Expr} {ma mb mc:ME} {pos pos':Pos} {mr:MA} {es:List Expr}
def mSetN (i c:Nat) (mk m:ME):MS:=fun n ρ=>m ρ fun d ρ1=>imm d=true∧match ρ1[i]? with
 | some (some (.tup es))=>match es[c]? with
  | some (.lst _)=>mk ρ1 fun k ρ2=>match ρ2[i]? with
   | some (some (.tup es))=>match es[c]? with
    | some (.lst ds)=>match k with
     | .int j=>match ixN ds.length j with
      | some p=>n.nx (ρ2.set i (some (.tup (es.set c (.lst (ds.set p d))))))
      | none=>False
     | _=>False
    | _=>False
   | _=>False
  | _=>False
 | _=>False
def mPop (i:Nat):ME:=fun ρ q=>match ρ[i]? with
 | some (some (.lst ds))=>match ds[ds.length - 1]? with
  | some d=>imm d=true∧q d (ρ.set i (some (.lst ds.dropLast)))
  | none=>False
 | _=>False
def oW (i:Nat):MS:=fun n ρ=>match ρ[i]? with
 | some (some (.lst _))=>n.nx (ρ.set i (some (.lst [])))
 | _=>False
theorem qk {i:Nat} {x:Str} {apos cpos npos:Pos} (hN:X.N[i]? = some x) (ho:M.ow[i]? = some true:=by decide)
 (hv:Vis X.env.scope x:=by first | exact Or.inl rfl | exact Or.inr (Or.inl rfl) | exact Or.inr (Or.inr rfl)) (hd:(x == ("__debug__":Str))=false:=by decide) (hcd:(x == ("__classdict__":Str))=false:=by decide)
 (hbase:attributeBase (.Name x npos) "clear" X.env (eval (.Name x npos) X.env)=eval (.Name x npos) X.env:=by rfl) (hline:(apos.endLine == cpos.line)=true:=by rfl)
 (hs:swapsWith (.Call (.Attribute (.Name x npos) "clear" apos) [] [] cpos) none pos.line X.env=pure false:=by rfl) :
 QS X M (.Expr (.Call (.Attribute (.Name x npos) "clear" apos) [] [] cpos) pos) (oW i):=by
 refine ⟨_,iz (wt PySem.F.plainAttrs_list PySem.F.slot_list_clear PySem.F.type_list_clear pD (dS hN hv hd hcd) hbase hline) hs,fun C G ρ σ H n D hm hn r h k=>?_⟩
 unfold oW at h
 split at h
 ·rename_i ds e1
  obtain ⟨O,ro⟩:=r
  obtain ⟨a,xs,h1,h2,h3,h4⟩:=ro.write e1 ho
  exact ⟨.ref a,h1,.inl ⟨rfl,xs,SqL.of h2⟩,a,xs,rfl,rfl,h2,k.nx _ _ G _ h (aF.refl _) ⟨O,h4 [] [] (by rw [Seps])⟩⟩
 ·exact h.elim
theorem cN (ns:List Int):imms (ns.map D.int)=true:=by
 induction ns with
 | nil=>rfl
 | cons n r ih=>simp only [List.map,imms,imm,ih]; rfl
end
def mCut (m:MS):MS:=fun n ρ=>∃ I:DSt→Prop,m { n with nx:=I } ρ∧∀ ρ',I ρ'→n.nx ρ'
theorem pv {X:Cx} {M:Md} {st:Stmt} {m:MS} (h:QS X M st m):QS X M st (mCut m):=by
 obtain ⟨t,p,s⟩:=h
 refine ⟨_,p,fun C G ρ σ H n D hm hn r h k=>?_⟩
 obtain ⟨I,h1,h2⟩:=h
 exact s C G ρ σ H _ D hm hn r h1 ⟨fun ρ' σ' G' H' hi=>k.nx ρ' σ' G' H' (h2 ρ' hi),k.bk,k.ct,k.rt⟩
mutual
theorem Sep.strip {G H:Hp} {O O':Own} {i i':Nat} {sfx:List Nat} :
 ∀ (d:D) (π:List Nat) (v:V),(∀ a τ,O a=some (i,(τ++π)++sfx)→O' a=some (i',τ++π))→Sep G H O i d (π++sfx) v→Sep G H O' i' d π v
 | .non,_,_,_,h=>by rw [Sep] at *; exact h
 | .bl b,_,_,_,h=>by rw [Sep] at *; exact h
 | .int n,_,_,_,h=>by rw [Sep] at *; exact h
 | .str x,_,_,_,h=>by rw [Sep] at *; exact h
 | .tup ds,π,v,hO,h=>by
  rw [Sep] at *
  obtain ⟨a,xs,h1,h2,h3⟩:=h
  exact ⟨a,xs,h1,h2,Seps.strip ds 0 π xs (fun a τ=>hO a τ) h3⟩
 | .lst ds,π,v,hO,h=>by
  rw [Sep] at *
  obtain ⟨a,xs,h1,h2,h3,h4⟩:=h
  exact ⟨a,xs,h1,hO a [] h2,h3,Seps.strip ds 0 π xs (fun a τ=>hO a τ) h4⟩
 | .dic ks ds,π,v,hO,h=>by
  rw [Sep] at *
  obtain ⟨a,xs,h1,h2,h3,h5,h4⟩:=h
  exact ⟨a,xs,h1,hO a [] h2,h3,h5,Seps.strip ds 0 π xs (fun a τ=>hO a τ) h4⟩
 | .obj C ks ds,π,v,hO,h=>by
  rw [Sep] at *
  obtain ⟨a,dx,xs,h1,h2,h3,h5,h4⟩:=h
  exact ⟨a,dx,xs,h1,hO a [] h2,h3,h5,Seps.strip ds 0 π xs (fun a τ=>hO a τ) h4⟩
 | .dct,_,_,_,h=>by rw [Sep] at h; exact h.elim
 | .scr _ _,_,_,_,h=>by rw [Sep] at h; exact h.elim
 | .ext _,_,_,_,h=>by rw [Sep] at h; exact h.elim
theorem Seps.strip {G H:Hp} {O O':Own} {i i':Nat} {sfx:List Nat} :
 ∀ (ds:List D) (k:Nat) (π:List Nat) (xs:List V),(∀ a τ,O a=some (i,(τ++π)++sfx)→O' a=some (i',τ++π))→Seps G H O i ds k (π++sfx) xs→Seps G H O' i' ds k π xs
 | [],_,_,_,_,h=>by rw [Seps] at *; exact h
 | d :: ds,k,π,xs,hO,h=>by
  rw [Seps] at *
  obtain ⟨v,vs,h1,h2,h3⟩:=h
  refine ⟨v,vs,h1,Sep.strip d (k :: π) v (fun a τ e=>?_) h2,Seps.strip ds (k + 1) π vs hO h3⟩
  have e' : τ++k :: π=(τ++[k])++π:=by simp
  rw [e'] at e ⊢
  exact hO a (τ++[k]) e
end
section
variable {C:Ctx} {ow:List Bool} {G:Hp} {ρ:DSt} {σ:St} {H:Hp} {pd:List (D×V)} {O:Own}
theorem RO.split {ds:List D} {v:V} (h:RO C ow G ρ σ H ((.tup ds,v) :: pd) O) (hn:C.np≤pd.length):∃ a xs,v = .ref a∧G a=some (.tup xs)∧xs.length=ds.length∧R C ow G ρ σ H (ds.zip xs++pd):=by
 obtain ⟨s,pn⟩:=h.pn
 rw [Sep] at s
 obtain ⟨a,xs,rfl,hG,hs⟩:=s
 have hl:=hs.length
 refine ⟨a,xs,rfl,hG,hl,lab (fun l π=>if l=2 * pd.length + 1 then (2 * (pd.length + (ds.length - 1 - π.getLastD 0)) + 1,π.dropLast) else (l,π)) O,h.len,h.gh,h.g0,h.gn,?_,h.cok,h.fr,h.ft,h.al,h.mp,?_,?_,by simp; omega⟩
 ·intro b m e
  obtain ⟨l,π,e1,rfl⟩:=gz e
  obtain ⟨q1,q2,q3⟩:=h.og b _ e1
  refine ⟨q1,q2,?_⟩
  split
  ·rename_i z
   rcases q3 with q3 | ⟨_,q3⟩
   ·exact .inl q3
   ·rcases h.cok _ _ _ q3 with ⟨k,_,q4,_⟩ | ⟨k,q4,q5⟩
    ·exact absurd (q4.symm.trans z) cL
    ·omega
  ·exact q3
 ·intro j e q
  obtain ⟨u,h1,h2⟩:=h.sl j e q
  refine ⟨u,h1,?_⟩
  split at h2
  ·rename_i c; rw [if_pos c]; exact h2.keep (fun _ _ z=>z) fun a τ q=>⟨by rw [bR q,if_neg cL],rfl⟩
  ·rename_i c; rw [if_neg c]; exact h2
 ·have old:∀ (O':Own),(∀ b j π,j<pd.length→O b=some (2 * j + 1,π)→O' b=some (2 * j + 1,π))→bV G H O' pd:=fun O' hO=>bV.keep (fun _ _ z=>z) (fun b j π hj q=>⟨hO b j π hj q,rfl⟩) pn
  have key:∀ (ds0:List D) (k:Nat) (xs0:List V) (O':Own),k + ds0.length=ds.length→Seps G H O (2 * pd.length + 1) ds0 k [] xs0 →
   (∀ b j π,j<pd.length→O b=some (2 * j + 1,π)→O' b=some (2 * j + 1,π))→(∀ b τ k',O b=some (2 * pd.length + 1,τ++[k'])→O' b=some (2 * (pd.length + (ds.length - 1 - k')) + 1,τ))→bV G H O' (ds0.zip xs0++pd):=by
   intro ds0
   induction ds0 with
   | nil=>intro k xs0 O' _ _ ho _; exact old O' ho
   | cons d0 r ih =>
    intro k xs0 O' hk hh ho hnw
    rw [Seps] at hh
    obtain ⟨w,ws,rfl,w1,w2⟩:=hh
    have hwl:=w2.length
    refine ⟨?_,ih (k + 1) ws O' (by simp at hk; omega) w2 ho hnw⟩
    have e:(List.zip r ws++pd).length=pd.length + (ds.length - 1 - k):=by simp at hk ⊢; omega
    show Sep G H O' (2 * (List.zip r ws++pd).length + 1) d0 [] w
    rw [e]
    exact Sep.strip (sfx:=[k]) d0 [] w (fun b τ q=>by simpa using hnw b τ k (by simpa using q)) w1
  refine key ds 0 xs _ (by omega) hs (fun b j π hj q=>by rw [bR q,if_neg (by omega)]) (fun b τ k' q=>?_)
  rw [bR q,if_pos rfl]
  simp
end
def SGF (M:Md) (g:TGs) (m:MGs):Prop:=∀ (C:Ctx) (G:Hp) (ρ:DSt) (σ:St) (H:Hp) (T pd:List (D×V)) (k:DSt→Prop) (K:St→Hp→Prop),f6 C M.mu→C.np≤pd.length→R C M.ow G ρ σ H (T++pd)→m (T.map (·.1)) ρ k →
 (∀ ρ' σ' G',k ρ'→aF G G'→R C M.ow G' ρ' σ' H pd→K σ' H)→g (T.map (·.2)) σ H K
structure QGF (X:Cx) (M:Md) (e:List Expr) (m:MGs):Prop where
 ex:∃ t,PGs X e t∧SGF M t m
section
variable {X:Cx} {M:Md} {a b c e:Expr} {ma mb mc:ME} {pos pos':Pos} {mr:MA} {es:List Expr} {mgs:MGs}
theorem lL:QGF X M [] oH:=⟨_,lg,fun C G ρ σ H T pd k K hm hn r h kk=>by
 cases T with
 | nil=>exact ⟨rfl,kk _ _ G h (aF.refl _) r⟩
 | cons _ _=>exact h.elim⟩
theorem iJ {i:Nat} {x:Str} (hN:X.N.Nodup) (hi:X.N[i]? = some x) (hx:Loc X.env.scope x) (h2:QGF X M es mgs) (ho:M.ow[i]? = some true:=by decide) (hu:M.mu[i]?≠some true:=by decide) (hf:X.fn x=true∨X.env.scope.names.lookup x=some .local:=by first | exact .inl rfl | exact .inr rfl | assumption)
 (hs:(assignEach (.Name x pos :: es) X.env).map (·.2)=assign (.Name x pos) X.env :: (assignEach es X.env).map (·.2):=by rfl):QGF X M (.Name x pos :: es) (iW (fN i) mgs):=by
 obtain ⟨t2,p2,s2⟩:=h2
 refine ⟨_,gq (bc hN hi hx hf) p2 hs,fun C G ρ σ H T pd k K hm hn r h kk=>?_⟩
 cases T with
 | nil=>exact h.elim
 | cons x T =>
  obtain ⟨O,r⟩:=r
  exact ⟨_,_,rfl,s2 C G _ _ H T pd k K hm hn (r.setO ho (hm.no hu) (by simp; omega)) h kk⟩
theorem rd {i:Nat} {x:Str} (hN:X.N.Nodup) (hi:X.N[i]? = some x) (hx:Loc X.env.scope x) (h2:QGF X M es mgs) (ho:M.ow[i]?≠some true:=by decide) (hu:M.mu[i]?≠some true:=by decide) (hf:X.fn x=true∨X.env.scope.names.lookup x=some .local:=by first | exact .inl rfl | exact .inr rfl | assumption)
 (hs:(assignEach (.Name x pos :: es) X.env).map (·.2)=assign (.Name x pos) X.env :: (assignEach es X.env).map (·.2):=by rfl):QGF X M (.Name x pos :: es) (iW (fN i) mgs):=by
 obtain ⟨t2,p2,s2⟩:=h2
 refine ⟨_,gq (bc hN hi hx hf) p2 hs,fun C G ρ σ H T pd k K hm hn r h kk=>?_⟩
 cases T with
 | nil=>exact h.elim
 | cons x T =>
  obtain ⟨O,r⟩:=r
  obtain ⟨G2,z2,⟨O2,r2⟩,p⟩:=r.share (by simp; omega)
  exact ⟨_,_,rfl,s2 C G2 _ _ H T pd k K hm hn ⟨O2,r2.setS ho (hm.no hu) p⟩ h fun ρ' σ' G' hk z r'=>kk ρ' σ' G' hk (z2.trans z) r'⟩
theorem lN {kk:Nat} {n:Nat} {tpos:Pos} (hc:X.calm=true) (he:QM X M e ma) (hg:QGF X M es mgs) (ht:jX n mgs)
 (hn:(assignEach es X.env).length=n:=by rfl) (hst:(assignEach es X.env).findIdx? (·.1)=none:=by rfl)
 (hs:swapsWithSole [.Tuple es kk tpos] e pos.line X.env=pure false:=by rfl) (hw:swappedStores [.Tuple es kk tpos] e X.env=pure none:=by rfl)
 (h1:(assignEach [.Tuple es kk tpos] X.env).map (·.2)=[assign (.Tuple es kk tpos) X.env]:=by rfl):QS X M (.Assign [.Tuple es kk tpos] e pos) (mAsg ma (uf mgs)):=by
 obtain ⟨t,p,s⟩:=he; obtain ⟨t2,p2,s2⟩:=hg
 refine ⟨_,kK p (q9 hc p2 hn hst) hs hw h1,fun C G ρ σ H n D hm hn r h k=>s C G ρ σ H [] _ _ hm r h fun d ρ' v G' H' hq z r'=>?_⟩
 cases d with
 | tup ds =>
  obtain ⟨O,r'⟩:=r'
  obtain ⟨a,xs,rfl,h1,h2,r2⟩:=r'.split (by rw [hn]; exact Nat.zero_le _)
  have hl:=ht _ _ _ hq
  have e1:(ds.zip xs).map (·.1)=ds:=List.map_fst_zip (by omega)
  have e2:(ds.zip xs).map (·.2)=xs:=List.map_snd_zip (by omega)
  refine ⟨a,xs,rfl,SqT.of (r2.gh _ _ h1),by omega,?_⟩
  have:=s2 C G' ρ' σ H' (ds.zip xs) [] n.nx D.nx hm (by rw [hn]; exact Nat.zero_le _) r2 (by rw [e1]; exact hq) fun ρ3 σ3 G3 h3 z3 r3=>k.nx ρ3 σ3 G3 H' h3 (z.trans z3) r3
  rw [e2] at this
  exact this
 | _=>exact hq.elim
end
def rGetL (K:PySem.W.Frag):V→V→Hp→VK→Prop:=fun x y H Q=>∃ p xs i v,x = .ref p∧y = .int i∧SqL K H p xs∧0≤i∧atI xs i=some v∧Q v H
theorem rj {X:Cx}:PGet X (rGetL X.K):=fun pins s σ H o i ov iv Q I ro ri h=>by
 obtain ⟨p,xs,k,v,rfl,rfl,hS,h0,ha,q⟩:=h
 cases ro
 obtain ⟨t,rfl⟩:=ri
 obtain ⟨its,r,pl,hz⟩:=I.list hS
 obtain ⟨j,h1,h2,h3,h4,h5⟩:=e_ ha
 obtain ⟨w,ew,rw'⟩:=r.get h2
 have hn:=eK
 have hj:k.toNat=j:=by
  rw [seqIndex_of h0 h5] at h1
  exact Option.some.inj h1
 exact wpAny_getItem_list pl.isList h0 (by omega) (by rw [hj]; simpa using ew) ⟨v,H,I,rw',q⟩
section
variable {X:Cx} {M:Md} {a b c e:Expr} {ma mb mc:ME} {pos pos':Pos}
def tR (i:Nat) (mk m:ME):MS:=fun n ρ=>match ρ[i]? with
 | some (some (.lst _))=>mk ρ fun k ρ1=>match k with
  | .int j=>match ρ1[i]? with
   | some (some (.lst ds))=>0≤j∧match atI ds j with
    | some (.int x)=>m ρ1 fun d ρ2=>match d with
     | .int y=>match ρ2[i]? with
      | some (some (.lst ds2))=>match ixN ds2.length j with
       | some p=>n.nx (ρ2.set i (some (.lst (ds2.set p (.int (x + y))))))
       | none=>False
      | _=>False
     | _=>False
    | _=>False
   | _=>False
  | _=>False
 | _=>False
theorem sS {i:Nat} {x:Str} {npos spos:Pos} (hN:X.N[i]? = some x) (he:QE X M.ow e ma) (hk:QE X M.ow b mb) (ho:M.ow[i]? = some true:=by decide)
 (hv:Vis X.env.scope x:=by first | exact Or.inl rfl | exact Or.inr (Or.inl rfl) | exact Or.inr (Or.inr rfl)) (hd:(x == ("__debug__":Str))=false:=by decide) (hcd:(x == ("__classdict__":Str))=false:=by decide)
 (ha:∀ ov iv new,augStore b ov iv new=(do holding [new,ov,iv] (setItem ov iv new); release [new,ov,iv] []; pure .next):=by intros; rfl) :
 QS X M (.AugAssign (.Subscript (.Name x npos) b spos) .Add e pos) (tR i mb ma):=by
 obtain ⟨t,p,s⟩:=he; obtain ⟨t2,p2,s2⟩:=hk
 refine ⟨_,tH (dS hN hv hd hcd) p2 rj p xm jt ha,fun C G ρ σ H n D hm hn r h k=>?_⟩
 unfold tR at h
 split at h
 ·rename_i ds0 e0
  obtain ⟨O0,ro⟩:=r
  obtain ⟨a,xs0,hu,g0,_,_⟩:=ro.write e0 ho
  refine ⟨.ref a,hu,?_⟩
  refine s2 C G ρ σ H [] _ _ ⟨O0,ro⟩ h fun dk ρ1 jv G1 H1 hq1 z1 kp1 r1 pj=>?_
  cases dk with
  | int j =>
   dsimp only at hq1
   split at hq1
   ·rename_i ds1 e1
    obtain ⟨j0,hq1⟩:=hq1
    obtain ⟨O1,r1⟩:=r1
    obtain ⟨a1,xs1,hu1,g1,g2,_⟩:=r1.write e1 ho
    rw [hu] at hu1; cases hu1
    split at hq1
    ·rename_i x ex
     have exx:=ex
     obtain ⟨jj,q1,q2,q3,q4,q5⟩:=e_ ex
     obtain ⟨v,w1,w2⟩:=g2.at q2
     have hv:atI xs1 j=some v:=by
      unfold atI at ex ⊢
      rw [g2.length]
      cases z:ixN ds1.length j with
      | none=>rw [z] at ex; cases ex
      | some j' =>
       have:j'=jj:=by
        have:=(i7 z).1; rw [this] at q1; exact Option.some.inj q1
       subst this; exact w1
     have hv2:v = .int x:=by rw [Sep] at w2; exact w2
     subst hv2
     refine ⟨a,xs1,j,.int x,rfl,aw pj,SqL.of g1,j0,hv,?_⟩
     refine s C G1 ρ1 σ H1 [] _ _ ⟨O1,r1⟩ hq1 fun dy ρ2 yv G2 H2 hq2 z2 kp2 r2 py=>?_
     cases dy with
     | int y =>
      dsimp only at hq2
      split at hq2
      ·rename_i ds2 e2
       split at hq2
       ·rename_i pl e3
        obtain ⟨O2,r2⟩:=r2
        obtain ⟨a2,xs2,f1,f2,f3,f4⟩:=r2.write e2 ho
        rw [hu] at f1; cases f1
        refine ⟨x,y,rfl,aw py,a,xs2,j,pl,rfl,aw pj,f2,by rw [f3.length]; exact e3,?_⟩
        exact k.nx _ _ G2 _ hq2 (z1.trans z2) ⟨O2,f4 _ _ (f3.set (by rw [Sep]))⟩
       ·exact hq2.elim
      ·exact hq2.elim
     | _=>exact hq2.elim
    ·exact hq1.elim
   ·exact hq1.elim
  | _=>exact hq1.elim
 ·exact h.elim
end
def t_ (g:MG) (mt:MT) (me:ME) (ρ0:DSt) (k0:Nat) (ds:List D) (d0:D) (K:List D→D→Prop):Prop:=∃ I:Nat→List D→D→Prop,I 0 [] d0 ∧
 (∀ i x es d,ds[i]? = some x→I i es d→g x (ρ0.set k0 (some d)) fun ρ2=>mt ρ2 fun b ρ3=>if b=true then me ρ3 fun y ρ4=>(match ρ4[k0]? with | some (some d')=>I (i + 1) (es++[y]) d' | _=>False) else match ρ3[k0]? with | some (some d')=>I (i + 1) es d' | _=>False) ∧
 ∀ es d,I ds.length es d→K es d
def pJ (mi:MA) (g:MG) (mt:MT) (me:ME) (k:Nat) (js:List Nat) (j0 k0:Nat):ME:=fun ρ q=>mi ρ fun ds ρ1=>ds.length≤1000∧match ρ1[j0]? with
 | some (some d0)=>t_ g mt me (dJ k js ρ1) k0 ds d0 fun es d=>imms es=true∧q (.lst es) (ρ1.set j0 (some d))
 | _=>False
def owM (k0:Nat):List Bool:=List.replicate k0 false++[true]
theorem eC {k0 i:Nat}:(owM k0)[i]? = some true↔i=k0:=by
 unfold owM
 by_cases h:i<k0
 ·rw [List.getElem?_append_left (by simpa using h),List.getElem?_replicate,if_pos h]
  constructor
  ·intro z; cases z
  ·intro z; omega
 ·rw [List.getElem?_append_right (by simpa using h),List.length_replicate]
  cases e:i - k0 with
  | zero=>simp; omega
  | succ m=>simp; omega
def muM (k0:Nat) (v:V):List (Option V):=List.replicate k0 none++[some v]
theorem lQ {k0 i:Nat} {v w:V} (h:(muM k0 v)[i]? = some (some w)):i=k0∧w=v:=by
 unfold muM at h
 by_cases c:i<k0
 ·rw [List.getElem?_append_left (by simpa using c),List.getElem?_replicate,if_pos c] at h; cases h
 ·rw [List.getElem?_append_right (by simpa using c),List.length_replicate] at h
  cases e:i - k0 with
  | zero=>rw [e] at h; simp at h; exact ⟨by omega,h.symm⟩
  | succ m=>rw [e] at h; simp at h
theorem ux (k0:Nat) (v:V):(muM k0 v)[k0]? = some (some v):=by unfold muM; rw [List.getElem?_append_right (by simp)]; simp
theorem sR {k:Nat} {js:List Nat} {ρ:DSt} {i:Nat} {d:D} (e:(dJ k js ρ)[i]? = some (some d)):k≤i∧∃ j,js[i - k]? = some j∧ρ[j]? = some (some d):=by
 unfold dJ at e
 by_cases c:i<k
 ·rw [List.getElem?_append_left (by simpa using c),List.getElem?_replicate] at e
  split at e <;> cases e
 ·rw [List.getElem?_append_right (by simpa using c),List.getElem?_map] at e
  simp only [List.length_replicate] at e
  refine ⟨by omega,?_⟩
  cases z:js[i - k]? with
  | none=>rw [z] at e; cases e
  | some j =>
   rw [z] at e
   have e':(ρ[j]?).getD none=some d:=Option.some.inj e
   refine ⟨j,rfl,?_⟩
   cases w : ρ[j]? with
   | none=>rw [w] at e'; cases e'
   | some o=>rw [w] at e'; exact congrArg some e'
theorem ll {own:List Str} {js:List Nat} {σ:St} {i j:Nat} {v:V} (hi:own.length≤i) (hj:js[i - own.length]? = some j) (hv : σ[j]? = some (some v)):(bM own js σ)[i]? = some (some v):=by
 unfold bM
 rw [List.getElem?_append_right (by simpa using hi),List.getElem?_map]
 simp only [List.length_map]
 rw [hj,show (some j).map _=some ((σ[j]?).getD none) from rfl,hv]; rfl
structure CGM (k0 n:Nat) (g:TG) (m:MG):Prop where
 sg:SG ⟨owM k0,owM k0,false⟩ g m
 kp:t8 n g
 mn:MonG g
theorem nV {k0 n:Nat} (i:Nat) (h:i<n:=by decide) (hk:n≤k0:=by decide):CGM k0 n (gw i) (fN i) :=
 ⟨fun C G ρ σ H pd d v k K hm r p hh kk=>by
  have hn:(owM k0)[i]?≠some true:=fun z=>by have:=eC.mp z; omega
  obtain ⟨O,r⟩:=r; exact kk _ _ hh ⟨O,r.setS hn (hm.no hn) p⟩,
  fun σ0 h0 σ x H k hk hg=>⟨fi hk (h0 i h),hg⟩,fun x σ H k k' hk h=>hk _ _ h⟩
theorem jK {ow:List Bool} {J:It} {g:TG} {mg:MG} {tt:TT} {mt:MT} {te:TE} {me:ME} {C:Ctx} {G:Hp} {ρ:DSt} {σ:St} {H:Hp} {pd:List (D×V)} {ds:List D} {own:List Str} {js:List Nat} {j0 k0:Nat} {d0:D} {K:List D→D→Prop} {Z:List V→Hp→Prop}
 (r:R C ow G ρ σ H pd) (ho:ow[j0]? = some true) (hk0:own.length≤k0) (hjk:js[k0 - own.length]? = some j0) (hj:∀ (i j:Nat),js[i]? = some j→i≠k0 - own.length→ow[j]?≠some true) (he : ρ[j0]? = some (some d0)) (jo:iy J G ds) (cg:CGM k0 own.length g mg) (st:STe (owM k0) tt mt) (se:SE (owM k0) te me)
 (hl:ds.length≤1000) (h:t_ mg mt me (dJ own.length js ρ) k0 ds d0 K)
 (k:∀ es d vs G' H',K es d→aF G G'→R C ow G' (ρ.set j0 (some d)) σ H' pd→Reps G' es vs→vs.length≤1000→Z vs H'):li J g tt te (bM own js σ) H Z:=by
 obtain ⟨O,ro⟩:=r
 obtain ⟨v0,hv0,sv0⟩:=ro.sl j0 d0 he
 rw [if_pos ho] at sv0
 let fin:Nat→Option Nat:=fun l=>if l=2 * j0 then some (2 * k0) else none
 let fbk:Nat→Option Nat:=fun l=>if l=2 * k0 then some (2 * j0) else none
 let C1:Ctx:=⟨G,H,cw fin O,muM k0 v0,0⟩
 let ρ0:=dJ own.length js ρ
 have s0k:(bM own js σ)[k0]? = some (some v0):=ll hk0 hjk hv0
 have r0l:k0<ρ0.length:=by
  have:k0 - own.length<js.length:=(List.getElem?_eq_some_iff.mp hjk).1
  show k0<(dJ own.length js ρ).length
  unfold dJ; simp; omega
 have fino:∀ l l',fin l=some l'→l=2 * j0∧l'=2 * k0:=fun l l' e=>by
  change (if l=2 * j0 then _ else _)=_ at e
  split at e
  ·rename_i c; exact ⟨c,(Option.some.inj e).symm⟩
  ·cases e
 have finj:fin (2 * j0)=some (2 * k0):=by show (if _ then _ else _)=_; rw [if_pos rfl]
 -- the inner state,by the owned slot's value
 have inner:∀ {G':Hp} {H':Hp} {O':Own} {d:D},aF G G'→aF G' H'→(∀ a o,G' a=some o→G a=some o∨H a=none)→(∀ a l,O' a=some l→G' a=none∧(∃ xs:WrO,H' a=some xs.ho)∧Nw C1 a l.1) →
  (∀ a o,H a=some o→cw fin O a=none→NT o→H' a=some o)→(∀ a ps q,H' a=some (.tbl ps q)→G' a=none)→(∀ a,H' a=none→H a=none)→Sep G' H' O' (2 * k0) d [] v0→RO C1 (owM k0) G' (ρ0.set k0 (some d)) (bM own js σ) H' [] O':=by
  intro G' H' O' d z gh gn og fr ft al sp
  refine ⟨by rw [List.length_set]; show (dJ own.length js ρ).length=_; unfold dJ bM; simp,gh,z,gn,og,?_,fr,ft,al,?_,?_,trivial,Nat.le_refl _⟩
  ·intro a l π e
   obtain ⟨l0,e1,e2⟩:=d7 e
   obtain ⟨_,rfl⟩:=fino _ _ e2
   exact .inl ⟨k0,v0,rfl,ux k0 v0⟩
  ·intro i w e
   obtain ⟨rfl,rfl⟩:=lQ e
   exact s0k
  ·intro i d' e
   rcases dZ e with ⟨rfl,e'⟩ | ⟨hne,e'⟩
   ·cases e'
    exact ⟨v0,s0k,by rw [if_pos (eC.mpr rfl)]; exact sp⟩
   ·obtain ⟨hi,j,h1,h2⟩:=sR e'
    obtain ⟨v,g1,g2⟩:=ro.sl j d' h2
    rw [if_neg (hj _ j h1 (by omega))] at g2
    exact ⟨v,ll hi h1 g1,by rw [if_neg (fun zz=>hne (eC.mp zz))]; exact g2.mono z⟩
 have og1:∀ a l,cw fin O a=some l→G a=none∧(∃ xs:WrO,H a=some xs.ho)∧Nw C1 a l.1:=fun a l e=>by
  obtain ⟨l',π⟩:=l
  obtain ⟨l0,e1,e2⟩:=d7 e
  obtain ⟨q1,q2,_⟩:=ro.og a _ e1
  exact ⟨q1,q2,.inr ⟨π,e⟩⟩
 have cS:R C1 (owM k0) G (ρ0.set k0 (some d0)) (bM own js σ) H []:=⟨_,inner (aF.refl _) ro.gh (fun _ _ e=>.inl e) og1 (fun _ _ e _ _=>e) ro.ft (fun _ e=>e) (sv0.keep (fun _ _ z=>z) fun a τ q=>⟨lU q finj,rfl⟩)⟩
 obtain ⟨I,i0,turn,fini⟩:=h
 have hmu:f6 C1 (owM k0):=fun i v e=>by obtain ⟨rfl,_⟩:=lQ e; exact eC.mpr rfl
 refine ⟨fun i m acc H'=>m=ds.length - i∧i≤ds.length∧acc.length≤i∧∃ G' es d,aF G G'∧R C1 (owM k0) G' (ρ0.set k0 (some d)) (bM own js σ) H' []∧Reps G' es acc∧I i es d,⟨_,rfl,Nat.zero_le _,Nat.le_refl _,G,[],d0,aF.refl _,cS,bg,i0⟩,?_⟩
 rintro i m acc H' ⟨rfl,hi,ha,G',es,d,z,r',pa,w⟩
 obtain ⟨sp,go⟩:=jo C1 (owM k0) G' _ _ H' [] i z r'
 by_cases hlt:i<ds.length
 ·obtain ⟨g1,g2⟩:=go ds[i] (List.getElem?_eq_getElem hlt)
  refine .inr ⟨g1,dg (by omega),fun acc' H2=>acc'.length≤i + 1∧∃ G2 es2 d2,aF G G2∧R C1 (owM k0) G2 (ρ0.set k0 (some d2)) (bM own js σ) H2 []∧Reps G2 es2 acc'∧I (i + 1) es2 d2,fun acc' H2 h=>⟨ds.length - (i + 1),by omega,rfl,hlt,h.1,h.2⟩,fun x H1 hy=>?_⟩
  obtain ⟨G1,z1,r1,p1⟩:=g2 x H1 hy
  have step1:=cg.sg C1 G1 _ _ H1 [] ds[i] x _ (fun σ2 H2=>∃ ρ2,(mt ρ2 fun b ρ3=>if b=true then me ρ3 fun y ρ4=>(match ρ4[k0]? with | some (some d')=>I (i + 1) (es++[y]) d' | _=>False) else match ρ3[k0]? with | some (some d')=>I (i + 1) es d' | _=>False)∧R C1 (owM k0) G1 ρ2 σ2 H2 []) hmu r1 p1 (turn i ds[i] es d (List.getElem?_eq_getElem hlt) w) (fun ρ2 σ2 h2 r2=>⟨ρ2,h2,r2⟩)
  refine cg.mn _ _ _ _ _ ?_ (cg.kp (bM own js σ) fP (bM own js σ) x H1 _ (dl _) step1)
  rintro σ2 H2 ⟨hkp,ρ2,h2,r2⟩
  refine ⟨hkp,st C1 G1 ρ2 σ2 H2 [] _ _ r2 h2 fun b ρ3 G3 H3 h3 z3 kp3 r3=>?_⟩
  have bk:∀ {G4:Hp} {ρ4:DSt} {H4:Hp} {d':D},ρ4[k0]? = some (some d')→R C1 (owM k0) G4 ρ4 σ2 H4 []→R C1 (owM k0) G4 (ρ0.set k0 (some d')) (bM own js σ) H4 []:=fun e4 ⟨O4,r4⟩=>by
   obtain ⟨v,q1,q2⟩:=r4.sl k0 _ e4
   rw [if_pos (eC.mpr rfl)] at q2
   rw [dN hkp k0 v0 s0k] at q1
   cases q1
   exact ⟨O4,inner r4.g0 r4.gh r4.gn r4.og r4.fr r4.ft r4.al q2⟩
  cases b with
  | true =>
   rw [if_pos rfl] at h3 ⊢
   refine se C1 G3 ρ3 σ2 H3 [] _ _ r3 h3 fun y ρ4 v G4 H4 h4 z4 kp4 r4 p4=>?_
   split at h4
   ·rename_i d' e4
    exact ⟨by simp; omega,G4,es++[y],d',z.trans (z1.trans (z3.trans z4)),bk e4 r4,fo (Reps.mono (z1.trans (z3.trans z4)) _ _ pa) (bb p4 bg),h4⟩
   ·exact h4.elim
  | false =>
   rw [if_neg (by decide)] at h3 ⊢
   split at h3
   ·rename_i d' e4
    exact ⟨by omega,G3,es,d',z.trans (z1.trans z3),bk e4 r3,Reps.mono (z1.trans z3) _ _ pa,h3⟩
   ·exact h3.elim
 ·have e:i=ds.length:=by omega
  subst e
  refine .inl ⟨sp (Nat.le_refl _),dH (by omega),?_⟩
  obtain ⟨O2,r2⟩:=r'
  refine k es d acc G' H' (fini es d w) z ⟨mI fin fbk O O2,?_⟩ pa (by omega)
  refine ro.out (vs:=[]) r2 ?_ (by rw [List.length_set]; exact ro.len) ro.np ?_ ?_ fun O3 h1 h2 ts=>?_
  ·intro l0 l' l e1 e2
   obtain ⟨rfl,rfl⟩:=fino _ _ e1
   change (if 2 * k0=2 * k0 then _ else _)=_ at e2
   rw [if_pos rfl] at e2
   exact (Option.some.inj e2).symm
  ·intro i d' c e
   rcases dZ e with ⟨rfl,_⟩ | ⟨_,e'⟩
   ·exact absurd ho c
   ·exact e'
  ·intro i d' c e
   rcases dZ e with ⟨rfl,e'⟩ | ⟨hne,e'⟩
   ·cases e'
    exact .inr ⟨k0,v0,by show (if _ then _ else _)=_; rw [if_pos rfl],eC.mpr rfl,by rw [List.getElem?_set_self r0l],hv0,s0k⟩
   ·exact .inl ⟨by show (if _ then _ else _)=_; rw [if_neg (by omega)],e'⟩
  ·exact bV.keep ts (fun a j π hj e=>h1 a _ _ e (by show (if _ then _ else _)=_; rw [if_neg (by omega)])) ro.pn
section
variable {X:Cx} {ow:List Bool} {elt tg iter:Expr} {ifs:List Expr} {pos:Pos} {mi:MA} {mg:MG} {mt:MT} {me:ME} {scope:Scope} {cl:List (Str×Addr)}
theorem qu {wi:TI} {g:TG} {own:List Str} {js:List Nat} {j0 k0:Nat} (si:SI ow wi mi) (cg:CGM k0 own.length g mg) (ho:ow[j0]? = some true) (hk0:own.length≤k0) (hjk:js[k0 - own.length]? = some j0) (hj:∀ (i j:Nat),js[i]? = some j→i≠k0 - own.length→ow[j]?≠some true) :
 SF ow (jx wi g (p6 (owM k0) mt) (rE (owM k0) me) own js) (pJ mi mg mt me own.length js j0 k0):=fun C G ρ σ H pd q Q r h k =>
 si C G ρ σ H pd _ _ r h fun ds ρ' G' H' J hq z kp r' jo=>by
  obtain ⟨hl,hq⟩:=hq
  split at hq
  ·rename_i d0 e0
   refine jK r' ho hk0 hjk hj e0 jo cg kY kE hl hq fun es d vs G2 H2 hK z2 r2 p2 hl p hp=>?_
   obtain ⟨O2,r2⟩:=r2
   exact k _ _ _ _ _ hK.2 (z.trans z2) (kp.trans fun j hj=>List.getElem?_set_ne (fun (zz:j0=j)=>hj (zz ▸ ho))) (r2.newL hp hK.1 p2)
  ·exact hq.elim
structure CInnM (X:Cx) (k0:Nat) (tg:Expr) (ifs:List Expr) (elt:Expr) (g:TG) (mt:MT) (me:ME):Prop where
 pg:PG X tg g
 qi:QIf X (owM k0) ifs mt
 qe:QE X (owM k0) elt me
end
section
variable {X:Cx} {M:Md} {a b c e:Expr} {ma mb mc:ME} {pos pos' p1 p2 p3:Pos} {te:TE} {j1:Nat} {ow:List Bool}
end
def isW:D→Bool
 | .int _=>true
 | _=>false
def btw (lo hi:Int):D→Bool
 | .int i=>decide (lo≤i)&&decide (i≤hi)
 | _=>false
structure Tree (ps rs:List Int):Prop where
 len:ps.length=rs.length
 lo : 1≤ps.length
 hi:ps.length≤23
 par:∀ (i:Nat) (x:Int),ps[i]? = some x→0≤x∧x≤i
 room:∀ (i:Nat) (x:Int),rs[i]? = some x→1≤x∧x≤1000000
def sJ:SpD:=fun ds q=>∃ d,ds=[d]∧d.isS=false∧q (.bl (isW d)) []
def mJ:SpD:=fun ds q=>∃ d lo hi,ds=[d,.int lo,.int hi]∧d.isS=false∧q (.bl (btw lo hi d)) []
def ut:SpD:=fun ds q=>∃ ps rs,ds=[a_ ps rs]∧Tree ps rs∧q (.bl true) []
def w6:SpD:=fun ds q=>∃ ps rs,ds=[a_ ps rs]∧Tree ps rs∧q .non []
def lA (ns:List Int) (k:Int):Int:=ns.getD k.toNat 0
def lz (K:PySem.W.Frag) (φ:Addr→Prop) (ns:List Int):Prop:=∀ a H,φ a→SqL K H a (ns.map V.int)
def uP (K:PySem.W.Frag):SpD:=fun ds q=>∃ φ ns k,ds=[.scr φ ns,.int k]∧lz K φ ns∧0≤k∧q (.int (lA ns k)) []
def vh (K:PySem.W.Frag):SpD:=fun ds q=>∃ φ ns k,ds=[.scr φ ns,.int k]∧lz K φ ns∧0≤k∧k≤1000∧∀ c m,0≤c→q (au [c,m]) []
def uS:SpD:=fun ds q=>∃ c m many,ds=[au [c,m],.int many]∧0≤c∧0<many∧Sm many∧∀ r c' m',0≤r→r<many→0≤c'→q (.int r) [some (au [c',m'])]
def o4 (K:PySem.W.Frag):SpD:=fun ds q=>∃ φ ns,ds=[.scr φ ns]∧lz K φ ns∧ns.length≤63∧q (.bl true) []
theorem cA {ns:List Int} {k:Int} (h0 : 0≤k) (h1:k<ns.length):atI (ns.map D.int) k=some (.int (ns.getD k.toNat 0)):=by
 have ek:k=((k.toNat:Nat):Int):=by omega
 have hl:k.toNat<ns.length:=by omega
 have:atI (ns.map D.int) ((k.toNat:Nat):Int)=some (.int (ns.getD k.toNat 0)):=d4 (by rw [List.getElem?_map,List.getD_eq_getElem?_getD,List.getElem?_eq_getElem hl]; rfl)
 rw [← ek] at this
 exact this
theorem uB {ns:List Int} {k:Int} (h0 : 0≤k) (h1:k<ns.length):atI ns k=some (ns.getD k.toNat 0):=by
 have ek:k=((k.toNat:Nat):Int):=by omega
 have hl:k.toNat<ns.length:=by omega
 have:atI ns ((k.toNat:Nat):Int)=some (ns.getD k.toNat 0):=d4 (by rw [List.getD_eq_getElem?_getD,List.getElem?_eq_getElem hl]; rfl)
 rw [← ek] at this
 exact this
theorem bn {ds:List D} {k:Int} {d:D} {q:D→Prop} (h:atI ds k=some d) (hq:q d):atD ds k q:=by unfold atD; rw [h]; exact hq
theorem dE {ns:List Int} {i:Nat} {d:D} (h:(ns.map D.int)[i]? = some d):∃ z,ns[i]? = some z∧d = .int z:=by
 rw [List.getElem?_map] at h
 cases e:ns[i]? with
 | none=>rw [e] at h; cases h
 | some z=>rw [e] at h; exact ⟨z,rfl,(Option.some.inj h).symm⟩
theorem eh {lo hi z:Int} (h1:lo≤z) (h2:z≤hi):btw lo hi (.int z)=true:=by show (decide (lo≤z)&&decide (z≤hi))=true; rw [decide_eq_true h1,decide_eq_true h2]; rfl
abbrev cY (ps:List Int) (k:Int):Int:=ps.getD (k - 1).toNat 0
theorem Tree.up {ps rs:List Int} (hT:Tree ps rs) {k:Int} (h0 : 0<k) (h1:k≤ps.length) : 0≤cY ps k∧cY ps k<k:=by
 have hl:(k - 1).toNat<ps.length:=by omega
 have e:ps[(k - 1).toNat]? = some (cY ps k):=by unfold cY; rw [List.getD_eq_getElem?_getD,List.getElem?_eq_getElem hl]; rfl
 have:=hT.par _ _ e
 omega
inductive Up (ps:List Int):Int→List Int→Prop
 | zero:Up ps 0 [0]
 | step {k:Int} {u:List Int} (h : 0<k):Up ps (cY ps k) u→Up ps k (k :: u)
theorem Up.det {ps:List Int} {k:Int} {u:List Int} (h:Up ps k u):∀ {v:List Int},Up ps k v→u=v:=by
 induction h with
 | zero=>intro v h; cases h with | zero=>rfl | step h0 _=>omega
 | step h0 _ ih=>intro v h; cases h with | zero=>omega | step _ h=>rw [ih h]
theorem Up.le {ps rs:List Int} (hT:Tree ps rs) {k:Int} {u:List Int} (h:Up ps k u):k≤ps.length→∀ x∈u,0≤x∧x≤k:=by
 induction h with
 | zero=>intro _ x hx; simp at hx; omega
 | step h0 _ ih =>
  intro h1 x hx
  have hp:=hT.up h0 h1
  rcases List.mem_cons.mp hx with rfl | hx
  ·omega
  ·have:=ih (by omega) x hx; omega
theorem Up.head {ps:List Int} {k:Int} {u:List Int} (h:Up ps k u):k∈u:=by cases h <;> simp
inductive Climb (ps:List Int):Int→Int→List Int→Int→Prop
 | same (a:Int):Climb ps a a [] a
 | left {a b:Int} {w:List Int} {m:Int} (h:b<a):Climb ps b (cY ps a) w m→Climb ps a b (a :: w) m
 | right {a b:Int} {w:List Int} {m:Int} (h:a<b):Climb ps a (cY ps b) w m→Climb ps a b (b :: w) m
theorem Climb.meet {ps rs:List Int} (hT:Tree ps rs) {a b m:Int} {w:List Int} (h:Climb ps a b w m) : 0≤a→0≤b→a≤ps.length→b≤ps.length→∀ {ua ub:List Int},Up ps a ua→Up ps b ub→m∈ua∧m∈ub∧∀ x∈ua,x∈ub→x≤m:=by
 induction h with
 | same a=>intro a0 _ a1 _ ua ub ha hb; have:=ha.det hb; subst this; exact ⟨ha.head,ha.head,fun x hx _=>(ha.le hT a1 x hx).2⟩
 | left hlt hc ih =>
  intro a0 b0 a1 b1 ua ub ha hb
  cases ha with
  | zero=>omega
  | step h0 hu =>
   have hp:=hT.up h0 a1
   obtain ⟨m1,m2,m3⟩:=ih b0 hp.1 b1 (by omega) hb hu
   refine ⟨List.mem_cons_of_mem _ m2,m1,fun x hx hxb=>?_⟩
   rcases List.mem_cons.mp hx with rfl | hx
   ·have:=(hb.le hT b1 _ hxb).2; omega
   ·exact m3 x hxb hx
 | right hlt hc ih =>
  intro a0 b0 a1 b1 ua ub ha hb
  cases hb with
  | zero=>omega
  | step h0 hu =>
   have hp:=hT.up h0 b1
   obtain ⟨m1,m2,m3⟩:=ih a0 hp.1 a1 (by omega) ha hu
   refine ⟨m1,List.mem_cons_of_mem _ m2,fun x hx hxb=>?_⟩
   rcases List.mem_cons.mp hxb with rfl | hxb
   ·have:=(ha.le hT a1 _ hx).2; omega
   ·exact m3 x hx hxb
theorem Climb.low {ps rs:List Int} (hT:Tree ps rs) {a b m:Int} {w:List Int} (h:Climb ps a b w m) : 0≤a→0≤b→a≤ps.length→b≤ps.length→0≤m∧m≤a∧m≤b:=by
 induction h with
 | same a=>intro a0 _ _ _; omega
 | left hlt hc ih=>intro a0 b0 a1 b1; have hp:=hT.up (show 0<_ by omega) a1; have:=ih b0 hp.1 b1 (by omega); omega
 | right hlt hc ih=>intro a0 b0 a1 b1; have hp:=hT.up (show 0<_ by omega) b1; have:=ih a0 hp.1 a1 (by omega); omega
theorem Climb.mem {ps rs:List Int} (hT:Tree ps rs) {a b m:Int} {w:List Int} (h:Climb ps a b w m) : 0≤a→0≤b→a≤ps.length→b≤ps.length→∀ x∈w,0<x∧x≤ps.length:=by
 induction h with
 | same a=>intro _ _ _ _ x hx; cases hx
 | left hlt hc ih =>
  intro a0 b0 a1 b1 x hx
  have hp:=hT.up (show 0<_ by omega) a1
  rcases List.mem_cons.mp hx with rfl | hx
  ·omega
  ·exact ih b0 hp.1 b1 (by omega) x hx
 | right hlt hc ih =>
  intro a0 b0 a1 b1 x hx
  have hp:=hT.up (show 0<_ by omega) b1
  rcases List.mem_cons.mp hx with rfl | hx
  ·omega
  ·exact ih a0 hp.1 a1 (by omega) x hx
theorem Climb.len {ps rs:List Int} (hT:Tree ps rs) {a b m:Int} {w:List Int} (h:Climb ps a b w m) : 0≤a→0≤b→a≤ps.length→b≤ps.length→(w.length:Int)≤a + b:=by
 induction h with
 | same a=>intro _ _ _ _; simp; omega
 | left hlt hc ih=>intro a0 b0 a1 b1; have hp:=hT.up (show 0<_ by omega) a1; have:=ih b0 hp.1 b1 (by omega); simp; omega
 | right hlt hc ih=>intro a0 b0 a1 b1; have hp:=hT.up (show 0<_ by omega) b1; have:=ih a0 hp.1 a1 (by omega); simp; omega
theorem Climb.det {ps:List Int} {a b m:Int} {w:List Int} (h:Climb ps a b w m):∀ {m':Int} {w':List Int},Climb ps a b w' m'→w=w'∧m=m':=by
 induction h with
 | same a=>intro m' w' h; cases h with | same=>exact ⟨rfl,rfl⟩ | left h _=>omega | right h _=>omega
 | left hlt hc ih=>intro m' w' h; cases h with | same=>omega | left _ h=>have:=ih h; exact ⟨by rw [this.1],this.2⟩ | right h _=>omega
 | right hlt hc ih=>intro m' w' h; cases h with | same=>omega | right _ h=>have:=ih h; exact ⟨by rw [this.1],this.2⟩ | left h _=>omega
structure Ends2 (ps:List Int) (a b:Int):Prop where
 a0 : 0≤a
 a1:a≤ps.length
 b0 : 0≤b
 b1:b≤ps.length
 ne:a≠b
def r6:SpD:=fun ds q=>∃ ps rs d,ds=[a_ ps rs,d]∧d.isS=false∧q (.bl (btw 0 ps.length d)) []
def wm:SpD:=fun ds q=>∃ ps rs a b,ds=[a_ ps rs,.int a,.int b]∧Ends2 ps a b∧q (.bl true) []
def kZ:SpD:=fun ds q=>∃ ps rs a b,ds=[a_ ps rs,.int a,.int b]∧Tree ps rs∧Ends2 ps a b∧q .non []
def sX:SpD:=fun ds q=>∃ ps rs a b,ds=[a_ ps rs,.int a,.int b]∧Tree ps rs∧0≤a∧a≤ps.length∧0≤b∧b≤ps.length∧∀ w m,Climb ps a b w m→q (.tup [au (cf w),.int m]) []
def sdWay:SpD:=fun ds q=>∃ ps rs a b,ds=[a_ ps rs,.int a,.int b]∧Tree ps rs∧Ends2 ps a b∧∀ w m,Climb ps a b w m→q (au (cf w)) []
def vv:SpD:=fun ds q=>∃ ps rs a b,ds=[a_ ps rs,.int a,.int b]∧Tree ps rs∧Ends2 ps a b∧∀ w m,Climb ps a b w m→q (.int m) []
def pF (ps w:List Int) (m:Int):List Int:=(cf w).filter fun x=>decide (cY ps x=m)
def w5:SpD:=fun ds q=>∃ ps rs a b,ds=[a_ ps rs,.int a,.int b]∧Tree ps rs∧Ends2 ps a b∧∀ w m,Climb ps a b w m→q (au (pF ps w m)) []
theorem d5 (ps:List Int) (y:Int):D.lst (ps.map D.int++[D.int y])=au (ps++[y]):=by unfold au; rw [List.map_append]; rfl
theorem aL (ps:List Int):(ps.map D.int).length=ps.length:=List.length_map _
def filD (p:Int→Bool):D→Option D
 | .int x=>if p x=true then some (.int x) else none
 | _=>none
theorem hR {p:Int→Bool}:∀ (ns:List Int),(ns.map D.int).filterMap (filD p)=(ns.filter p).map D.int
 | []=>rfl
 | n :: r=>by
  have ih:=hR (p:=p) r
  have e0:filD p (.int n)=if p n=true then some (.int n) else none:=rfl
  cases e:p n with
  | true=>rw [e,if_pos rfl] at e0; rw [List.map_cons,List.filterMap_cons,e0,List.filter_cons_of_pos e,List.map_cons,← ih]
  | false=>rw [e,if_neg (by decide)] at e0; rw [List.map_cons,List.filterMap_cons,e0,List.filter_cons_of_neg (by rw [e]; decide),← ih]
theorem gj {ns:List Int} {d:D} (h:d∈ns.map D.int):∃ x∈ns,d = .int x:=by
 obtain ⟨x,h1,h2⟩:=List.mem_map.mp h
 exact ⟨x,h1,h2.symm⟩
theorem bu (ns:List Int):okD (au ns)=true:=jV ns
theorem eqDi (ns ms:List Int):eqD (au ns) (au ms)=decide (ns=ms):=nT ns ms
def lay:Nat→D→Bool
 | _,.int _=>true
 | _,.bl _=>true
 | _,.non=>true
 | n + 1,.tup ds=>ds.all (lay n)
 | n + 1,.lst ds=>ds.all (lay n)
 | _,_=>false
theorem iL {n:Nat} (ih:∀ d,lay n d=true→(toP d).canLay0=true∧(toP d).depth≤n + 1):∀ ds:List D,ds.all (lay n)=true→PyData.canLayAll0 (toPs ds)=true∧PyData.depthAll (toPs ds)≤n + 1
 | [],_=>by rw [toPs]; simp [PyData.canLayAll0,PyData.depthAll]
 | d :: ds,h=>by
  rw [List.all_cons,Bool.and_eq_true] at h
  have h1:=ih d h.1
  have h2:=iL ih ds h.2
  rw [toPs]
  simp only [PyData.canLayAll0,PyData.depthAll,h1.1,h2.1,Bool.and_self,true_and]
  omega
theorem ky:∀ (n:Nat) (d:D),lay n d=true→(toP d).canLay0=true∧(toP d).depth≤n + 1
 | n,.int _,_=>by rw [toP]; simp [PyData.canLay0,PyData.depth]
 | n,.bl _,_=>by rw [toP]; simp [PyData.canLay0,PyData.depth]
 | n,.non,_=>by rw [toP]; simp [PyData.canLay0,PyData.depth]
 | n + 1,.tup ds,h=>by
  have:=iL (ky n) ds (by simpa [lay] using h)
  rw [toP]; simp only [PyData.canLay0,PyData.depth,this.1,true_and]; omega
 | n + 1,.lst ds,h=>by
  have:=iL (ky n) ds (by simpa [lay] using h)
  rw [toP]; simp only [PyData.canLay0,PyData.depth,this.1,true_and]; omega
 | 0,.tup _,h=>by simp [lay] at h
 | 0,.lst _,h=>by simp [lay] at h
 | n,.str _,h=>by cases n <;> simp [lay] at h
 | n,.dct,h=>by cases n <;> simp [lay] at h
 | n,.dic _ _,h=>by cases n <;> simp [lay] at h
 | n,.obj _ _ _,h=>by cases n <;> simp [lay] at h
 | n,.scr _ _,h=>by cases n <;> simp [lay] at h
 | n,.ext _,h=>by cases n <;> simp [lay] at h
theorem l7 {n:Nat} {d:D} (h:lay n d=true) (hn:n≤60):okD d=true:=by
 have:=ky n d h
 unfold okD SeqAt.shaped
 rw [this.1,Bool.true_and]
 exact decide_eq_true (by omega)
theorem jf {n:Nat} (ih:∀ d,lay n d=true→PyData.eqv (toP d) (toP d)=true):∀ ds:List D,ds.all (lay n)=true→PyData.eqvAll (toPs ds) (toPs ds)=true
 | [],_=>by rw [toPs]; simp [PyData.eqvAll]
 | d :: ds,h=>by
  rw [List.all_cons,Bool.and_eq_true] at h
  rw [toPs,PyData.eqvAll,ih d h.1,jf ih ds h.2]; rfl
theorem gH:∀ (n:Nat) (d:D),lay n d=true→eqD d d=true
 | n,.int _,_=>by unfold eqD; rw [toP,PyData.eqv]; simp
 | n,.bl _,_=>by unfold eqD; rw [toP,PyData.eqv]; simp
 | n,.non,_=>by unfold eqD; rw [toP,PyData.eqv]
 | n + 1,.tup ds,h=>by unfold eqD; rw [toP,PyData.eqv]; exact jf (gH n) ds (by simpa [lay] using h)
 | n + 1,.lst ds,h=>by unfold eqD; rw [toP,PyData.eqv]; exact jf (gH n) ds (by simpa [lay] using h)
 | 0,.tup _,h=>by simp [lay] at h
 | 0,.lst _,h=>by simp [lay] at h
 | n,.str _,h=>by cases n <;> simp [lay] at h
 | n,.dct,h=>by cases n <;> simp [lay] at h
 | n,.dic _ _,h=>by cases n <;> simp [lay] at h
 | n,.obj _ _ _,h=>by cases n <;> simp [lay] at h
 | n,.scr _ _,h=>by cases n <;> simp [lay] at h
 | n,.ext _,h=>by cases n <;> simp [lay] at h
structure Ask where
 one:Int
 other:Int
 size:Int
 worth:Int
def dn (a:Ask):D:=.tup [.int a.one,.int a.other,.int a.size,.int a.worth]
def dR (as:List Ask):D:=.lst (as.map dn)
structure AskOk (ps:List Int) (a:Ask):Prop where
 ends:Ends2 ps a.one a.other
 s0 : 1≤a.size
 s1:a.size≤1000000
 w0 : 1≤a.worth
 w1:a.worth≤1000000000000
structure AsksOk (ps:List Int) (as:List Ask):Prop where
 len:as.length≤30
 ok:∀ a∈as,AskOk ps a
theorem lY {as:List Ask} {i:Nat} {d:D} (h:(as.map dn)[i]? = some d):∃ a,as[i]? = some a∧d=dn a:=by
 rw [List.getElem?_map] at h
 cases e:as[i]? with
 | none=>rw [e] at h; cases h
 | some z=>rw [e] at h; exact ⟨z,rfl,(Option.some.inj h).symm⟩
def ask0:Ask:=⟨0,0,0,0⟩
theorem j8 {as:List Ask} {k:Int} (h0 : 0≤k) (h1:k<as.length):atI (as.map dn) k=some (dn (as.getD k.toNat ask0)):=by
 have ek:k=((k.toNat:Nat):Int):=by omega
 have hl:k.toNat<as.length:=by omega
 have:atI (as.map dn) ((k.toNat:Nat):Int)=some (dn (as.getD k.toNat ask0)):=d4 (by rw [List.getElem?_map,List.getD_eq_getElem?_getD,List.getElem?_eq_getElem hl]; rfl)
 rw [← ek] at this
 exact this
theorem oe {as:List Ask} {k:Nat} (h:k<as.length):as.getD k ask0∈as:=by rw [List.getD_eq_getElem?_getD,List.getElem?_eq_getElem h]; exact List.getElem_mem h
theorem be (as:List Ask):(as.map dn).length=as.length:=List.length_map _
def tG:SpD:=fun ds q=>∃ ps rs a,ds=[a_ ps rs,dn a]∧AskOk ps a∧q (.bl true) []
def kM:SpD:=fun ds q=>∃ ps rs as,ds=[a_ ps rs,dR as]∧Tree ps rs∧AsksOk ps as∧q .non []
def gk (ps:List Int):Nat→Int→Int→List Int
 | 0,_,_=>[]
 | f + 1,a,b=>if b<a then a :: gk ps f b (cY ps a) else if a<b then b :: gk ps f a (cY ps b) else []
def gU (ps:List Int):Nat→Int→Int→Int
 | 0,a,_=>a
 | f + 1,a,b=>if b<a then gU ps f b (cY ps a) else if a<b then gU ps f a (cY ps b) else a
theorem eR {ps rs:List Int} (hT:Tree ps rs):∀ (f:Nat) (a b:Int),(a + b).toNat≤f→0≤a→0≤b→a≤ps.length→b≤ps.length→Climb ps a b (gk ps f a b) (gU ps f a b)
 | 0,a,b,hf,a0,b0,_,_=>by
  have:a=b:=by omega
  subst this
  exact .same a
 | f + 1,a,b,hf,a0,b0,a1,b1=>by
  unfold gk gU
  by_cases h1:b<a
  ·rw [if_pos h1,if_pos h1]
   have hp:=hT.up (show 0<a by omega) a1
   exact .left h1 (eR hT f b _ (by omega) b0 hp.1 b1 (by omega))
  ·rw [if_neg h1,if_neg h1]
   by_cases h2:a<b
   ·rw [if_pos h2,if_pos h2]
    have hp:=hT.up (show 0<b by omega) b1
    exact .right h2 (eR hT f a _ (by omega) a0 hp.1 a1 (by omega))
   ·rw [if_neg h2,if_neg h2]
    have:a=b:=by omega
    subst this
    exact .same a
def mM (ps:List Int) (a b:Int):List Int:=cf (gk ps 100 a b)
def kc (ps:List Int) (a b:Int):Int:=gU ps 100 a b
theorem Climb.way {ps rs:List Int} (hT:Tree ps rs) {a b m:Int} {w:List Int} (h:Climb ps a b w m) (a0 : 0≤a) (b0 : 0≤b) (a1:a≤ps.length) (b1:b≤ps.length):cf w=mM ps a b∧m=kc ps a b:=by
 have hi:=hT.hi
 have:=h.det (eR hT 100 a b (by omega) a0 b0 a1 b1)
 exact ⟨by rw [this.1]; rfl,this.2⟩
theorem lJ {ps rs:List Int} (hT:Tree ps rs) {a b:Int} (a0 : 0≤a) (b0 : 0≤b) (a1:a≤ps.length) (b1:b≤ps.length):∃ w,Climb ps a b w (kc ps a b)∧mM ps a b=cf w:=by
 have hi:=hT.hi
 exact ⟨_,eR hT 100 a b (by omega) a0 b0 a1 b1,rfl⟩
theorem eW {ps rs:List Int} (hT:Tree ps rs) {a b:Int} (he:Ends2 ps a b) {x:Int} (hx:x∈mM ps a b) : 0<x∧x≤ps.length:=by
 obtain ⟨w,hw,e⟩:=lJ hT he.a0 he.b0 he.a1 he.b1
 rw [e] at hx
 exact hw.mem hT he.a0 he.b0 he.a1 he.b1 x ((cq w).mem_iff.mp hx)
def bG (ps:List Int) (a:Ask):List Int:=mM ps a.one a.other
def rR:SpD:=fun ds q=>∃ ps rs a,ds=[a_ ps rs,dn a]∧Tree ps rs∧Ends2 ps a.one a.other∧q (au (bG ps a)) []
def mR (s:Int) (l:List Int) (t:Int):List Int:=l.set (t - 1).toNat (l.getD (t - 1).toNat 0 + s)
def fF (l:List Int) (ts:List Int) (s:Int):List Int:=ts.foldl (mR s) l
theorem qH (s:Int) (l:List Int) (t:Int):(mR s l t).length=l.length:=by unfold mR; simp
theorem gT (s:Int):∀ (ts l:List Int),(fF l ts s).length=l.length
 | [],l=>rfl
 | t :: ts,l=>by show (fF (mR s l t) ts s).length=_; rw [gT s ts,qH]
theorem nb (l ts:List Int) (t s:Int):fF l (ts++[t]) s=mR s (fF l ts s) t:=by unfold fF; rw [List.foldl_append]; rfl
def ld:SpD:=fun ds q=>∃ ps rs a l,ds=[a_ ps rs,dn a,au l]∧Tree ps rs∧Ends2 ps a.one a.other∧l.length=ps.length∧q (au (fF l (bG ps a) a.size)) []
theorem dM (n:Nat) (d:D):(List.replicate n [d]).flatten=List.replicate n d:=by
 induction n with
 | zero=>rfl
 | succ n ih=>rw [List.replicate_succ,List.flatten_cons,ih,List.replicate_succ]; rfl
theorem mQ (n:Nat) (x:Int):List.replicate n (D.int x)=(List.replicate n x).map D.int:=by rw [List.map_replicate]
theorem gg {n:Nat} {k:Int} (h0 : 0≤k) (h1:k<n):ixN n k=some k.toNat:=by unfold ixN; rw [if_pos h0,if_pos h1]
theorem ny (l:List Int) (i:Nat) (x:Int):D.lst ((l.map D.int).set i (.int x))=au (l.set i x):=by unfold au; rw [List.map_set]
section
variable {X:Cx}
end
section
variable {X:Cx} {M:Md} {e:Expr} {ma:ME} {pos:Pos}
end
section
variable {X:Cx}
variable {ow:List Bool} {e:Expr} {ma:ME}
end
section
variable {X:Cx}
variable {ow:List Bool} {e:Expr} {ma:ME} {pos p1 p2 p3:Pos}
end
end L2
namespace L2
open PySem
structure DepOk (ps e:List Int) (n:Nat):Prop where
 len:e.length=n + 1
 up:∀ (k:Int) (u:List Int),0≤k→k≤n→Up ps k u→e.getD k.toNat 0 + 1=u.length
theorem dep0 (ps:List Int):DepOk ps [0] 0:=⟨rfl,fun k u h0 h1 hu=>by
 have:k=0:=by omega
 subst this
 cases hu with
 | zero=>rfl
 | step h _=>omega⟩
theorem rJ {ps rs e:List Int} {i:Nat} {z:Int} (hT:Tree ps rs) (hz:ps[i]? = some z) (h:DepOk ps e i):DepOk ps (e++[e.getD z.toNat 0 + 1]) (i + 1):=by
 have hb:=hT.par i z hz
 have hl:=h.len
 refine ⟨by rw [List.length_append,h.len]; rfl,fun k u h0 h1 hu=>?_⟩
 by_cases hk:k≤i
 ·rw [List.getD_eq_getElem?_getD,List.getElem?_append_left (by omega),← List.getD_eq_getElem?_getD]
  exact h.up k u h0 hk hu
 ·have e1:k.toNat=e.length:=by omega
  rw [List.getD_eq_getElem?_getD,List.getElem?_append_right (by omega),e1,Nat.sub_self]
  show e.getD z.toNat 0 + 1 + 1=_
  cases hu with
  | zero=>omega
  | step hp hu' =>
   have:cY ps k=z:=by
    unfold cY
    rw [List.getD_eq_getElem?_getD,show (k - 1).toNat=i by omega,hz]; rfl
   rw [this] at hu'
   rw [h.up z _ hb.1 hb.2 hu',List.length_cons]; rfl
def nN:SpD:=fun ds q=>∃ ps rs,ds=[a_ ps rs]∧Tree ps rs∧∀ e,DepOk ps e ps.length→q (au e) []
end L2
namespace L2
open PySem PySem.Spec PyProof.Rows
section
variable {prog:Program} {w:World} {A:Around} {E:Value→Shared→Prop} {s:Shared}
end
section
variable {X:Cx} {M:Md} {e:Expr} {es:List Expr} {mgs:MGs} {pos:Pos}
end
section
variable {X:Cx} {M:Md} {pos:Pos}
theorem ja {g:TG} {mg:MG} {mt:MT} {me:ME} {mi:MA} {tg iter elt:Expr} {ifs:List Expr} {scope:Scope} {cl:List (Str×Addr)} {i:Nat} {y:Str} {spos py:Pos} (own:List Str) (js:List Nat) (j0 k0:Nat) (c:CompOk X scope cl own js) (hc:X.calm=true) (hN:X.N.Nodup) (hy:X.N[i]? = some y) (hx:Loc X.env.scope y) (hi:QI X M.ow tg iter mi) (cg:CGM k0 own.length g mg)
 (inner:∀ (C:Addr) (s₀:Shared) (H₀:Hp) (ex:List Addr),CInnM (bo X scope cl (cO X own js) C s₀ H₀ ex) k0 tg ifs elt g mt me) (hoj:M.ow[j0]? = some true:=by decide) (hk0:own.length≤k0:=by decide) (hjk:js[k0 - own.length]? = some j0:=by rfl)
 (hj:(js.mapIdx fun i j=>decide (i=k0 - own.length) || !decide (M.ow[j]? = some true)).all id=true:=by decide) (ho:M.ow[i]? = some true:=by decide) (hu:M.mu[i]?≠some true:=by decide)
 (hsw:swapsWith (.ListComp elt [⟨tg,iter,ifs,0⟩] scope pos) (some (.Name y py)) spos.line X.env=pure true:=by rfl)
 (hs:∀ x,foldedSetIterable iter X.env x=pure x:=by intro _; rfl) (hf:X.fn y=true∨X.env.scope.names.lookup y=some .local:=by first | exact .inl rfl | exact .inr rfl | assumption) :
 QS X M (.Assign [.Name y py] (.ListComp elt [⟨tg,iter,ifs,0⟩] scope pos) spos) (my i (pJ mi mg mt me own.length js j0 k0)):=by
 obtain ⟨wi,pi,si⟩:=hi
 have hj':∀ (i j:Nat),js[i]? = some j→i≠k0 - own.length→M.ow[j]?≠some true:=fun i j e hne z=>by
  rw [List.all_eq_true] at hj
  have:=hj (decide (i=k0 - own.length) || !decide (M.ow[j]? = some true)) (List.mem_of_getElem? (i:=i) (by rw [List.getElem?_mapIdx,e]; rfl))
  simp [hne,z] at this
 exact ⟨_,gm own js c hc hN hy hx pi (fun C s₀ H₀ ex=>⟨(inner C s₀ H₀ ex).pg,(inner C s₀ H₀ ex).qi.can,(inner C s₀ H₀ ex).qe.can⟩) hsw hs hf,i_ (qu si cg hoj hk0 hjk hj') ho hu⟩
end
def Itz (a b:Addr):It :=
 ⟨fun i H=>∃ xs ys x y,H a = some (.lst xs)∧H b = some (.lst ys)∧xs[i]? = some x∧ys[i]? = some y,
  fun i H v H'=>∃ p x y,H p=none∧v = .ref p∧H'=upd H p (.tup [x,y])∧(∀ xs,H a=some (.lst xs)→xs[i]? = some x)∧∀ ys,H b=some (.lst ys)→ys[i]? = some y,
  fun i H=>∃ xs ys,H a=some (.lst xs)∧H b=some (.lst ys)∧(xs.length≤i∨ys.length≤i)⟩
theorem mem5 {c a1 a2 a3 a4 a5:Addr} (h:c∈[a1,a2,a3,a4,a5]):c=a1∨c=a2∨c=a3∨c=a4∨c=a5:=by simpa using h
theorem mem4 {c a1 a2 a3 a4:Addr} (h:c∈[a1,a2,a3,a4]):c=a1∨c=a2∨c=a3∨c=a4:=by simpa using h
theorem ia {c a1 a2 a3 a4:Addr} (h:c ∉ [a1,a2,a3,a4]):c≠a1∧c≠a2∧c≠a3∧c≠a4:=by simpa using h
theorem nd5 {z TI TO i1 i2:Addr} (h : [z,TI,TO,i1,i2].Nodup):(z≠TI∧z≠TO∧z≠i1∧z≠i2)∧(TI≠TO∧TI≠i1∧TI≠i2)∧(TO≠i1∧TO≠i2)∧i1≠i2:=by simpa using h
theorem gc {z TI TO i1 i2:Addr}:z∈[z,TI,TO,i1,i2]∧TI∈[z,TI,TO,i1,i2]∧TO∈[z,TI,TO,i1,i2]∧i1∈[z,TI,TO,i1,i2]∧i2∈[z,TI,TO,i1,i2]:=by simp
structure ZipSt (z TI TO i1 i2 a b:Addr) (i:Nat) (h:Heap):Prop where
 hz:IsZip h z TI TO .none
 ti:IsPair h TI (.ref i1) (.ref i2)
 to:∃ x y,IsPair h TO x y
 t1:h.IsListIter i1 a i
 t2:h.IsListIter i2 b i
theorem nM {P:Program} {w:World} {K:PySem.W.Frag} {es:List Expr} {k:Nat} {pos:Pos} (a b z TI TO i1 i2:Addr) (nd : [z,TI,TO,i1,i2].Nodup) :
 Turn P w K (.Tuple es k pos) (Itz a b) [z,TI,TO,i1,i2] z (ZipSt z TI TO i1 i2 a b) where
 mem:=gc.1
 obj:=fun i h st c hc=>by
  obtain ⟨hz,ti,⟨x,y,to⟩,⟨o1,e1,c1,d1⟩,⟨o2,e2,c2,d2⟩⟩:=st
  rcases mem5 hc with rfl | rfl | rfl | rfl | rfl
  ·exact ⟨_,hz,fun v q=>by cases q⟩
  ·exact ⟨_,ti,fun v q=>by cases q⟩
  ·exact ⟨_,to,fun v q=>by cases q⟩
  ·exact ⟨o1,e1,fun v q=>by rw [d1] at q; cases q⟩
  ·exact ⟨o2,e2,fun v q=>by rw [d2] at q; cases q⟩
 keep:=fun i h h' st kp=>by
  obtain ⟨m1,m2,m3,m4,m5⟩:=gc (z:=z) (TI:=TI) (TO:=TO) (i1:=i1) (i2:=i2)
  obtain ⟨x,y,q⟩:=st.to
  exact ⟨kp z m1 _ st.hz,kp TI m2 _ st.ti,⟨x,y,kp TO m3 _ q⟩,st.t1.at fun o q=>kp i1 m4 o q,st.t2.at fun o q=>kp i2 m5 o q⟩
 item:=by
  intro X hP hw hK hc i pins s σ H E I hf st hg
  subst hP hw hK
  obtain ⟨xs,ys,x,y,hq1,hq2,hx,hy⟩:=hg
  obtain ⟨hz,ti,⟨ox,oy,to⟩,t1,t2⟩:=st
  obtain ⟨its1,rv1,p1,hz1⟩:=I.list (SqL.of hq1)
  obtain ⟨its2,rv2,p2,hz2⟩:=I.list (SqL.of hq2)
  obtain ⟨u,hu,ru⟩:=rv1.get hx
  obtain ⟨v,hv,rv⟩:=rv2.get hy
  obtain ⟨m1,m2,m3,m4,m5⟩:=gc (z:=z) (TI:=TI) (TO:=TO) (i1:=i1) (i2:=i2)
  have fz:=hf z m1; have fO:=hf TO m3; have f1:=hf i1 m4; have f2:=hf i2 m5
  obtain ⟨⟨n1,n2,n3,n4⟩,⟨n5,n6,n7⟩,⟨n8,n9⟩,n10⟩:=nd5 nd
  have la:∀ {c:Addr},H c=none→a≠c:=fun h=>aq hq1 h
  have lb:∀ {c:Addr},H c=none→b≠c:=fun h=>aq hq2 h
  have AP:ZipApart z TI TO i1 i2 a b:=⟨Ne.symm n1,Ne.symm n2,Ne.symm n3,Ne.symm n4,n5,n6,n7,n8,n9,n10,la fz.1,la fO.1,la f1.1,la f2.1,lb fz.1,lb fO.1,lb f1.1,lb f2.1⟩
  refine wpAny_pyNext_zip_item AP hz ti to t1 t2 p1.isList p2.isList (x:=u) (y:=v) (by simpa using hu) (by simpa using hv) fun h' zo to' t1' t2' ht hsz hk=>?_
  refine ⟨.ref s.heap.objs.size,rfl,?_⟩
  refine wpAny_letOwnedTupleGo_zip zo fun h2 he2 hs2=>?_
  have fr:H s.heap.objs.size=none:=I.hok.fresh (Nat.le_refl _)
  have ne2:∀ b,b<s.heap.objs.size→b≠s.heap.objs.size:=fun b hb=>Nat.ne_of_lt hb
  have ee:z<s.heap.objs.size:=Heap.lt_size hz
  have k2:∀ c o,c≠z→c≠TO→c≠i1→c≠i2→s.heap.get? c=some o→h2.get? c=some o:=fun c o c1 c2 c3 c4 q=>(hs2.2 c c1).trans (hk c o c1 c2 c3 c4 q)
  have ht2:h2.get? s.heap.objs.size=some { cls:=.type "tuple",data:=.seq #[u,v] }:=(hs2.2 _ (Nat.ne_of_gt ee)).trans ht
  have trk:∀ c o,H c=some o→c≠z∧c≠TO∧c≠i1∧c≠i2:=fun c o q=>⟨aq q fz.1,aq q fO.1,aq q f1.1,aq q f2.1⟩
  have hok0:HOk X.prog X.w H h2:=fun c o q=>(I.hok c o q).stay (fun d v' hc q'=>by
   rcases hc with rfl | hc
   ·obtain ⟨z1,z2,z3,z4⟩:=trk d _ q; exact k2 d v' z1 z2 z3 z4 q'
   ·obtain ⟨z1,z2,z3,z4⟩:=trk d _ hc; exact k2 d v' z1 z2 z3 z4 q') (fun _ z=>z) (fun _ _ z=>z) fun _ _ _ z=>z
  have I1:Inv X pins σ (upd H s.heap.objs.size (.tup [x,y])) { s with heap:=h2,toks:=s.toks }:=by
   refine I.step (g':=s.gens) (d':=s.drawn) (ch:=[z,TO,i1,i2]) (fun c hc=>?_) (fun c o _ _ hc q _=>by obtain ⟨z1,z2,z3,z4⟩:=ia hc; exact k2 c o z1 z2 z3 z4 q) (fun c o _ _ hc q _=>by obtain ⟨z1,z2,z3,z4⟩:=ia hc; exact ⟨o.slots,k2 c o z1 z2 z3 z4 q⟩)
    (fun c o _ q n=>by rw [ar (ne2 c (Heap.lt_size q))]; exact n) (fun c o hc q=>by obtain ⟨z1,z2,z3,z4⟩:=ia hc; exact ⟨o,k2 c o z1 z2 z3 z4 q⟩) (fun c ys q=>by rw [ar (aq q fr)]; exact q) (fun c o v q=>by rw [ar (aq q fr)]; exact q)
    (fun c ps _ q=>⟨#[],by rw [ar (aq q fr),q]; simp⟩) (fun m hm=>?_) ?_ I.bare
   ·rcases mem4 hc with rfl | rfl | rfl | rfl
    ·exact ⟨fz.2.2.2.1,fz.2.1,fz.2.2.2.2.1,fz.2.2.2.2.2⟩
    ·exact ⟨fO.2.2.2.1,fO.2.1,fO.2.2.2.2.1,fO.2.2.2.2.2⟩
    ·exact ⟨f1.2.2.2.1,f1.2.1,f1.2.2.2.2.1,f1.2.2.2.2.2⟩
    ·exact ⟨f2.2.2.2.1,f2.2.1,f2.2.2.2.2.1,f2.2.2.2.2.2⟩
   ·obtain ⟨o,es',ep,ho,r⟩:=hm
    exact ⟨o,es',ep,k2 _ o (Ne.symm fz.2.1) (Ne.symm fO.2.1) (Ne.symm f1.2.1) (Ne.symm f2.2.1) ho,r⟩
   ·exact hok0.adopt fr ⟨by show 2≤sizeLine; decide,[u,v],.cons ru (.cons rv .nil),⟨_,ht2,rfl,_,rfl⟩⟩
  have lt:∀ c∈[z,TI,TO,i1,i2],c<s.heap.objs.size:=fun c hc=>by
   rcases mem5 hc with rfl | rfl | rfl | rfl | rfl
   ·exact ee
   ·exact Heap.lt_size ti
   ·exact Heap.lt_size to
   ·obtain ⟨o,q,_⟩:=t1; exact Heap.lt_size q
   ·obtain ⟨o,q,_⟩:=t2; exact Heap.lt_size q
  refine ⟨.ref s.heap.objs.size,_,I1,rfl,⟨_,x,y,fr,rfl,rfl,fun ws hw=>by rw [hq1] at hw; cases hw; exact hx,fun ws hw=>by rw [hq2] at hw; cases hw; exact hy⟩,⟨he2,(hs2.2 _ (Ne.symm n1)).trans (hk TI _ (Ne.symm n1) n5 n6 n7 ti),⟨_,_,(hs2.2 _ (Ne.symm n2)).trans to'⟩,t1'.extBut hs2.extBut (Ne.symm n3),t2'.extBut hs2.extBut (Ne.symm n4)⟩,fun c hc=>?_⟩
  rw [ar (ne2 c (lt c hc))]
  exact (hf c hc).1
 done:=by
  intro X hP hw hK hc i pins s σ H E I hf st hg
  subst hP hw hK
  obtain ⟨xs,ys,hq1,hq2,hend⟩:=hg
  obtain ⟨hz,ti,⟨ox,oy,to⟩,t1,t2⟩:=st
  obtain ⟨its1,rv1,p1,hz1⟩:=I.list (SqL.of hq1)
  obtain ⟨its2,rv2,p2,hz2⟩:=I.list (SqL.of hq2)
  obtain ⟨m1,m2,m3,m4,m5⟩:=gc (z:=z) (TI:=TI) (TO:=TO) (i1:=i1) (i2:=i2)
  have fz:=hf z m1; have fO:=hf TO m3; have f1:=hf i1 m4; have f2:=hf i2 m5
  obtain ⟨⟨n1,n2,n3,n4⟩,⟨n5,n6,n7⟩,⟨n8,n9⟩,n10⟩:=nd5 nd
  have la:∀ {c:Addr},H c=none→a≠c:=fun h=>aq hq1 h
  have lb:∀ {c:Addr},H c=none→b≠c:=fun h=>aq hq2 h
  have AP:ZipApart z TI TO i1 i2 a b:=⟨Ne.symm n1,Ne.symm n2,Ne.symm n3,Ne.symm n4,n5,n6,n7,n8,n9,n10,la fz.1,la fO.1,la f1.1,la f2.1,lb fz.1,lb fO.1,lb f1.1,lb f2.1⟩
  have l1:=rv1.length
  have l2:=rv2.length
  refine wpAny_pyNext_zip_end (I.ok.hd hc) AP hz ti to t1 t2 p1.isList p2.isList (by rcases hend with h | h; exact .inl (by simp; omega); exact .inr (by simp; omega)) fun h' hk=>⟨rfl,?_⟩
  have trk:∀ c o,H c=some o→c≠z∧c≠TO∧c≠i1∧c≠i2:=fun c o q=>⟨aq q fz.1,aq q fO.1,aq q f1.1,aq q f2.1⟩
  refine I.step (g':=s.gens) (d':=s.drawn) (t':=s.toks) (ch:=[z,TO,i1,i2]) (fun c hc=>?_) (fun c o _ _ hc q _=>by obtain ⟨z1,z2,z3,z4⟩:=ia hc; exact hk c o z1 z2 z3 z4 q) (fun c o _ _ hc q _=>by obtain ⟨z1,z2,z3,z4⟩:=ia hc; exact ⟨o.slots,hk c o z1 z2 z3 z4 q⟩)
   (fun _ _ _ _ n=>n) (fun c o hc q=>by obtain ⟨z1,z2,z3,z4⟩:=ia hc; exact ⟨o,hk c o z1 z2 z3 z4 q⟩) (fun _ _ e=>e) (fun _ _ _ e=>e) (fun c ps _ e=>⟨#[],by rw [e]; simp⟩) (fun m hm=>?_) (fun c o q=>?_) I.bare
  ·rcases mem4 hc with rfl | rfl | rfl | rfl
   ·exact ⟨fz.2.2.2.1,fz.2.1,fz.2.2.2.2.1,fz.2.2.2.2.2⟩
   ·exact ⟨fO.2.2.2.1,fO.2.1,fO.2.2.2.2.1,fO.2.2.2.2.2⟩
   ·exact ⟨f1.2.2.2.1,f1.2.1,f1.2.2.2.2.1,f1.2.2.2.2.2⟩
   ·exact ⟨f2.2.2.2.1,f2.2.1,f2.2.2.2.2.1,f2.2.2.2.2.2⟩
  ·obtain ⟨o,es',ep,ho,r⟩:=hm
   exact ⟨o,es',ep,hk _ o (Ne.symm fz.2.1) (Ne.symm fO.2.1) (Ne.symm f1.2.1) (Ne.symm f2.2.1) ho,r⟩
  ·refine (I.hok c o q).stay (fun d v' hc q'=>?_) (fun _ z=>z) (fun _ _ z=>z) fun _ _ _ z=>z
   rcases hc with rfl | hc
   ·obtain ⟨z1,z2,z3,z4⟩:=trk d _ q; exact hk d v' z1 z2 z3 z4 q'
   ·obtain ⟨z1,z2,z3,z4⟩:=trk d _ hc; exact hk d v' z1 z2 z3 z4 q'
 self:=fun _ _ _ _ _ st h=>wpAny_pyIter_zip st.hz h
section
variable {X:Cx} {es:List Expr} {k:Nat} {tpos:Pos}
def iZip (ta:TA):TI:=fun σ H R=>ta σ H fun vs H1=>∃ a b,vs=[.ref a,.ref b]∧(∃ xs,H1 a=some (.lst xs))∧(∃ ys,H1 b=some (.lst ys))∧R (Itz a b) H1
theorem wW {l m:Expr} {ta:TA} {p pos:Pos} (hg:Gl X "zip") (hm:X.mg "zip" = none) (ha:PA X [l,m] ta) (hs:starEach [l,m] X.env=[(false,eval l X.env),(false,eval m X.env)]:=by rfl) (hs2:(backTo pos (starEach [m] X.env)).any (·.1)=false:=by rfl) (hs3:starEach [l,m] X.env=(false,eval l X.env) :: starEach [m] X.env:=by rfl):PI X (.Tuple es k tpos) (.Call (.Name "zip" p) [l,m] [] pos) (iZip ta):=by
 refine ⟨fun pins s σ H R I h=>?_⟩
 refine wpAny_Call_Name_kw (dD I hg hm wV ?_)
 refine PyProof.Rows.callWith_type1 (thn (ha pos pins s σ H _ I h) fun us s1 ⟨vs,H1,I1,r1,a,b,e,⟨xs,hx⟩,⟨ys,hy⟩,q⟩=>?_) hs3 hs2
 subst e
 obtain ⟨u,v,rfl,ru,rv⟩:=lC r1
 cases ru; cases rv
 obtain ⟨its1,rv1,p1,_⟩:=I1.list (SqL.of hx)
 obtain ⟨its2,rv2,p2,_⟩:=I1.list (SqL.of hy)
 refine call_zip_2 p1.isList p2.isList fun h' hz ti to t1 t2 hsz hk=>?_
 have I2:Inv X pins σ H1 { s1 with heap:=h' }:=I1.kept (t':=s1.toks) hk
 have nd : [s1.heap.objs.size + 4,s1.heap.objs.size + 2,s1.heap.objs.size + 3,s1.heap.objs.size,s1.heap.objs.size + 1].Nodup:=by
  simp only [List.nodup_cons,List.mem_cons,List.not_mem_nil,or_false,not_or,not_false_eq_true,List.nodup_nil,and_true]
  refine ⟨⟨?_,?_,?_,?_⟩,⟨?_,?_,?_⟩,⟨?_,?_⟩,?_⟩ <;> omega
 refine wpAny_pyIter_zip hz ⟨s1.heap.objs.size + 4,_,_,Itz a b,H1,rfl,I2,nM a b _ _ _ _ _ nd,⟨hz,ti,⟨_,_,to⟩,t1,t2⟩,fun c hc=>?_,q⟩
 have hc':s1.heap.objs.size≤c:=by
  rcases mem5 hc with rfl | rfl | rfl | rfl | rfl
  ·exact Nat.le_add_right _ 4
  ·exact Nat.le_add_right _ 2
  ·exact Nat.le_add_right _ 3
  ·exact Nat.le_refl _
  ·exact Nat.le_add_right _ 1
 exact I1.fpOk (H':=H1) hc' (I1.hok.fresh hc')
variable {ow:List Bool} {a b:Expr} {mr:MA} {pos:Pos}
def nS (ds es:List D):List D:=List.zipWith (fun a b=>.tup [a,b]) ds es
theorem lI {ds es:List D} {i:Nat} {d:D} (h:(nS ds es)[i]? = some d):∃ x y,ds[i]? = some x∧es[i]? = some y∧d = .tup [x,y]:=by
 unfold nS at h
 rw [List.getElem?_zipWith] at h
 cases e1:ds[i]? with
 | none=>rw [e1] at h; cases h
 | some x =>
  cases e2:es[i]? with
  | none=>rw [e1,e2] at h; cases h
  | some y=>rw [e1,e2] at h; exact ⟨x,y,rfl,rfl,(Option.some.inj h).symm⟩
theorem xc {G:Hp} {p q:Addr} {xs ys:List V} {ds es:List D} (h1:G p=some (.lst xs)) (h2:Reps G ds xs) (h3:G q=some (.lst ys)) (h4:Reps G es ys):iy (Itz p q) G (nS ds es):=fun C ow G' ρ σ H pd i z r=>by
 have hp:=r.gh _ _ (z _ _ h1)
 have hq:=r.gh _ _ (z _ _ h3)
 refine ⟨fun hl=>⟨xs,ys,hp,hq,?_⟩,fun d e=>?_⟩
 ·rw [h2.length,h4.length]
  unfold nS at hl
  rw [List.length_zipWith] at hl
  omega
 ·obtain ⟨x,y,e1,e2,rfl⟩:=lI e
  obtain ⟨v,g1,g2⟩:=cQ h2 e1
  obtain ⟨u,g3,g4⟩:=cQ h4 e2
  refine ⟨⟨xs,ys,v,u,hp,hq,g1,g3⟩,fun w H' hy=>?_⟩
  obtain ⟨t,x',y',ht,rfl,rfl,hy1,hy2⟩:=hy
  have z1:=hy1 xs hp
  rw [g1] at z1; cases z1
  have z2:=hy2 ys hq
  rw [g3] at z2; cases z2
  obtain ⟨O,r⟩:=r
  obtain ⟨r2,s2⟩:=r.new ht (.tup [v,u])
  exact ⟨_,s2,⟨O,r2⟩,ga aJ (bb (Rep.mono (z.trans s2) _ _ g2) (bb (Rep.mono (z.trans s2) _ _ g4) bg))⟩
def miZip (m:MA):MA:=fun ρ q=>m ρ fun ds ρ'=>match ds with
 | [.lst ds,.lst es]=>q (nS ds es) ρ'
 | _=>False
theorem xb {p:Pos} (hg:Gl X "zip") (hm:X.mg "zip" = none) (ha:QA X ow [a,b] mr) (hs:starEach [a,b] X.env=[(false,eval a X.env),(false,eval b X.env)]:=by rfl) (hs2:(backTo pos (starEach [b] X.env)).any (·.1)=false:=by rfl) (hs3:starEach [a,b] X.env=(false,eval a X.env) :: starEach [b] X.env:=by rfl):QI X ow (.Tuple es k tpos) (.Call (.Name "zip" p) [a,b] [] pos) (miZip mr):=by
 obtain ⟨t,p,s⟩:=ha
 refine ⟨_,wW hg hm p hs hs2 hs3,fun C G ρ σ H pd q Q r hm k=>s C G ρ σ H pd _ _ r hm fun ds ρ' vs G' H' hq z kp r' p hn=>?_⟩
 split at hq
 ·obtain ⟨v,u,rfl,p1,p2⟩:=fh p
  obtain ⟨a1,xs,rfl,h1,h2⟩:=aW p1
  obtain ⟨a2,ys,rfl,h3,h4⟩:=aW p2
  exact ⟨a1,a2,rfl,⟨xs,r'.gh _ _ h1⟩,⟨ys,r'.gh _ _ h3⟩,k _ ρ' G' H' _ hq z kp r' (xc h1 h2 h3 h4)⟩
 ·exact hq.elim
end
end L2
namespace L2
open PySem
def dQ (r:Rat):D:=.tup [.int r.num,.int r.den]
def dQs (rs:List Rat):D:=.lst (rs.map dQ)
theorem jb {t b:Int} (hb : 0<b):bL t b=(b.gcd t:Int):=by
 unfold bL; rw [if_neg (by omega),Int.gcd_comm]
theorem i3 {t b:Int} (hb : 0<b):t / bL t b=(Rat.divInt t b).num:=by
 rw [Rat.num_divInt,Int.sign_eq_one_of_pos hb,Int.one_mul,jb hb]
theorem iB {t b:Int} (hb : 0<b):b / bL t b=((Rat.divInt t b).den:Int):=by
 rw [Rat.den_divInt,if_neg (by omega),jb hb]
 have:(b.natAbs:Int)=b:=by omega
 rw [Int.natCast_ediv,this]
theorem bi (r:Rat):(0:Int)<r.den:=by have:=r.den_pos; omega
theorem cX (r:Rat):Rat.divInt r.num r.den=r:=Rat.num_divInt_den r
structure Bt (r:Rat) (n:Nat):Prop where
 num:r.num.natAbs<2 ^ n
 den:r.den<2 ^ n
theorem fM {m n:Nat} (h:m≤n):(2:Nat) ^ m≤2 ^ n:=Nat.pow_le_pow_right (by decide) h
theorem Bt.mono {r:Rat} {m n:Nat} (h:Bt r m) (hm:m≤n):Bt r n:=⟨Nat.lt_of_lt_of_le h.num (fM hm),Nat.lt_of_lt_of_le h.den (fM hm)⟩
theorem Bt.smN {r:Rat} {m:Nat} (h:Bt r m) (hm:m≤8000):Sm r.num:=Nat.lt_of_lt_of_le h.num (fM hm)
theorem Bt.smD {r:Rat} {m:Nat} (h:Bt r m) (hm:m≤8000):Sm (r.den:Int):=by
 show ((r.den:Int)).natAbs<_
 rw [Int.natAbs_natCast]; exact Nat.lt_of_lt_of_le h.den (fM hm)
theorem eP {a b:Int} (hb : 0<b):(a / b).natAbs≤a.natAbs:=by
 have h1:=Int.ediv_mul_le a (show b≠0 by omega)
 have h2:=Int.lt_ediv_add_one_mul_self a hb
 rcases Int.lt_or_le a 0 with h | h
 ·have h3:a≤a / b:=by
   rcases Int.lt_or_le (a / b) a with z | z
   ·exfalso
    have:(a / b + 1) * b≤(a / b + 1) * 1:=Int.mul_le_mul_of_nonpos_left (by omega) (by omega)
    omega
   ·exact z
  have h4:a / b<0:=Int.ediv_neg_of_neg_of_pos h hb
  omega
 ·have:=Int.ediv_nonneg h (show 0≤b by omega)
  have:=Int.ediv_le_self b h
  omega
theorem ip {t b:Int} (hb : 0<b):(Rat.divInt t b).num.natAbs≤t.natAbs∧(Rat.divInt t b).den≤b.natAbs:=by
 have g:=dq (n:=t) hb
 constructor
 ·rw [← i3 hb]; exact eP g
 ·have e:=iB (t:=t) hb
  have:=eP (a:=b) g
  omega
theorem Bt.divInt {t b:Int} {n:Nat} (hb : 0<b) (h1:t.natAbs<2 ^ n) (h2:b.natAbs<2 ^ n):Bt (Rat.divInt t b) n:=by
 have:=ip (t:=t) hb
 exact ⟨by omega,by omega⟩
theorem pY (r s:Rat):r + s=Rat.divInt (r.num * s.den + s.num * r.den) (r.den * s.den):=by
 have h:=Rat.divInt_add_divInt r.num s.num (d₁:=r.den) (d₂:=s.den) (by have:=bi r; omega) (by have:=bi s; omega)
 rw [cX,cX] at h; exact h
theorem nJ (r s:Rat):r - s=Rat.divInt (r.num * s.den - s.num * r.den) (r.den * s.den):=by
 have h:=Rat.divInt_sub_divInt r.num s.num (d₁:=r.den) (d₂:=s.den) (by have:=bi r; omega) (by have:=bi s; omega)
 rw [cX,cX] at h; exact h
theorem qG (r s:Rat):r * s=Rat.divInt (r.num * s.num) (r.den * s.den):=by
 have h:=Rat.divInt_mul_divInt r.num s.num (d₁:=r.den) (d₂:=s.den)
 rw [cX,cX] at h; exact h
theorem wF (r s:Rat):r / s=Rat.divInt (r.num * s.den) (r.den * s.num):=by
 have h:=Rat.divInt_mul_divInt r.num s.den (d₁:=r.den) (d₂:=s.num)
 rw [cX,← Rat.inv_divInt s.num s.den,cX] at h
 rw [Rat.div_def]; exact h
theorem br (a b:Int):(a * b).natAbs=a.natAbs * b.natAbs:=Int.natAbs_mul a b
theorem a9 {a b m n:Nat} (h1:a<2 ^ m) (h2:b<2 ^ n):a * b<2 ^ (m + n):=by
 rw [Nat.pow_add]
 exact Nat.mul_lt_mul_of_lt_of_le h1 (Nat.le_of_lt h2) (Nat.pow_pos (by decide))
theorem bW (r s:Rat):(0:Int)<r.den * s.den:=Int.mul_pos (bi r) (bi s)
theorem Bt.add {r s:Rat} {m n:Nat} (h1:Bt r m) (h2:Bt s n):Bt (r + s) (m + n + 1):=by
 rw [pY]
 have e1:(r.num * s.den).natAbs<2 ^ (m + n):=by rw [br,Int.natAbs_natCast]; exact a9 h1.num h2.den
 have e2:(s.num * r.den).natAbs<2 ^ (m + n):=by rw [br,Int.natAbs_natCast,Nat.mul_comm]; exact a9 h1.den h2.num
 have e3:((r.den:Int) * s.den).natAbs<2 ^ (m + n):=by rw [br,Int.natAbs_natCast,Int.natAbs_natCast]; exact a9 h1.den h2.den
 have e4:(2:Nat) ^ (m + n + 1)=2 ^ (m + n) + 2 ^ (m + n):=by rw [Nat.pow_succ]; omega
 exact Bt.divInt (bW r s) (Nat.lt_of_le_of_lt (Int.natAbs_add_le _ _) (by rw [e4]; exact Nat.add_lt_add e1 e2)) (Nat.lt_of_lt_of_le e3 (by rw [e4]; exact Nat.le_add_left _ _))
theorem Bt.sub {r s:Rat} {m n:Nat} (h1:Bt r m) (h2:Bt s n):Bt (r - s) (m + n + 1):=by
 rw [nJ]
 have e1:(r.num * s.den).natAbs<2 ^ (m + n):=by rw [br,Int.natAbs_natCast]; exact a9 h1.num h2.den
 have e2:(s.num * r.den).natAbs<2 ^ (m + n):=by rw [br,Int.natAbs_natCast,Nat.mul_comm]; exact a9 h1.den h2.num
 have e3:((r.den:Int) * s.den).natAbs<2 ^ (m + n):=by rw [br,Int.natAbs_natCast,Int.natAbs_natCast]; exact a9 h1.den h2.den
 have e4:(2:Nat) ^ (m + n + 1)=2 ^ (m + n) + 2 ^ (m + n):=by rw [Nat.pow_succ]; omega
 exact Bt.divInt (bW r s) (Nat.lt_of_le_of_lt (Int.natAbs_sub_le _ _) (by rw [e4]; exact Nat.add_lt_add e1 e2)) (Nat.lt_of_lt_of_le e3 (by rw [e4]; exact Nat.le_add_left _ _))
theorem Bt.mul {r s:Rat} {m n:Nat} (h1:Bt r m) (h2:Bt s n):Bt (r * s) (m + n):=by
 rw [qG]
 exact Bt.divInt (bW r s) (by rw [br]; exact a9 h1.num h2.num) (by rw [br,Int.natAbs_natCast,Int.natAbs_natCast]; exact a9 h1.den h2.den)
theorem bt0 {n:Nat} (h : 0<n):Bt 0 n:=⟨by show 0<2 ^ n; exact Nat.pow_pos (by decide),by show 1<2 ^ n; exact Nat.one_lt_two_pow (by omega)⟩
theorem btI {i:Int} {n:Nat} (h:i.natAbs<2 ^ n) (hn : 0<n):Bt (i:Rat) n:=⟨by rw [Rat.num_intCast]; exact h,by rw [Rat.den_intCast]; exact Nat.one_lt_two_pow (by omega)⟩
theorem kH (i:Int):D.tup [.int i,.int 1]=dQ (i:Rat):=by unfold dQ; rw [Rat.num_intCast,Rat.den_intCast]; rfl
theorem Sm.of {i:Int} {n:Nat} (h:i.natAbs<2 ^ n) (hn:n≤8000):Sm i:=Nat.lt_of_lt_of_le h (fM hn)
def sdGcd:SpD:=fun ds q=>∃ n b,ds=[.int n,.int b]∧0≤b∧q (.int (bL n b)) []
def wX:SpD:=fun ds q=>∃ t b,ds=[.int t,.int b]∧b≠0∧Sm b∧q (dQ (Rat.divInt t b)) []
def vB:SpD:=fun ds q=>∃ r s,ds=[dQ r,dQ s]∧Bt r 3950∧Bt s 3950∧q (dQ (r + s)) []
def rW:SpD:=fun ds q=>∃ r s,ds=[dQ r,dQ s]∧Bt r 3950∧Bt s 3950∧q (dQ (r - s)) []
def tJ:SpD:=fun ds q=>∃ r s,ds=[dQ r,dQ s]∧Bt r 3950∧Bt s 3950∧q (dQ (r * s)) []
def tM:SpD:=fun ds q=>∃ r s,ds=[dQ r,dQ s]∧Bt r 3950∧Bt s 3950∧s≠0∧q (dQ (r / s)) []
def rX:SpD:=fun ds q=>∃ r s,ds=[dQ r,dQ s]∧Bt r 3950∧Bt s 3950∧q (.bl (decide (r<s))) []
def vN:SpD:=fun ds q=>∃ (rs:List Rat) (M:Nat),ds=[dQs rs]∧rs.length≤200∧(∀ r∈rs,r.num.natAbs<2 ^ 3900∧r.den∣M)∧0<M∧M<2 ^ 3900∧q (dQ rs.sum) []
theorem vk {s:Rat} (h:s≠0):s.num≠0:=fun z=>h (Rat.num_eq_zero.mp z)
structure Com (rs:List Rat) (M:Nat) (B:Int):Prop where
 pos : 0<B
 dv:∀ r∈rs,(r.den:Int)∣B
 dm:B∣(M:Int)
theorem Com.le {rs:List Rat} {M:Nat} {B:Int} (h:Com rs M B) (hM : 0<M):B≤M:=Int.le_of_dvd (by omega) h.dm
theorem sw (M:Nat):Com [] M 1:=⟨by decide,(fun r h=>by cases h),⟨M,by simp⟩⟩
theorem rF {rs:List Rat} {M:Nat} {B:Int} {r:Rat} (h:Com rs M B) (hr:r.den∣M):Com (rs++[r]) M (B / bL B r.den * r.den):=by
 have hd:=bi r
 have g:=dq (n:=B) hd
 have g1:=sO (n:=B) hd
 have g2:=sM (n:=B) hd
 obtain ⟨n,rfl⟩:∃ n:Nat,B=n:=⟨B.toNat,by have:=h.pos; omega⟩
 have eg:bL (n:Int) r.den=(Nat.gcd n r.den:Int):=by
  unfold bL; rw [if_neg (by omega)]
  show ((Int.gcd (n:Int) r.den:Nat):Int)=_
  unfold Int.gcd; rw [Int.natAbs_natCast,Int.natAbs_natCast]
 have el:(n:Int) / bL n r.den * r.den=((Nat.lcm n r.den:Nat):Int):=by
  rw [eg,← Int.natCast_ediv,← Int.natCast_mul]
  congr 1
  unfold Nat.lcm
  exact Nat.div_mul_right_comm (Nat.gcd_dvd_left n r.den) r.den
 rw [el]
 have hn : 0<n:=by have:=h.pos; omega
 refine ⟨by have:=Nat.lcm_pos hn r.den_pos; omega,fun x hx=>?_,?_⟩
 ·rcases List.mem_append.mp hx with hx | hx
  ·exact Int.dvd_trans (h.dv x hx) (Int.natCast_dvd_natCast.mpr (Nat.dvd_lcm_left n r.den))
  ·have:x=r:=by simpa using hx
   subst this; exact Int.natCast_dvd_natCast.mpr (Nat.dvd_lcm_right n x.den)
 ·exact Int.natCast_dvd_natCast.mpr (Nat.lcm_dvd (Int.natCast_dvd_natCast.mp h.dm) hr)
def sumF (B:Int):D→D
 | .tup [.int n,.int d]=>.int (n * (B / d))
 | d=>d
theorem oG (B:Int) (rs:List Rat):(rs.map dQ).map (sumF B)=(rs.map fun r=>r.num * (B / r.den)).map D.int:=by
 rw [List.map_map,List.map_map]; rfl
theorem jO {B:Int} (hB : 0<B):∀ {rs:List Rat},(∀ r∈rs,(r.den:Int)∣B)→Rat.divInt (rs.map fun r=>r.num * (B / r.den)).sum B=rs.sum
 | [],_=>by rw [List.map_nil,List.sum_nil,List.sum_nil,Rat.zero_divInt]
 | r :: rs,h=>by
  have ih:=jO hB (rs:=rs) fun x hx=>h x (.tail _ hx)
  rw [List.map_cons,List.sum_cons,List.sum_cons,← ih]
  obtain ⟨c,hc⟩:=h r (.head _)
  have hd:=bi r
  have e1:B / r.den=c:=by rw [hc]; exact Int.mul_ediv_cancel_left c (by omega)
  have cp:c≠0:=fun z=>by rw [z,Int.mul_zero] at hc; omega
  have e2:r=Rat.divInt (r.num * c) B:=by rw [hc,Rat.divInt_mul_right cp,cX]
  rw [e1]
  conv=>rhs; rw [e2]
  rw [Rat.divInt_add_divInt _ _ (by omega) (by omega)]
  have e3:r.num * c * B + (rs.map fun r=>r.num * (B / r.den)).sum * B=(r.num * c + (rs.map fun r=>r.num * (B / r.den)).sum) * B:=by rw [Int.add_mul]
  rw [e3,Rat.divInt_mul_right (by omega)]
theorem oE (r:Rat):lay 1 (dQ r)=true:=rfl
theorem rk (r:Rat):okD (dQ r)=true:=l7 (oE r) (by decide)
theorem so {r s:Rat} (h1:r.num=s.num) (h2:r.den=s.den):r=s:=by
 rw [← cX r,← cX s,h1,h2]
theorem eqDq (r s:Rat):eqD (dQ r) (dQ s)=decide (r=s):=by
 unfold eqD dQ
 simp only [toP,toPs,PyData.eqv,PyData.eqvAll,Bool.and_true]
 by_cases h:r=s
 ·subst h; simp
 ·rw [decide_eq_false h]
  by_cases h1:r.num=s.num
  ·have h2:r.den≠s.den:=fun z=>h (so h1 z)
   have h3 : ¬ (r.den:Int)=s.den:=fun z=>h2 (by omega)
   simp [h1,h3]
  ·simp [h1]
theorem l4 (rs:List Rat):lay 2 (dQs rs)=true:=by
 show (rs.map dQ).all (lay 1)=true
 rw [List.all_map]; exact List.all_eq_true.mpr fun r _=>oE r
theorem d6 (rs:List Rat):okD (dQs rs)=true:=l7 (l4 rs) (by decide)
theorem kI {rs:List Rat} {i:Int} (h0 : 0≤i) (h1:i<rs.length):atI (rs.map dQ) i=some (dQ (rs.getD i.toNat 0)):=by
 refine ji ?_
 unfold atI ixN
 rw [if_pos h0,if_pos h1]
 show rs[i.toNat]? = _
 rw [List.getD_eq_getElem?_getD,List.getElem?_eq_getElem (by omega)]; rfl
def cZ (ps:List Int) (a:Ask) (prs:List Rat):Rat:=((bG ps a).map fun t=>prs.getD (t - 1).toNat 0).sum
def jE (r:Rat):Rat:=if 0<r then r else 0
def a6 (ps:List Int) (a:Ask) (w:Int) (prs:List Rat):Rat:=jE ((a.worth:Rat) - (w:Rat) * cZ ps a prs)
def wN:SpD:=fun ds q=>∃ r,ds=[dQ r]∧q (.bl true) []
theorem sY (r:Rat):bL r.num r.den=1:=by
 rw [jb (bi r)]
 have:=r.reduced
 unfold Nat.Coprime at this
 rw [Int.gcd_comm]
 have e:Int.gcd r.num r.den=Nat.gcd r.num.natAbs r.den:=by unfold Int.gcd; rw [Int.natAbs_natCast]
 rw [e,this]; rfl
theorem vY {r:Rat} (h : 0≤r) : 0≤r.num:=Rat.num_nonneg.mpr h
def pR (prs:List Rat):D→D
 | .int t=>dQ (prs.getD (t - 1).toNat 0)
 | d=>d
theorem kD (prs:List Rat) (w:List Int):(w.map D.int).map (pR prs)=(w.map fun t=>prs.getD (t - 1).toNat 0).map dQ:=by
 rw [List.map_map,List.map_map]; rfl
theorem fA {rs:List Rat} {k:Nat} (h:k<rs.length):rs.getD k 0∈rs:=by
 rw [List.getD_eq_getElem?_getD,List.getElem?_eq_getElem h]; exact List.getElem_mem h
theorem eu {ps rs:List Int} (hT:Tree ps rs) {a b:Int} (he:Ends2 ps a b):(mM ps a b).length≤46:=by
 obtain ⟨w,hw,e⟩:=lJ hT he.a0 he.b0 he.a1 he.b1
 have h1:=hw.len hT he.a0 he.b0 he.a1 he.b1
 have h2:=hT.hi
 have h3:=he.a1; have h4:=he.b1
 rw [e]
 have:=(cq w).length_eq
 omega
theorem o5 {i:Int} {n:Nat} (m:Nat) (h:i.natAbs≤m) (hm:m<2 ^ n) (hn : 0<n):Bt (i:Rat) n:=btI (by omega) hn
theorem cP:∀ rs:List Rat,imms (rs.map dQ)=true
 | []=>rfl
 | r :: rs=>by rw [List.map_cons,imms,cP rs]; rfl
def rC:SpD:=fun ds q=>∃ t b,ds=[.int t,.int b]∧0<b∧Sm b∧q (dQ (Rat.divInt t b)) []
theorem lH (l:List Rat) (i:Nat) (x:Rat):D.lst ((l.map dQ).set i (dQ x))=dQs (l.set i x):=by unfold dQs; rw [List.map_set]
theorem tK {l:List Rat} {i:Nat} {x:Rat} {P:Rat→Prop} (h:∀ r∈l,P r) (hx:P x):∀ r∈l.set i x,P r:=fun r hr=>by
 rcases List.mem_or_eq_of_mem_set hr with z | z
 ·exact h r z
 ·exact z ▸ hx
end L2
namespace L2
open PySem PySem.Spec PyProof.Rows
section
variable {M:Model} {A:Around} {E:Value→Shared→Prop} {s:Shared}
end
section
variable {X:Cx} {pins:List (Addr×Obj)} {σ:St} {H H':Hp} {s s':Shared} {e:Addr} {cls:Value} {dx:Option Addr} {T:Option Addr}
end
section
variable {X:Cx} {x:Str} {p pos:Pos} {e:Expr} {es:List Expr} {t:TA} {k:Nat} {f:Addr} {fd:FuncData} {ps:List Str} {sp:Sp} {xk:XS}
end
section
variable {X:Cx} {pins:List (Addr×Obj)} {σ:St} {H:Hp} {s:Shared} {xk:XS}
variable {x:Str} {C:Addr} {bm:List Value} {e:Expr} {args:List Expr} {np cpos pos:Pos} {t:TA}
end
section
variable {X:Cx} {pins p:List (Addr×Obj)} {σ:St} {H:Hp} {s:Shared} {E:Value→Shared→Prop} {v:Value}
variable {e:Addr} {cls:Value} {dx T:Option Addr}
variable {x n:Str} {i:Nat} {C D0:Addr} {bm bmD:List Value} {ini iniD:Option Value} {b0:Stmt} {suite:List Stmt} {np npos:Pos} {ts:TS} {D:Ends} {t:Addr}
end
section
variable {X:Cx} {E:Value→Shared→Prop} {p:List (Addr×Obj)}
end
section
variable {X:Cx} {M:Md} {a b c e:Expr} {mt:MT} {pos pos':Pos} {st:Stmt} {rest:List Stmt} {m:MS} {m1 m2:MSX} {mex:MEX}
variable {mg:MG}
variable {es:List Expr} {ks:List AK} {mr:MA} {x:Str} {p':Pos} {ow:List Bool}
end
section
variable {X:Cx} {M:Md} {e:Expr} {es:List Expr} {ks:List AK} {mr:MA} {x:Str} {pos p':Pos} {ow:List Bool} {mu:List Bool} {k:Nat} {f:Addr} {fd:FuncData} {ps:List Str} {sd:SpX}
end
end L2
namespace L2
open PySem PySem.Spec PyProof.Rows PySem.W Builtin.ObjectAttr
section
variable {prog:Program} {w:World} {A:Around} {E:Value→Shared→Prop} {s:Shared} {K:PySem.W.Frag} {x D:Addr} {ox:Obj} {od:Option Obj} {name:Str} {bm:List Value} {ini:Option Value} {tk:Tok}
end
end L2
namespace L2
open PySem PySem.Spec PyProof.Rows
section
variable {X:Cx}
variable {ow:List Bool} {a:Expr} {ma:ME} {pos:Pos}
end
section
variable {K:PySem.W.Frag} {C a N:Addr} {dd nd:Option Addr} {nm qn:Str} {bs bm sub:List Value} {hd ab:Bool} {sn:List Str} {col:Option Bool} {k0 k1 k2 k3 k5 ini:Option Value} {no:Value} {es:Array DictEntry} {np:Nat} {nl:Array (Option Value)} {sl:Array (Option Value)} {oc:Value} {cd:ClassData}
end
section
variable {X:Cx}
variable {ow:List Bool} {a:Expr} {ma:ME} {pos:Pos}
end
section
variable {K:PySem.W.Frag} {t c:Value} {cs:List Value} {b:Bool}
end
section
variable {prog:Program} {w:World} {A:Around} {E:Value→Shared→Prop} {h:Heap} {g:Array GenState} {d:Drawn} {t:Nat} {os:OsState}
variable {nm q:Str} {C N:Addr} {bs bm:List Value} {hdct:Bool} {sn:List Str} {sub:List Value} {ab:Bool} {col:Option Bool} {dd:Option Addr} {k0 k1 k2 k3 k5:Option Value}
end
section
variable {prog:Program} {w:World} {A:Around} {E:Value→Shared→Prop} {h:Heap} {g:Array GenState} {d:Drawn} {t:Nat} {os:OsState}
variable {nm q:Str} {C N:Addr} {bs bm:List Value} {hdct:Bool} {sn:List Str} {sub:List Value} {ab:Bool} {col:Option Bool} {dd:Option Addr} {k0 k1 k2 k3 k5:Option Value}
end
end L2
namespace L2
open PySem PySem.Spec PyProof.Rows PySem.W Builtin.ObjectAttr Builtin
section
variable {prog:Program} {w:World} {A:Around} {E:Value→Shared→Prop} {s:Shared} {K:PySem.W.Frag} {x C:Addr} {ox:Obj} {od:Option Obj} {name:Str} {bm:List Value} {ini:Option Value} {v:Value}
end
end L2
namespace L2
open PySem PySem.Spec PyProof.Rows
section
variable {X:Cx} {pins:List (Addr×Obj)} {σ:St} {H:Hp} {s:Shared} {e C fI:Addr} {bm:List Value}
end
section
variable {prog:Program} {w:World} {A:Around} {E:Value→Shared→Prop} {s:Shared} {env:Env}
end
section
variable {X:Cx} {xk:XS} {x:Str} {C fI:Addr} {bm:List Value} {e:Expr} {args:List Expr} {np cpos pos:Pos} {t:TA} {k:Nat} {fd:FuncData} {ps ns:List Str}
end
section
variable {X:Cx} {M:Md} {e:Expr} {es:List Expr} {mr:MA} {x:Str} {pos:Pos} {k:Nat} {fd:FuncData} {ps ns:List Str}
end
section
variable {X:Cx} {es:List Expr} {c:St→Prop}
end
section
variable {X:Cx} {C B:Addr} {bm:List Value} {ini:Option Value} {x:Str} {a b:Expr} {np apos pos pos':Pos} {t:TA}
end
section
variable {X:Cx} {pins:List (Addr×Obj)} {σ:St} {H:Hp} {s:Shared} {h':Heap} {a:Addr} {oa od:HO}
end
section
variable {X:Cx} {C:Addr} {bm:List Value} {ini:Option Value} {f:Str} {o value:Expr} {pos pos':Pos} {ta tv:TE}
end
section
variable {X:Cx} {ow:List Bool} {a:Expr} {ma:ME} {pos:Pos} {f:Str}
end
section
variable {X:Cx}
variable {ow:List Bool} {e:Expr} {ma:ME}
end
section
variable {X:Cx} {M:Md} {ow:List Bool} {a e:Expr} {es:List Expr} {pos:Pos} {mex:MEX} {m1:MSX} {mg:MG}
variable {x:Str} {p':Pos} {ma:ME}
end
section
variable {C:Ctx} {ow:List Bool} {G:Hp} {ρ:DSt} {σ:St} {H:Hp} {pd:List (D×V)} {O:Own} {p:Addr} {xs:List V}
end
section
variable {X:Cx} {ow:List Bool} {a b e:Expr} {es:List Expr} {ma mb:ME} {mr:MA} {pos:Pos} {x:Str} {p':Pos}
end
section
variable {X:Cx} {M:Md} {i:Nat} {st:Stmt} {rest:List Stmt} {m1 m2:MFl} {me:MFe} {ms:MS} {pos pos':Pos}
variable {e b c:Expr} {ma mb:ME} {mt:MT}
end
section
variable {C:Ctx} {ow:List Bool} {i:Nat} {G:Hp} {ρ:DSt} {σ:St} {H:Hp} {p:Addr} {ds:List D}
end
section
variable {X:Cx} {M:Md} {i:Nat} {pos pos':Pos} {e c:Expr} {ma:ME} {mt:MT} {m1 m2:MFl}
end
section
variable {X:Cx} {M:Md} {a b e:Expr} {ma mb:ME} {pos:Pos}
end
mutual
theorem Sep.move {G H G' H':Hp} {O O':Own} {i i':Nat} (hG:cb G G'):∀ (d:D) (π π':List Nat) (v:V),(∀ a τ,O a=some (i,τ++π)→O' a=some (i',τ++π')∧H' a=H a)→Sep G H O i d π v→Sep G' H' O' i' d π' v
 | .non,_,_,_,_,h=>by rw [Sep] at *; exact h
 | .bl b,_,_,_,_,h=>by rw [Sep] at *; exact h
 | .int n,_,_,_,_,h=>by rw [Sep] at *; exact h
 | .str x,_,_,_,_,h=>by rw [Sep] at *; exact h
 | .tup ds,π,π',v,hO,h=>by
  rw [Sep] at *
  obtain ⟨a,xs,h1,h2,h3⟩:=h
  exact ⟨a,xs,h1,hG _ _ h2,Seps.move hG ds 0 π π' xs (fun a τ _=>hO a τ) h3⟩
 | .lst ds,π,π',v,hO,h=>by
  rw [Sep] at *
  obtain ⟨a,xs,h1,h2,h3,h4⟩:=h
  have q:=hO a [] h2
  exact ⟨a,xs,h1,q.1,q.2.trans h3,Seps.move hG ds 0 π π' xs (fun a τ _=>hO a τ) h4⟩
 | .dic ks ds,π,π',v,hO,h=>by
  rw [Sep] at *
  obtain ⟨a,xs,h1,h2,h3,h5,h4⟩:=h
  have q:=hO a [] h2
  exact ⟨a,xs,h1,q.1,q.2.trans h3,h5,Seps.move hG ds 0 π π' xs (fun a τ _=>hO a τ) h4⟩
 | .obj C ks ds,π,π',v,hO,h=>by
  rw [Sep] at *
  obtain ⟨a,dx,xs,h1,h2,h3,h5,h4⟩:=h
  have q:=hO a [] h2
  exact ⟨a,dx,xs,h1,q.1,q.2.trans h3,h5,Seps.move hG ds 0 π π' xs (fun a τ _=>hO a τ) h4⟩
 | .dct,_,_,_,_,h=>by rw [Sep] at h; exact h.elim
 | .scr _ _,_,_,_,_,h=>by rw [Sep] at h; exact h.elim
 | .ext _,_,_,_,_,h=>by rw [Sep] at h; exact h.elim
theorem Seps.move {G H G' H':Hp} {O O':Own} {i i':Nat} (hG:cb G G'):∀ (ds:List D) (k:Nat) (π π':List Nat) (xs:List V),(∀ a τ,τ≠[]→O a=some (i,τ++π)→O' a=some (i',τ++π')∧H' a=H a)→Seps G H O i ds k π xs→Seps G' H' O' i' ds k π' xs
 | [],_,_,_,_,_,h=>by rw [Seps] at *; exact h
 | d :: ds,k,π,π',xs,hO,h=>by
  rw [Seps] at *
  obtain ⟨v,vs,h1,h2,h3⟩:=h
  refine ⟨v,vs,h1,Sep.move hG d (k :: π) (k :: π') v (fun a τ e=>?_) h2,Seps.move hG ds (k + 1) π π' vs hO h3⟩
  have e':∀ ϖ:List Nat,τ++k :: ϖ=(τ++[k])++ϖ:=fun ϖ=>by simp
  rw [e'] at e ⊢
  exact hO a (τ++[k]) (by simp) e
end
theorem lX {G H:Hp} {O:Own} {l:Nat}:∀ {ds:List D} {k:Nat} {π:List Nat} {xs:List V} {j:Nat} {d:D},Seps G H O l ds k π xs→ds[j]? = some d→∃ v,xs[j]? = some v∧Sep G H O l d ((k + j) :: π) v
 | [],_,_,_,_,_,_,e=>by simp at e
 | x :: ds,k,π,xs,0,d,h,e=>by
  rw [Seps] at h
  obtain ⟨v,vs,rfl,h2,_⟩:=h
  simp at e; subst e
  exact ⟨v,rfl,h2⟩
 | x :: ds,k,π,xs,j + 1,d,h,e=>by
  rw [Seps] at h
  obtain ⟨v,vs,rfl,_,h3⟩:=h
  obtain ⟨u,h4,h5⟩:=lX (j:=j) h3 (by simpa using e)
  refine ⟨u,by simpa using h4,?_⟩
  rw [show k + (j + 1)=k + 1 + j by omega]; exact h5
def jA (L k:Nat) (O:Own):Own:=fun a=>match O a with
 | some (l,π)=>if l=L then (if π.getLast? = some k then some (L,π.dropLast) else none) else some (l,π)
 | none=>none
section
variable {X:Cx} {M:Md} {a b:Expr} {ma mb:ME} {pos:Pos}
end
section
variable {X:Cx} {pos p1 p2 q1 q2:Pos} {n1 n2:Nat} {k1 k2 x y:Str} {i j:Nat} {ow:List Bool}
end
section
variable {X:Cx} {ow:List Bool} {a b e:Expr} {ma mb:ME} {pos p2:Pos} {lo hi:Option Expr} {ml mh:MO}
def uc:List D→(D→Prop)→Prop:=fun ds q=>match ds with
 | [.int i]=>i.natAbs.log2<1920∧q (.str (toString i))
 | _=>False
theorem hZ:di (fun xs H Q=>∃ i,xs=[.int i]∧i.natAbs.log2<1920∧Q (.str (toString i)) H) uc:=fun G H xs ds q Q s p hf k=>by
 unfold uc at hf
 split at hf
 ·obtain ⟨v,rfl,p1⟩:=aZ p
  exact ⟨_,by rw [aw p1],hf.1,k _ _ hf.2 (cK _)⟩
 ·exact hf.elim
end
section
variable {X:Cx} {M:Md} {i:Nat} {st:Stmt} {m:MFl}
end
def eF:Nat→D→Bool
 | _,.int _=>true
 | _,.bl _=>true
 | _,.non=>true
 | _,.str x=>(PyData.str x).canLay0
 | n + 1,.tup ds=>ds.all (eF n)
 | n + 1,.lst ds=>ds.all (eF n)
 | _,_=>false
theorem gS {n:Nat} (ih:∀ d,eF n d=true→(toP d).canLay0=true∧(toP d).depth≤n + 1):∀ ds:List D,ds.all (eF n)=true→PyData.canLayAll0 (toPs ds)=true∧PyData.depthAll (toPs ds)≤n + 1
 | [],_=>by rw [toPs]; simp [PyData.canLayAll0,PyData.depthAll]
 | d :: ds,h=>by
  rw [List.all_cons,Bool.and_eq_true] at h
  have h1:=ih d h.1
  have h2:=gS ih ds h.2
  rw [toPs]
  simp only [PyData.canLayAll0,PyData.depthAll,h1.1,h2.1,Bool.and_self,true_and]
  omega
theorem iF:∀ (n:Nat) (d:D),eF n d=true→(toP d).canLay0=true∧(toP d).depth≤n + 1
 | n,.int _,_=>by rw [toP]; simp [PyData.canLay0,PyData.depth]
 | n,.bl _,_=>by rw [toP]; simp [PyData.canLay0,PyData.depth]
 | n,.non,_=>by rw [toP]; simp [PyData.canLay0,PyData.depth]
 | n,.str x,h=>by rw [toP]; exact ⟨by cases n <;> exact h,by simp [PyData.depth]⟩
 | n + 1,.tup ds,h=>by
  have:=gS (iF n) ds (by simpa [eF] using h)
  rw [toP]; simp only [PyData.canLay0,PyData.depth,this.1,true_and]; omega
 | n + 1,.lst ds,h=>by
  have:=gS (iF n) ds (by simpa [eF] using h)
  rw [toP]; simp only [PyData.canLay0,PyData.depth,this.1,true_and]; omega
 | 0,.tup _,h=>by simp [eF] at h
 | 0,.lst _,h=>by simp [eF] at h
 | n,.dct,h=>by cases n <;> simp [eF] at h
 | n,.dic _ _,h=>by cases n <;> simp [eF] at h
 | n,.obj _ _ _,h=>by cases n <;> simp [eF] at h
 | n,.scr _ _,h=>by cases n <;> simp [eF] at h
 | n,.ext _,h=>by cases n <;> simp [eF] at h
theorem nY {n:Nat} {d:D} (h:eF n d=true) (hn:n≤60):okD d=true:=by
 have:=iF n d h
 unfold okD SeqAt.shaped
 rw [this.1,Bool.true_and]
 exact decide_eq_true (by omega)
theorem xo {xs:List D} {k:Int} (h0 : 0≤k):gX xs none (some k)=xs.take k.toNat:=by
 have ek:k=((k.toNat:Nat):Int):=by omega
 unfold gX
 rw [HT.sIx_none,ek,HT.sIx_nat,List.drop_zero,Nat.sub_zero,Int.toNat_natCast]
 by_cases h:k.toNat≤xs.length
 ·rw [show min k.toNat xs.length=k.toNat by omega]
 ·rw [show min k.toNat xs.length=xs.length by omega,List.take_length,List.take_of_length_le (by omega)]
theorem mP {xs:List D} {k:Int} (h0 : 0≤k):gX xs (some k) none=xs.drop k.toNat:=by
 have ek:k=((k.toNat:Nat):Int):=by omega
 unfold gX
 rw [HT.sIx_none,ek,HT.sIx_nat,Int.toNat_natCast]
 by_cases h:k.toNat≤xs.length
 ·rw [show min k.toNat xs.length=k.toNat by omega,List.take_of_length_le (by simp)]
 ·rw [show min k.toNat xs.length=xs.length by omega,List.drop_length,List.drop_of_length_le (by omega)]; simp
section
variable {X:Cx}
end
end L2
namespace L2
open PySem
theorem kX (r s:Rat):(r.num * s.den≤s.num * r.den)↔r≤s:=by
 constructor
 ·intro h
  have:=Rat.not_lt.mp fun h2=>absurd ((Rat.lt_iff s r).mp h2) (by omega)
  exact this
 ·intro h
  have : ¬ s<r:=Rat.not_lt.mpr h
  have h3 : ¬ (s.num * r.den<r.num * s.den):=fun z=>this ((Rat.lt_iff s r).mpr z)
  omega
end L2
namespace L2
open PySem PySem.Spec PyProof.Rows
section
variable {X:Cx}
end
section
variable {X:Cx} {M:Md} {e:Expr} {ma:ME} {pos:Pos}
end
section
variable {X:Cx} {M:Md} {i:Nat} {st:Stmt} {rest:List Stmt} {m1 m2:MFl} {me:MFe} {pos pos':Pos} {e:Expr} {ma:ME}
end
section
variable {X:Cx} {M:Md} {elt tg iter:Expr} {ifs:List Expr} {pos:Pos} {mi:MA} {mg:MG} {mt:MT} {me:ME} {scope:Scope} {cl:List (Str×Addr)} {rest:List Stmt} {mf:MFe}
end
section
variable {X:Cx} {ow:List Bool} {e:Expr} {ma:ME} {pos p2:Pos} {lo hi:Option Expr} {ml mh:MO}
end
end L2
namespace L2
open PySem
end L2
namespace L2
open PySem PySem.Spec PyProof.Rows
section
variable {X:Cx} {pins p:List (Addr×Obj)} {σ:St} {H:Hp} {s:Shared} {E:Value→Shared→Prop} {v:Value} {e:Addr} {cls:Value} {dx T:Option Addr}
variable {x:Str} {C D0:Addr} {bm bmD:List Value} {ini iniD:Option Value} {b0:Stmt} {suite:List Stmt} {np npos:Pos} {ts:TS} {D:Ends} {t:Addr}
end
section
variable {X:Cx} {ow:List Bool} {a b:Expr} {mex:MEX} {mb:ME} {pos:Pos}
end
end L2
namespace L2
open PySem
end L2
namespace L2
open PySem PySem.Spec PyProof.Rows
section
variable {X:Cx} {pos p1 q1:Pos} {n1:Nat} {k1:Int} {x:Str} {i:Nat} {ow:List Bool}
end
section
variable {X:Cx} {ow:List Bool} {es:List Expr} {mr:MA} {pos:Pos}
end
end L2
namespace L2
open PySem
end L2
namespace L2
open PySem PySem.Spec PyProof.Rows
theorem vR:bootBuiltins "all" = some (.builtin "all"):=by decide +kernel
section
variable {X:Cx}
end
section
variable {X:Cx} {M:Md} {e e':Expr} {mr:MA} {pos:Pos}
end
end L2
namespace L2
open PySem
def wayF (ps:List Int):D→D
 | .tup [.int a,.int b,_,_]=>au (mM ps a b)
 | d=>d
def gG (rs:List Int) (s:Int) (w l:List Int):List Int:=w.filter fun t=>decide (rs.getD (t - 1).toNat 0<l.getD (t - 1).toNat 0 + s)
def nP:SpD:=fun ds q=>∃ ps rs a w l,ds=[a_ ps rs,dn a,au w,au l]∧Tree ps rs∧(∀ t∈w,0<t∧t≤(ps.length:Int))∧w.length≤1000∧l.length=ps.length∧q (au (gG rs a.size w l)) []
def iu (rs:List Int) (s:Int) (l:List Int):D→Option D
 | .int t=>if decide (rs.getD (t - 1).toNat 0<l.getD (t - 1).toNat 0 + s)=true then some (.int t) else none
 | _=>none
theorem gu (rs:List Int) (s:Int) (l:List Int):∀ w:List Int,(w.map D.int).filterMap (iu rs s l)=(gG rs s w l).map D.int
 | []=>rfl
 | t :: w=>by
  have ih:=gu rs s l w
  unfold gG at *
  rw [List.map_cons,List.filterMap_cons,List.filter_cons]
  have e:iu rs s l (.int t)=if decide (rs.getD (t - 1).toNat 0<l.getD (t - 1).toNat 0 + s)=true then some (.int t) else none:=rfl
  rw [e]
  by_cases h:decide (rs.getD (t - 1).toNat 0<l.getD (t - 1).toNat 0 + s)=true
  ·rw [if_pos h,if_pos h]; simp only [List.map_cons]; rw [ih]
  ·rw [if_neg h,if_neg h]; simp only; rw [ih]
def bp (as:List Ask) (k:Int):Ask:=as.getD k.toNat ask0
end L2
namespace L2
open PySem PySem.Spec PyProof.Rows
section
variable {X:Cx}
end
end L2
namespace L2
open PySem
theorem iH {ps:List Int} {as:List Ask} (ha:AsksOk ps as) {k:Int} (h0 : 0≤k) (h1:k<(as.length:Int)):AskOk ps (bp as k):=ha.ok _ (oe (k:=k.toNat) (by omega))
end L2
namespace L2
open PySem PySem.Spec PyProof.Rows
section
variable {X:Cx}
variable {ow:List Bool} {e e2:Expr} {ma mb:ME}
end
end L2
namespace L2
open PySem
end L2
namespace L2
open PySem PySem.Spec PyProof.Rows
section
variable {X:Cx}
end
def fNeS:D→D→(D→Prop)→Prop:=fun a b q=>match a,b with
 | .str x,.str y=>q (.bl (!decide (x=y)))
 | _,_=>False
theorem dNeS:DOp rNe fNeS:=fun G H x y dx dy q Q s p1 p2 hf k=>by
 unfold fNeS at hf
 split at hf
 ·rename_i x' y'
  have e1:x = .str x':=by rw [Rep] at p1; exact p1
  have e2:y = .str y':=by rw [Rep] at p2; exact p2
  subst e1; subst e2
  refine ⟨rfl,k _ _ ?_ (ck _)⟩
  have e:decide (V.str x'=V.str y')=decide (x'=y'):=by
   rw [Bool.eq_iff_iff,decide_eq_true_iff,decide_eq_true_iff]; exact ⟨fun h=>by injection h,fun h=>by rw [h]⟩
  rw [e]; exact hf
 ·exact hf.elim
end L2
namespace L2
open PySem
end L2
namespace L2
open PySem PySem.Spec PyProof.Rows
section
variable {κ:Type} [DecidableEq κ]
end
section
variable {P:Program} {w:World} {H:Hp} {h:Heap} {a:Addr}
end
section
variable {X:Cx} {pins:List (Addr×Obj)} {σ:St} {H:Hp} {s:Shared} {a:Addr} {y v:V} {u r:Value} {o:Option V} {A:Around} {E:Value→Shared→Prop}
end
section
variable {X:Cx} {pins:List (Addr×Obj)} {σ:St} {H:Hp} {s:Shared} {a:Addr} {kvs:List (Key×V)} {k:Key} {u:Value} {A:Around} {E:Value→Shared→Prop}
end
section
variable {X:Cx} {o i e value:Expr} {pos pos' tpos:Pos} {td ty tv:TE}
end
section
variable {X:Cx} {pos:Pos}
end
section
variable {X:Cx} {pins:List (Addr×Obj)} {σ:St} {H:Hp} {s:Shared} {a:Addr} {y d:V} {u r:Value} {o:Option V} {A:Around} {E:Value→Shared→Prop}
end
section
variable {X:Cx} {o e f:Expr} {apos cpos:Pos} {td ty tx:TE}
end
section
variable {X:Cx} {pins:List (Addr×Obj)} {σ:St} {H:Hp} {s:Shared} {a:Addr} {kvs:List (Key×V)} {A:Around} {E:Value→Shared→Prop}
end
section
variable {X:Cx} {pins:List (Addr×Obj)} {σ:St} {H:Hp} {s:Shared} {a:Addr} {y:V} {u:Value} {A:Around} {E:Value→Shared→Prop}
end
section
variable {C:Ctx} {ow:List Bool} {G:Hp} {ρ:DSt} {σ:St} {H:Hp} {pd:List (D×V)} {O:Own}
end
section
variable {X:Cx} {M:Md} {ow:List Bool} {a b c e:Expr} {ma mb mc:ME} {pos:Pos}
end
section
variable {C:Ctx} {ow:List Bool} {G:Hp} {ρ:DSt} {σ:St} {H:Hp} {pd:List (D×V)} {O:Own}
end
section
variable {X:Cx} {ow:List Bool} {a b e:Expr} {pos:Pos} {ma mb:MN0}
end
section
variable {X:Cx} {M:Md} {ow:List Bool} {i:Nat} {a b e:Expr} {pos:Pos} {mp:MPt} {mz:MN0} {ma:ME}
end
section
variable {X:Cx} {M:Md} {i:Nat} {pos:Pos} {mg:MG} {m:MS}
end
end L2
namespace L2
open PySem
end L2
namespace L2
open PySem PySem.Spec PyProof.Rows
section
variable {X:Cx}
end
section
variable {X:Cx} {pins:List (Addr×Obj)} {σ:St} {H:Hp} {s:Shared}
end
section
variable {X:Cx} {ow:List Bool} {pos:Pos}
end
section
open AutoSeq1 (wpAny_loadPart')
open MeetsSeq MeetsSeq2 MeetsSeq3
end
section
variable {prog:Program} {w:World} {A:Around} {E:Value→Shared→Prop} {s:Shared}
end
section
variable {X:Cx}
end
section
variable {X:Cx} {ow:List Bool} {pos p1 p2 p3 p4:Pos} {j1 j2 j3 j4:Nat}
end
end L2
namespace L2
open PySem
end L2
namespace L2
open PySem PySem.Spec PyProof.Rows
section
variable {X:Cx} {ow:List Bool} {a b:Expr} {ma mb:DSt→(Int→Prop)→Prop} {pos:Pos}
end
section
variable {C:Ctx} {ow:List Bool} {G G':Hp} {ρ:DSt} {σ:St} {H H':Hp} {pd:List (D×V)} {O O':Own}
end
section
variable {X:Cx} {ow:List Bool} {tg iter:Expr} {ifs:List Expr} {pos pos':Pos} {mi:MA} {mg:MG} {scope:Scope} {cl:List (Str×Addr)}
end
section
variable {X:Cx}
def mLRng2 (m:MA):ME:=fun ρ q=>m ρ fun ds ρ'=>match ds with
 | [.int i,.int j]=>(0≤i∧i≤j∧j≤1000)∧q (.lst (kh i (j - i).toNat)) ρ'
 | _=>False
variable {a b:Expr} {mr:MA} {pos:Pos}
end
def Itv (a:Addr) (n:Nat):It :=
 ⟨fun i H=>∃ xs x,H a=some (.lst xs)∧xs.length=n∧i<n∧xs[n - 1 - i]? = some x,fun i H x H'=>H'=H∧∀ xs,H a=some (.lst xs)→xs[n - 1 - i]? = some x,fun i _=>n≤i⟩
theorem oX {P:Program} {w:World} {K:PySem.W.Frag} {tg:Expr} (a it:Addr) (n:Nat):Turn P w K tg (Itv a n) [it] it (fun i h=>i≤n∧h.IsRevIter it a ((n:Int) - 1 - (i:Int))) where
 mem:=by simp
 obj:=fun i h st b hb=>by
  have e:b=it:=by simpa using hb
  subst e
  obtain ⟨_,o,e,c,d⟩:=st
  exact ⟨o,e,fun v z=>by rw [d] at z; cases z⟩
 keep:=fun i h h' st k=>⟨st.1,st.2.at fun o e=>k it (by simp) o e⟩
 item:=by
  intro X hP hw hK hc i pins s σ H E I hf st hg
  subst hP hw hK
  obtain ⟨xs,x,hq,hn,hi,hx⟩:=hg
  obtain ⟨its,rv,p,hz⟩:=I.list (SqL.of hq)
  obtain ⟨u,hu,ru⟩:=rv.get hx
  obtain ⟨f0,f1,f2,f3,f4,f5⟩:=hf it (by simp)
  have st2:=st.2
  rw [show (n:Int) - 1 - (i:Int)=((n - 1 - i:Nat):Int) by omega] at st2
  refine wpAny_pyNext_rev_item st2 p.isList (x:=u) (by simpa using hu) fun h' st' sb=>?_
  have I1:Inv X pins σ H { s with heap:=h' }:=I.turned (t':=s.toks) (fun b o hb e=>(sb.2 b hb).trans e) f0 f1 f3 f4 f5
  obtain ⟨o,e,c,d⟩:=id st'
  refine ⟨u,rfl,ln (s:={ s with heap:=h' }) e c d (by decide) ⟨x,H,I1,ru,⟨rfl,fun ys hy=>by rw [hq] at hy; cases hy; exact hx⟩,⟨hi,?_⟩,fun b hb=>(hf b hb).1⟩⟩
  rw [show (n:Int) - 1 - ((i + 1:Nat):Int)=((n - 1 - i:Nat):Int) - 1 by omega]
  exact st'
 done:=by
  intro X hP hw hK hc i pins s σ H E I hf st hg
  subst hP hw hK
  have hg:n≤i:=hg
  have hg:i=n:=Nat.le_antisymm st.1 hg
  obtain ⟨f0,f1,f2,f3,f4,f5⟩:=hf it (by simp)
  have st2:=st.2
  rw [show (n:Int) - 1 - (i:Int) = -1 by omega] at st2
  exact wpAny_pyNext_rev_end (I.ok.hd hc) st2 fun h' eb=>⟨rfl,I.turned (t':=s.toks) (fun b o hb e=>eb b o hb e) f0 f1 f3 f4 f5⟩
 self:=fun _ _ _ _ _ st h=>wpAny_pyIter_revIter st.2 h
section
variable {X:Cx} {tg:Expr}
def iRev (ta:TA):TI:=fun σ H R=>ta σ H fun vs H1=>∃ a xs,vs=[.ref a]∧H1 a=some (.lst xs)∧R (Itv a xs.length) H1
theorem wu {l:Expr} {ta:TA} {p pos:Pos} (hg:Gl X "reversed") (hm:X.mg "reversed" = none) (ha:PA X [l] ta) (hs:starEach [l] X.env=[(false,eval l X.env)]:=by rfl):PI X tg (.Call (.Name "reversed" p) [l] [] pos) (iRev ta):=by
 refine ⟨fun pins s σ H R I h=>?_⟩
 refine Call_ (dD I hg hm (show bootBuiltins "reversed" = some (.type "reversed") by decide +kernel) (PyProof.Rows.callWith_type1 (thn (ha pos pins s σ H _ I h) fun us s1 ⟨vs,H1,I1,r1,q1⟩=>?_) hs rfl))
 obtain ⟨a,xs,e,hx,q⟩:=q1
 subst e
 obtain ⟨u,rfl,ru⟩:=cH r1
 cases ru
 obtain ⟨its,rv,p1,hz⟩:=I1.list (SqL.of hx)
 have hl:=rv.length
 refine call_reversed_list p1.isList ?_
 refine wpAny_pyIter_revIter (it:=s1.heap.objs.size) (l:=a) (i:=(its.toArray.size:Int) - 1) ⟨_,Heap.get?_push_size _ rfl,rfl,rfl⟩ ?_
 refine ⟨s1.heap.objs.size,[s1.heap.objs.size],_,_,H1,rfl,I1.kept (t':=s1.toks) fun b o e=>Heap.get?_push_of_some _ e,oX a _ xs.length,⟨Nat.zero_le _,_,Heap.get?_push_size _ rfl,rfl,?_⟩,fun b hb=>?_,q⟩
 ·have e1:its.toArray.size=xs.length:=by simp; omega
  show Data.fields #[.ref a,rawInt ((its.toArray.size:Int) - 1)]=Data.fields #[.ref a,rawInt ((xs.length:Int) - 1 - ((0:Nat):Int))]
  rw [e1]
  congr 3
  simp
 ·have e:b=s1.heap.objs.size:=by simpa using hb
  subst e
  exact I1.fpOk (Nat.le_refl _) (I1.hok.fresh (Nat.le_refl _))
theorem u8 {G:Hp} {p:Addr} {xs:List V} {ds:List D} (h1:G p=some (.lst xs)) (h2:Reps G ds xs):iy (Itv p xs.length) G ds.reverse:=fun C ow G' ρ σ H pd i z r=>by
 have hp:=r.gh _ _ (z _ _ h1)
 have hl:=h2.length
 refine ⟨fun h=>by rw [List.length_reverse] at h; show xs.length≤i; omega,fun d e=>?_⟩
 have hi:i<ds.length:=by have:=(List.getElem?_eq_some_iff.mp e).1; rw [List.length_reverse] at this; exact this
 rw [List.getElem?_reverse hi] at e
 obtain ⟨v,e1,e2⟩:=cQ h2 e
 rw [← hl] at e1
 refine ⟨⟨xs,v,hp,rfl,by omega,e1⟩,fun x H' hy=>?_⟩
 obtain ⟨rfl,hy⟩:=hy
 have:=hy xs hp
 rw [e1] at this; cases this
 exact ⟨G',aF.refl _,r,Rep.mono z _ _ e2⟩
def miRev (m:MA):MA:=fun ρ q=>m ρ fun ds ρ'=>match ds with
 | [.lst ds]=>q ds.reverse ρ'
 | _=>False
variable {ow:List Bool} {a:Expr} {mr:MA} {pos:Pos}
theorem xg {p:Pos} (hg:Gl X "reversed") (hm:X.mg "reversed" = none) (ha:QA X ow [a] mr) (hs:starEach [a] X.env=[(false,eval a X.env)]:=by rfl):QI X ow tg (.Call (.Name "reversed" p) [a] [] pos) (miRev mr):=by
 obtain ⟨t,p,s⟩:=ha
 refine ⟨_,wu hg hm p hs,fun C G ρ σ H pd q Q r hm k=>s C G ρ σ H pd _ _ r hm fun ds ρ' vs G' H' hq z kp r' p hn=>?_⟩
 split at hq
 ·obtain ⟨v,rfl,p1⟩:=aZ p
  obtain ⟨a,xs,rfl,h1,h2⟩:=aW p1
  exact ⟨a,xs,rfl,r'.gh _ _ h1,k _ ρ' G' H' _ hq z kp r' (u8 h1 h2)⟩
 ·exact hq.elim
end
theorem aV {G:Hp} {b:Str} {v:V} (h:Rep G (.str b) v):v = .str b:=by rw [Rep] at h; exact h
theorem cj {n:Nat} (h:n≤1000000):n≤sizeLine:=by rw [sizeLine_eq]; omega
section
variable {X:Cx}
def t4:R2:=fun x y H Q=>∃ a b,x = .str a∧y = .str b∧a.length + b.length≤1000000∧Q (.str (a++b)) H
theorem ly:OpR X (binaryOp .Add) t4:=by
 intro pins s σ H x y v u Q I rx ry h
 obtain ⟨a,b,rfl,rfl,hl,q⟩:=h
 obtain ⟨t,rfl⟩:=rx
 obtain ⟨t',rfl⟩:=ry
 exact SB.add (fun t2 k=>⟨.str (a++b),H,I.tok _,⟨_,rfl⟩,q⟩) (cj hl)
def tV:D→D→(D→Prop)→Prop:=fun a b q=>match a,b with
 | .str x,.str y=>x.length + y.length≤1000000∧q (.str (x++y))
 | _,_=>False
theorem tX:DOp t4 tV:=fun G H x y dx dy q Q s p1 p2 hf k=>by
 unfold tV at hf
 split at hf
 ·exact ⟨_,_,aV p1,aV p2,hf.1,k _ _ hf.2 (cK _)⟩
 ·exact hf.elim
def rInS (b:Bool):R2:=fun x y H Q=>∃ c a,x = .str c∧y = .str a∧Q (.bl (if b=true then !Txt.contains a c else Txt.contains a c)) H
theorem wq:OpR X (compareOp .In) (rInS false):=by
 intro pins s σ H x y v u Q I rx ry h
 obtain ⟨a,b,rfl,rfl,q⟩:=h
 obtain ⟨t,rfl⟩:=rx
 obtain ⟨t',rfl⟩:=ry
 exact SB.contains ⟨.bl _,H,I,rfl,q⟩
def fInS (b:Bool):D→D→(D→Prop)→Prop:=fun c a q=>match c,a with
 | .str x,.str y=>q (.bl (if b=true then !Txt.contains y x else Txt.contains y x))
 | _,_=>False
theorem dInS {b:Bool}:DOp (rInS b) (fInS b):=fun G H x y dx dy q Q s p1 p2 hf k=>by
 unfold fInS at hf
 split at hf
 ·exact ⟨_,_,aV p1,aV p2,k _ _ hf (ck _)⟩
 ·exact hf.elim
theorem mK:bX X (.builtin "len") (fun xs H Q=>∃ a:Str,xs=[.str a]∧a.length≤1000000∧Q (.int (a.length:Nat)) H):=by
 intro pins s σ H xs us Q I r h
 obtain ⟨a,rfl,hl,q⟩:=h
 obtain ⟨u,rfl,t,rfl⟩:=cH r
 exact P.len_str (by omega) ⟨.int (a.length:Nat),H,I.tok _,⟨_,rfl⟩,q⟩
def t9:List D→(D→Prop)→Prop:=fun ds q=>match ds with
 | [.str a]=>a.length≤1000000∧q (.int (a.length:Nat))
 | _=>False
theorem dLenS:di (fun xs H Q=>∃ a:Str,xs=[.str a]∧a.length≤1000000∧Q (.int (a.length:Nat)) H) t9:=fun G H xs ds q Q s p hf k=>by
 unfold t9 at hf
 split at hf
 ·obtain ⟨v,rfl,p1⟩:=aZ p
  exact ⟨_,by rw [aV p1],hf.1,k _ _ hf.2 (a8 _)⟩
 ·exact hf.elim
theorem mH:bX X (.type "int") (fun xs H Q=>∃ (a:Str) (n:Int),xs=[.str a]∧intText? a=some n∧a.length≤640∧Q (.int n) H):=by
 intro pins s σ H xs us Q I r h
 obtain ⟨a,n,rfl,hn,hl,q⟩:=h
 obtain ⟨u,rfl,t,rfl⟩:=cH r
 exact PySem.W.KIN.call_text hn hl ⟨.int n,H,I.tok _,⟨_,rfl⟩,q⟩
def t6:List D→(D→Prop)→Prop:=fun ds q=>match ds with
 | [.str a]=>∃ n,intText? a=some n∧a.length≤640∧q (.int n)
 | _=>False
theorem dIntS:di (fun xs H Q=>∃ (a:Str) (n:Int),xs=[.str a]∧intText? a=some n∧a.length≤640∧Q (.int n) H) t6:=fun G H xs ds q Q s p hf k=>by
 unfold t6 at hf
 split at hf
 ·obtain ⟨v,rfl,p1⟩:=aZ p
  obtain ⟨n,h1,h2,hf⟩:=hf
  exact ⟨_,n,by rw [aV p1],h1,h2,k _ _ hf (a8 _)⟩
 ·exact hf.elim
def fIxS:D→D→(D→Prop)→Prop:=fun a b q=>match a,b with
 | .str z,.int i=>z.length≤1000000∧∃ c,atI z.cps.toList i=some c∧q (.str ⟨#[c]⟩)
 | _,_=>False
theorem dIxS:DOp rIxS fIxS:=fun G H x y dx dy q Q s p1 p2 hf k=>by
 unfold fIxS at hf
 split at hf
 ·obtain ⟨hz,c,hc,hf⟩:=hf
  exact ⟨_,_,c,aV p1,aw p2,by first | exact cj hz | (have:=cj hz; omega),hc,k _ _ hf (cK _)⟩
 ·exact hf.elim
theorem nE {ow:List Bool} {pos:Pos} {x:Str} {i:Str} (hg:Gl X x) (hm:∃ t,X.mg x=some (.str i t)) (hd:(x == ("__debug__":Str))=false:=by decide):QE X ow (.Name x pos) (mC (.str i)):=by
 obtain ⟨t,hm⟩:=hm
 exact mo (lx (v:=.str i) hg hm ⟨t,rfl⟩ hd) fun _=>cK _
open PySem.Builtin.Str (partsBetween occurrences)
theorem h8:∀ {l:List (Str×Tok)},aN ((l.map (·.1)).map V.str) (strValues l)
 | []=>.nil
 | (x,t) :: l=>.cons ⟨t,rfl⟩ (h8 (l:=l))
theorem gE {pins:List (Addr×Obj)} {σ:St} {H:Hp} {s:Shared} {l:List (Str×Tok)} {n:Nat} {tk:Nat} (I:Inv X pins σ H s) (hl:l.length≤1000000) :
 Inv X pins σ (upd H s.heap.objs.size (.lst ((l.map (·.1)).map V.str))) { s with heap:=s.heap.push { cls:=.type "list",data:=.seq (strValues l).toArray n },toks:=tk }:=by
 refine I.laid (a:=s.heap.objs.size) (o:=.lst ((l.map (·.1)).map V.str)) (fun _ _ e=>Heap.get?_push_of_some _ e) (Nat.le_refl _) ⟨?_,strValues l,n,h8,Heap.get?_push_size _ rfl⟩
 rw [List.length_map,List.length_map]; exact cj hl
def u_:V→List V→Hp→VK→Prop:=fun x xs H Q=>∃ a b:Str,x = .str a∧xs=[.str b]∧(b.length == 0)=false∧a.length≤100000∧∀ p,H p=none→Q (.ref p) (upd H p (.lst ((Txt.split a b).map V.str)))
theorem p_:MtR X "str.split" u_:=by
 intro pins s σ H x xs v us Q I rx rv h
 obtain ⟨a,b,rfl,rfl,hb,hl,q⟩:=h
 obtain ⟨t,rfl⟩:=rx
 obtain ⟨u',rfl,u,rfl⟩:=cH rv
 have hn:(partsBetween a (occurrences a b 0 a.length (a.length + 1)) b.length).length≤1000000:=by
  have e1:=StrLaws.occ_length_le a b 0 a.length (a.length + 1)
  rw [length_partsBetween]; omega
 have fr:=q _ (I.hok.fresh (Nat.le_refl _))
 cases h1:(decide (a.length<b.length)||decide (Builtin.Str.strKind a<Builtin.Str.strKind b))
 ·cases hf:(occurrences a b 0 a.length (a.length + 1)).isEmpty
  ·refine call_meets F.slot_str_split (typeIs_str _ _ _) F.entry_str_split (F.args_str_split_2 _ _) (meets_str_split_sep a b t u h1 hb hf (cj (by omega)) (cj hn)) ?_
   have es:Txt.split a b=partsBetween a (occurrences a b 0 a.length (a.length + 1)) b.length:=(if_neg (ne_true_of_eq_false h1)).trans (if_neg (ne_true_of_eq_false hf))
   show EP X pins σ Q (.ref s.heap.objs.size) { s with toks:=_,heap:=s.heap.push { cls:=.type "list",data:=.seq (strsFrom s.toks (partsBetween a (occurrences a b 0 a.length (a.length + 1)) b.length)).toArray } }
   rw [strsFrom_eq]
   have el:=numbered_texts s.toks (partsBetween a (occurrences a b 0 a.length (a.length + 1)) b.length)
   rw [es,← el] at fr
   exact ⟨.ref s.heap.objs.size,_,gE I (by have:=congrArg List.length el; rw [List.length_map] at this; omega),rfl,fr⟩
  ·have es:Txt.split a b=[a]:=(if_neg (ne_true_of_eq_false h1)).trans (if_pos hf)
   rw [es] at fr
   exact call_meets F.slot_str_split (typeIs_str _ _ _) F.entry_str_split (F.args_str_split_2 _ _) (meets_str_split_not_found a b t u h1 hb hf)
    ⟨.ref s.heap.objs.size,_,gE (l:=[(a,t)]) I (by show 1≤_; decide),rfl,fr⟩
 ·have es:Txt.split a b=[a]:=if_pos h1
  rw [es] at fr
  exact call_meets F.slot_str_split (typeIs_str _ _ _) F.entry_str_split (F.args_str_split_2 _ _) (meets_str_split_cannot_occur a b t u h1)
   ⟨.ref s.heap.objs.size,_,gE (l:=[(a,t)]) I (by show 1≤_; decide),rfl,fr⟩
theorem hE:∀ l:List Str,imms (l.map D.str)=true
 | []=>rfl
 | x :: l=>by rw [List.map_cons,imms,hE l]; rfl
theorem fS {G:Hp}:∀ l:List Str,Reps G (l.map D.str) (l.map V.str)
 | []=>bg
 | x :: l=>bb (cK _) (fS l)
variable {ow:List Bool} {e a b:Expr} {ma mb:ME}
def wx (m m1:ME):ME:=fun ρ q=>m ρ fun d ρ1=>match d with
 | .str x=>m1 ρ1 fun d1 ρ2=>match d1 with
  | .str y=>((y.length == 0)=false∧x.length≤100000)∧q (.lst ((Txt.split x y).map D.str)) ρ2
  | _=>False
 | _=>False
theorem oR {apos cpos:Pos} (h:QE X ow e ma) (hb:QE X ow b mb)
 (hbase:attributeBase e "split" X.env (eval e X.env)=eval e X.env:=by rfl)
 (hfew:((backTo cpos (starEach [b] X.env)).all (fun x=>!x.1)&&(backToKw cpos (keywordEach [] X.env)).all (fun x=>x.1.isSome)
  && decide (([b]:List Expr).length + ([]:List Keyword).length + (if ([]:List Keyword).isEmpty then 0 else 1)<30))=true:=by rfl)
 (hline:(apos.endLine == cpos.line)=true:=by rfl) (hst:starEach [b] X.env=[(false,eval b X.env)]:=by rfl) :
 QF X ow (.Call (.Attribute e "split" apos) [b] [] cpos) (wx ma mb):=by
 obtain ⟨t,p,s⟩:=h; obtain ⟨t1,p1,s1⟩:=hb
 refine ⟨_,lv PySem.F.plainAttrs_str PySem.F.slot_str_split PySem.F.type_str_split p_ p (bK p1 dr hst) hbase hfew hline hst (by rfl),fun C G ρ σ H pd q Q r hm k=>s C G ρ σ H pd _ _ r hm fun d ρ' v G' H' hq z kp r' pp=>?_⟩
 cases d with
 | str x =>
  rw [aV pp]
  refine ⟨rfl,s1 C G' ρ' σ H' pd _ _ r' hq fun d2 ρ2 v2 G2 H2 hq2 z2 kp2 r2 p2=>?_⟩
  cases d2 with
  | str y =>
   rw [aV p2]
   refine ⟨x,y,rfl,rfl,hq2.1.1,hq2.1.2,fun l hl=>?_⟩
   obtain ⟨O,r2⟩:=r2
   exact k _ ρ2 _ _ _ hq2.2 (z.trans z2) (kp.trans kp2) (r2.newL hl (hE _) (fS _))
  | _=>exact hq2.elim
 | _=>exact hq.elim
def rJoin:V→List V→Hp→VK→Prop:=fun x xs H Q=>∃ (a:Str) (l:Addr) (ts:List Str),x = .str a∧xs=[.ref l]∧H l=some (.lst (ts.map V.str))∧JoinOk a ts=true∧Q (.str (Txt.join a ts)) H
theorem lG:∀ {ts:List Str} {us:List Value},aN (ts.map V.str) us→∃ l:List (Str×Tok),us=strValues l∧l.map (·.1)=ts
 | [],us,r=>by cases r; exact ⟨[],rfl,rfl⟩
 | x :: ts,us,r=>by
  cases r with
  | cons r rr =>
   obtain ⟨t,rfl⟩:=r
   obtain ⟨l,rfl,e⟩:=lG rr
   exact ⟨(x,t) :: l,rfl,by rw [List.map_cons,e]⟩
theorem rY:MtR X "str.join" rJoin:=by
 intro pins s σ H x xs v us Q I rx rv h
 obtain ⟨a,l,ts,rfl,rfl,hH,hok,q⟩:=h
 obtain ⟨t,rfl⟩:=rx
 obtain ⟨u',rfl,ru⟩:=cH rv
 cases ru
 obtain ⟨its,r,pl,hz⟩:=I.list (SqL.of hH)
 obtain ⟨ls,rfl,e⟩:=lG r
 exact SC.join pl.isList e hok fun t' k=>⟨.str (Txt.join a ts),H,I.tok _,⟨_,rfl⟩,q⟩
def mJoin (m m1:ME):ME:=fun ρ q=>m ρ fun d ρ1=>match d with
 | .str x=>m1 ρ1 fun d1 ρ2=>match d1 with
  | .lst ds=>∃ ts:List Str,ds=ts.map D.str∧JoinOk x ts=true∧q (.str (Txt.join x ts)) ρ2
  | _=>False
 | _=>False
theorem e9 {G:Hp}:∀ {ts:List Str} {xs:List V},Reps G (ts.map D.str) xs→xs=ts.map V.str
 | [],xs,h=>by rw [List.map_nil,Reps] at h; exact h
 | x :: ts,xs,h=>by
  rw [List.map_cons,Reps] at h
  obtain ⟨v,vs,rfl,h1,h2⟩:=h
  rw [aV h1,e9 h2]; rfl
theorem fk {apos cpos:Pos} (h:QE X ow e ma) (hb:QE X ow b mb)
 (hbase:attributeBase e "join" X.env (eval e X.env)=eval e X.env:=by rfl)
 (hfew:((backTo cpos (starEach [b] X.env)).all (fun x=>!x.1)&&(backToKw cpos (keywordEach [] X.env)).all (fun x=>x.1.isSome)
  && decide (([b]:List Expr).length + ([]:List Keyword).length + (if ([]:List Keyword).isEmpty then 0 else 1)<30))=true:=by rfl)
 (hline:(apos.endLine == cpos.line)=true:=by rfl) (hst:starEach [b] X.env=[(false,eval b X.env)]:=by rfl) :
 QE X ow (.Call (.Attribute e "join" apos) [b] [] cpos) (mJoin ma mb):=by
 obtain ⟨t,p,s⟩:=h; obtain ⟨t1,p1,s1⟩:=hb
 refine ⟨_,lv PySem.F.plainAttrs_str PySem.F.slot_str_join PySem.F.type_str_join rY p (bK p1 dr hst) hbase hfew hline hst (by rfl),fun C G ρ σ H pd q Q r hm k=>s C G ρ σ H pd _ _ r hm fun d ρ' v G' H' hq z kp r' pp=>?_⟩
 cases d with
 | str x =>
  rw [aV pp]
  refine ⟨rfl,s1 C G' ρ' σ H' pd _ _ r' hq fun d2 ρ2 v2 G2 H2 hq2 z2 kp2 r2 p2=>?_⟩
  cases d2 with
  | lst ds =>
   obtain ⟨ts,rfl,hok,hq2⟩:=hq2
   obtain ⟨l,xs,rfl,g1,g2⟩:=aW p2
   have ex:=e9 g2
   subst ex
   exact ⟨x,l,ts,rfl,rfl,r2.gh _ _ g1,hok,k _ ρ2 _ _ _ hq2 (z.trans z2) (kp.trans kp2) r2 (cK _)⟩
  | _=>exact hq2.elim
 | _=>exact hq.elim
end
def sgD (x:Str):List D:=x.cps.toList.map fun c=>.str ⟨#[c]⟩
def Its (x:Str):It:=⟨fun i _=>i<x.cps.size,fun i H v H'=>H'=H∧∃ c,x.cps[i]? = some c∧v = .str ⟨#[c]⟩,fun i _=>x.cps.size≤i⟩
theorem pA {P:Program} {w:World} {K:PySem.W.Frag} {tg:Expr} (it:Addr) (x:Str) (ty:String) (t:Tok) (hn : ["enumerate","zip","dict_itemiterator","dict_reverseitemiterator","odict_iterator","itertools.zip_longest","itertools.pairwise"].contains ty=false)
 (W:∀ A':Around,A'.handled=none→Walks P w A' it [it] [it] x.cps.size (SignAt x) (fun i h=>h.IsStrIter it ty x t i))
 (slf:∀ (A:Around) (i:Nat) (s:Shared) (Q:Value→Shared→Prop) (E:Value→Shared→Prop),s.heap.IsStrIter it ty x t i→Q (.ref it) s→wpAny (model P w) A (pyIter (.ref it)) Q E s) :
 Turn P w K tg (Its x) [it] it (fun i h=>i≤x.cps.size∧h.IsStrIter it ty x t i) where
 mem:=by simp
 obj:=fun i h st b hb=>by
  have e:b=it:=by simpa using hb
  subst e
  obtain ⟨_,o,e,c,d⟩:=st
  exact ⟨o,e,fun v z=>by rw [d] at z; cases z⟩
 keep:=fun i h h' st k=>⟨st.1,(W {} rfl).frame i h h' st.2 fun b hb o e=>k b hb o e⟩
 item:=by
  intro X hP hw hK hc i pins s σ H E I hf st hg
  subst hP hw hK
  obtain ⟨f0,f1,f2,f3,f4,f5⟩:=hf it (by simp)
  refine (W X.A (I.ok.hd hc)).item i s _ _ hg st.2 fun v h' tk hv st' kk=>?_
  obtain ⟨c,u,hx,rfl⟩:=hv
  have I1:Inv X pins σ H { s with heap:=h',toks:=tk }:=I.turned (fun b o hb e=>kk b o (by simpa using hb) e) f0 f1 f3 f4 f5
  obtain ⟨o,e,c',d⟩:=id st'
  exact ⟨_,rfl,ln (s:={ s with heap:=h',toks:=tk }) e c' d hn ⟨.str ⟨#[c]⟩,H,I1,⟨u,rfl⟩,⟨rfl,c,hx,rfl⟩,⟨hg,st'⟩,fun b hb=>(hf b hb).1⟩⟩
 done:=by
  intro X hP hw hK hc i pins s σ H E I hf st hg
  subst hP hw hK
  obtain ⟨f0,f1,f2,f3,f4,f5⟩:=hf it (by simp)
  have hi:i=x.cps.size:=Nat.le_antisymm st.1 hg
  have st2:=st.2
  rw [hi] at st2
  exact (W X.A (I.ok.hd hc)).done s _ _ st2 fun h' tk kk=>⟨rfl,I.turned (fun b o hb e=>kk b o (by simpa using hb) e) f0 f1 f3 f4 f5⟩
 self:=fun A i s Q E st h=>slf A i s Q E st.2 h
section
variable {X:Cx} {tg:Expr}
def iStr (tl:TE):TI:=fun σ H R=>tl σ H fun x H1=>∃ a:Str,x = .str a∧R (Its a) H1
theorem vD {l:Expr} {tl:TE} (hl:PE X l tl):PI X tg l (iStr tl):=by
 refine ⟨fun pins s σ H R I h=>thn (hl pins s σ H _ I h) fun v s1 ⟨x,H1,I1,r1,q1⟩=>?_⟩
 obtain ⟨a,rfl,q⟩:=q1
 obtain ⟨t,rfl⟩:=r1
 have fin:∀ (ty:String),(["enumerate","zip","dict_itemiterator","dict_reverseitemiterator","odict_iterator","itertools.zip_longest","itertools.pairwise"].contains ty=false) →
  (∀ A':Around,A'.handled=none→Walks X.prog X.w A' s1.heap.objs.size [s1.heap.objs.size] [s1.heap.objs.size] a.cps.size (SignAt a) (fun i h=>h.IsStrIter s1.heap.objs.size ty a t i)) →
  (∀ (A:Around) (i:Nat) (s:Shared) (Q:Value→Shared→Prop) (E:Value→Shared→Prop),s.heap.IsStrIter s1.heap.objs.size ty a t i→Q (.ref s1.heap.objs.size) s→wpAny (model X.prog X.w) A (pyIter (.ref s1.heap.objs.size)) Q E s) →
  PIE X pins σ tg R (.ref s1.heap.objs.size) { s1 with heap:=s1.heap.push { cls:=.type ty,data:=.fields #[.str a t,.int 0 0] } }:=fun ty hn W slf=>by
  refine ⟨s1.heap.objs.size,[s1.heap.objs.size],_,_,H1,rfl,I1.kept (t':=s1.toks) fun b o e=>Heap.get?_push_of_some _ e,pA _ a ty t hn W slf,⟨Nat.zero_le _,_,Heap.get?_push_size _ rfl,rfl,rfl⟩,fun b hb=>?_,q⟩
  have e:b=s1.heap.objs.size:=by simpa using hb
  subst e
  exact I1.fpOk (Nat.le_refl _) (I1.hok.fresh (Nat.le_refl _))
 cases ha:a.cps.all (· < 128)
 ·exact wpAny_pyIter_wide ha (fin _ (by decide) (fun A' hA=>Walks.strWide hA _ a t) fun A i s Q E st h=>wpAny_pyIter_striter_wide st h)
 ·exact wpAny_pyIter_ascii ha (fin _ (by decide) (fun A' hA=>Walks.strAscii hA _ a t) fun A i s Q E st h=>wpAny_pyIter_striter_ascii st h)
theorem tW {x:Str} {i:Nat} {d:D} (h:(sgD x)[i]? = some d):∃ c,x.cps[i]? = some c∧d = .str ⟨#[c]⟩:=by
 unfold sgD at h
 rw [List.getElem?_map,Array.getElem?_toList] at h
 obtain ⟨c,h1,h2⟩:=Option.map_eq_some_iff.mp h
 exact ⟨c,h1,h2.symm⟩
theorem qc (x:Str):(sgD x).length=x.cps.size:=by unfold sgD; rw [List.length_map,Array.length_toList]
theorem va {G:Hp} {x:Str}:iy (Its x) G (sgD x):=fun C ow G' ρ σ H pd i z r=>by
 refine ⟨fun hl=>by rw [qc] at hl; exact hl,fun d e=>?_⟩
 obtain ⟨c,h1,rfl⟩:=tW e
 refine ⟨(Array.getElem?_eq_some_iff.mp h1).1,fun v H' hy=>?_⟩
 obtain ⟨rfl,c',h2,rfl⟩:=hy
 rw [h1] at h2; cases h2
 exact ⟨G',aF.refl _,r,cK _⟩
variable {ow:List Bool} {e:Expr} {ma:ME}
def miStr (m:ME):MA:=fun ρ q=>m ρ fun d ρ'=>match d with
 | .str x=>q (sgD x) ρ'
 | _=>False
theorem wK (h:QE X ow e ma):QI X ow tg e (miStr ma):=by
 obtain ⟨t,p,s⟩:=h
 refine ⟨_,vD p,fun C G ρ σ H pd q Q r hm k=>s C G ρ σ H pd _ _ r hm fun d ρ' v G' H' hq z kp r' p=>?_⟩
 cases d with
 | str x=>exact ⟨x,aV p,k _ ρ' G' H' _ hq z kp r' va⟩
 | _=>exact hq.elim
end
end L2
namespace L2
open PySem PySem.Spec PyProof.Rows
section
variable {X:Cx}
end
end L2
namespace L2
open PySem
end L2
namespace L2
open PySem PySem.Spec PyProof.Rows
section
variable {prog:Program} {w:World} {A:Around} {E:Value→Shared→Prop} {s:Shared}
end
section
variable {X:Cx}
end
end L2
namespace L2
open PySem
end L2
namespace L2
open PySem PySem.Spec PyProof.Rows
section
variable {X:Cx} {ow:List Bool} {a b:Expr} {mex:MEX} {mb:ME} {pos:Pos}
end
section
variable {X:Cx} {pos p1 q1:Pos} {n1 n2:Nat} {k1 z:Int} {ow:List Bool}
end
section
variable {X:Cx} {ow:List Bool} {a b:Expr} {ma mb:ME} {pos:Pos}
end
section
variable {K:PySem.W.Frag} {mg:Str→Option Value} {n:Str} {st:Stmt} {ps:List Str} {f:Addr} {d:FuncData}
structure FT (K:PySem.W.Frag) (mg:Str→Option Value) (n:Str) (st:Stmt) (ps:List Str) (f:Addr) (d:FuncData):Prop where
 F:Fun K n n st f d
 b:fX K d ps []
 m:mg n=some (.ref f)
structure FH (K:PySem.W.Frag) (n:Str) (st:Stmt) (f:Addr) (d:FuncData):Prop where
 a:PySem.W.nsIn K mainGlobals n=some (some (.ref f))
 F:Fun K n n st f d
theorem aH {oc:Value} {od an:Option Addr} {osl:Array (Option Value)} {kV doc pm cdv ct:Value} (a:PySem.W.nsIn K mainGlobals n=some (some (.ref f))) (l:K.lookup f=some ⟨oc,od,.func (PySem.W.fnOf n n (dF st) (ce st) (ah st) .none kV doc pm an cdv ct),osl⟩)
 (c:PySem.W.codeIn K cdv n=true) (k:PySem.W.keepIn K (.ref f)=true):FH K n st f (PySem.W.fnOf n n (dF st) (ce st) (ah st) .none kV doc pm an cdv ct):=⟨a,vO l c k⟩
theorem FH.ft {h:Heap} (z:FH K n st f d) (X:K.In h) (G:h.Ns mainGlobals mg)
 (hb:∀ (kV doc pm:Value) (an:Option Addr) (cdv ct:Value) (us:List Value),us.length=ps.length→bindArgs (PySem.W.fnOf n n (dF st) (ce st) (ah st) .none kV doc pm an cdv ct) ⟨us,[]⟩=pure (ps.zip us)):FT K mg n st ps f d:=⟨z.F,z.F.binds hb,PySem.W.mg_of X G z.a⟩
theorem aG {N P:List Str} {sc:Scope} (a:sc.kind = .function:=by rfl) (b:sc.isCoroutine=false:=by rfl) (c:sc.isGenerator=false:=by rfl) (d:N.Nodup:=by decide +kernel) (e:N.take P.length=P:=by rfl)
 (g:∀ x∈P,sc.names.lookup x=some .local∨sc.names.lookup x=some .cell:=by decide +kernel) (h:∀ y∈sc.names,y.2≠.free:=by decide +kernel):FnScope N P sc:=⟨a,b,c,d,e,g,h⟩
end
section
variable {X:Cx} {ow:List Bool} {k j:Nat} {f:Addr} {fd:FuncData} {ps:List Str} {mu:List Bool} {sd:SpD} {sx:SpX} {x:Str} {st:Stmt} {ks:List AK} {e:Expr} {es:List Expr} {mr:MA} {pos p':Pos}
theorem ag (F:FnOk X.prog X.w X.K X.mg X.base CX0 k f fd ps (aQ mu false sd)) (hr:Room j X.A) (t:FT X.K X.mg x st ps f fd) (ha:QAk X ow ks (e :: es) mr) (hj:k≤j:=by decide) (hg:Gl X x:=by rfl) (hmu:mu=ks.map AK.isM:=by rfl) (nd:(aA ks).Nodup:=by decide) (hw:∀ i∈aA ks,ow[i]? = some true:=by decide) (hdb:(x == ("__debug__":Str))=false:=by decide)
 (he:starEach (e :: es) X.env=(false,eval e X.env) :: starEach es X.env:=by rfl) (hpl:(backTo pos (starEach es X.env)).any (·.1)=false:=by rfl):QE X ow (.Call (.Name x p') (e :: es) [] pos) (lZ ks sd mr):=sI F (hr.mono hj) hg t.m t.F.kp t.b ha hmu nd hw hdb he hpl
theorem aO (F:FnOk X.prog X.w X.K X.mg X.base CX0 k f fd ps (aQ mu true sd)) (hr:Room j X.A) (t:FT X.K X.mg x st ps f fd) (ha:QAk X ow ks (e :: es) mr) (hj:k≤j:=by decide) (hg:Gl X x:=by rfl) (hmu:mu=ks.map AK.isM:=by rfl) (nd:(aA ks).Nodup:=by decide) (hw:∀ i∈aA ks,ow[i]? = some true:=by decide) (hdb:(x == ("__debug__":Str))=false:=by decide)
 (he:starEach (e :: es) X.env=(false,eval e X.env) :: starEach es X.env:=by rfl) (hpl:(backTo pos (starEach es X.env)).any (·.1)=false:=by rfl):QF X ow (.Call (.Name x p') (e :: es) [] pos) (lZ ks sd mr):=sU F (hr.mono hj) hg t.m t.F.kp t.b ha hmu nd hw hdb he hpl
end
section
variable {K:PySem.W.Frag} {C a N:Addr} {dd nd:Option Addr} {nm qn x:Str} {bs bm sub:List Value} {hd ab:Bool} {sn:List Str} {col:Option Bool} {k0 k1 k2 k3 k5 ini:Option Value} {no:Value} {es:Array DictEntry} {np:Nat} {nl:Array (Option Value)}
end
end L2
namespace L2
open PySem PySem.Spec PyProof.Rows PySem.W Att
section
variable {prog:Program} {w:World} {A:Around} {E:Value→Shared→Prop} {s:Shared}
theorem jR {r:Addr} {a b c:Int} {t u v:Tok} {n:Nat} {Q:List Value→Shared→Prop} (hh:A.handled=none) (hr:IsRange s.heap r a b c t u v) (hsmall:Builtin.Range.small a b c=true)
 (hn:Builtin.Range.rangeSize a b c=n) (hlen:n≤2 ^ 24)
 (h:∀ h' tk (ys:List Value),s.heap.objs.size≤h'.objs.size→(∀ b o,s.heap.get? b=some o→h'.get? b=some o)→ys.length=n→(∀ (j:Nat) v,ys[j]? = some v→∃ t,v=Value.int (a + j * c) t)→Q ys { s with heap:=h',toks:=tk }) :
 wpAny (model prog w) A (collect (.ref r)) Q E s:=by
 unfold collect
 refine wpAny_bind (wpAny_runValue (codeAny_builtin F.entry_proto_collect ?_))
 rw [Around.under_plainId F.plain_proto_collect _]
 show wpAny _ A.in1 (newList [] >>= fun l=>again (.builtin "list.__iadd__" ⟨[l,.ref r],[]⟩)) _ _ s
 refine wpAny_bind (wpAny_newObj_type ?_)
 refine wpAny_pure ⟨plainId_quiet F.plain_list_iadd _,codeAny_builtin F.entry_list_iadd ?_⟩
 rw [Around.under_plainId F.plain_list_iadd _]
 have hr':IsRange (s.heap.push (seqObj "list" #[] 0)) r a b c t u v:=Heap.get?_push_of_some _ hr
 have fin:∀ h' tk acc' c',(∀ b o,b≠s.heap.objs.size→(s.heap.push (seqObj "list" #[] 0)).get? b=some o→h'.get? b=some o)→h'.get? s.heap.objs.size=some { cls:=.type "list",dict:=none,data:=.seq acc' c',slots:=#[] } →
  ItemsOf (fun i v=>∃ t,v = .int (a + i * c) t) acc' n→wpAny (model prog w) A (do
   let o ← load s.heap.objs.size
   match o.data with
   | .seq xs _=>pure xs.toList
   | _=>unsupported "internal:collect") Q E { s with heap:=h',toks:=tk }:=fun h' tk acc' c' hk hS' hacc=>by
  refine wpAny_bind (wpAny_load hS' ?_)
  refine wpAny_pure (h h' tk acc'.toList (Nat.le_of_lt (Heap.lt_size hS')) (fun b o e=>hk b o (Nat.ne_of_lt (Heap.lt_size e)) (Heap.get?_push_of_some _ e)) (by simpa using hacc.1) fun j v hv=>?_)
  exact hacc.2 j v (by simpa using hv)
 have main := wpAny_extend_range (prog := prog) (w := w) (A := A) (s := { s with heap := s.heap.push (seqObj "list" #[] 0) }) (R := fun r s' => r = .ok (.ret (.ref s.heap.objs.size)) ∧ wpAny (model prog w) A (do
       let o ← load s.heap.objs.size
       match o.data with
       | .seq xs _=>pure xs.toList
       | _=>unsupported "internal:collect") Q E s') hh hr' hsmall hn hlen s.heap.objs.size (.ref s.heap.objs.size) 0 (Heap.get?_push_size _ rfl) fun h' tk acc' c' hk hS' hacc=>⟨rfl,fin h' tk acc' c' hk hS' hacc⟩
 refine wpAny_mono main (fun f s' q=>?_) fun e s' q=>by cases q.1
 cases f with
 | done f=>obtain ⟨e,q⟩:=q; cases e; exact q
 | again c'=>exact ⟨q.1,codeAny_mono q.2 fun r s'' q=>by obtain ⟨rfl,q⟩:=q; exact q⟩
theorem g9:∀ (ys:List Value) (a:Int),(∀ (j:Nat) v,ys[j]? = some v→∃ t,v=Value.int (a + j * 1) t)→IntsAre ys ((List.range ys.length).map fun (i:Nat)=>a + (i:Int))
 | [],_,_=>.nil
 | y :: ys,a,h=>by
  obtain ⟨t,rfl⟩:=h 0 y rfl
  have ih:=g9 ys (a + 1) fun j v e=>by
   obtain ⟨t,rfl⟩:=h (j + 1) v (by simpa using e)
   exact ⟨t,by congr 1; push_cast; omega⟩
  rw [List.length_cons,List.range_succ_eq_map,List.map_cons,List.map_map]
  have e:((List.range ys.length).map ((fun (i:Nat)=>a + (i:Int)) ∘ Nat.succ))=(List.range ys.length).map fun (i:Nat)=>a + 1 + (i:Int):=List.map_congr_left fun i _=>by show a + ((i + 1:Nat):Int)=_; omega
  rw [e]
  have e0:a + ((0:Nat):Int) * 1=a + ((0:Nat):Int):=by omega
  rw [e0]
  exact .cons _ t ih
variable {h₀:Heap} {L:Addr} {m:Str→Option Value} {news:List (Addr×Obj)}
theorem kd {kz:List Int} {f:Value} {kw:List (Str×Value)} {b:Bool} {r:Addr} {t u v:Tok} {n:Nat} {Q:Value→Shared→Prop} (F:Fr h₀ L s.heap m) (N:News h₀ L s.heap news) (hh:A.handled=none) (hr:IsRange s.heap r 0 n 1 t u v) (hlen:kz.length=n) (h64:n<64)
 (ha1:argsOk "sorted" ⟨[.ref r],kw⟩) (ha2:∀ x,argsOk "list.sort" ⟨[.ref x],kw⟩) (ht:∀ x,Builtin.«list.sort» ⟨[.ref x],kw⟩=ksk_tree x f b)
 (turn:∀ (i:Nat) (k:Int) (ti:Tok),kz[i]? = some k→∀ (h:Heap) (tk:Nat) (own:List (Addr×Obj)),Fr h₀ L h m→News h₀ L h (news++own) →
  wpAny (model prog w) A.in1.in1 (call f [.int i ti]) (KskEnd h₀ L m (news++own) k { s with heap:=h,toks:=tk }) (fun _ _=>False) { s with heap:=h,toks:=tk })
 (h:∀ D h' tk vs out c,Fr h₀ L h' m→News h₀ L h' ((D,seqObj "list" out c) :: news)→s.heap.objs.size≤D→IntsAre vs ((List.range n).map fun (i:Nat)=>(i:Int))→KskOut b kz vs out.toList→Q (.ref D) { s with heap:=h',toks:=tk }) :
 wpAny (model prog w) A (call (.builtin "sorted") [.ref r] kw) Q E s:=by
 refine call_function_entry_kw kind_sorted plain_sorted entry_sorted ha1 ?_
 unfold Builtin.«sorted»
 refine wpAny_bind (m:=checkCount "sorted" 1 1 _) (wpAny_pure ?_)
 have hn1:Builtin.Range.rangeSize 0 n 1=(n:Int):=by rw [rangeSize_one]; split <;> omega
 refine wpAny_bind (jR (n:=n) hh hr (small_one (by omega) (by omega) (by omega) (by omega)) hn1 (by omega) fun h1 tk1 ys hsz hk hyl hys=>?_)
 refine wpAny_bind (wpAny_newList ?_ (by rw [sizeLine_eq]; omega))
 have hi:IntsAre ys ((List.range n).map fun (i:Nat)=>(i:Int)):=by
  have:=g9 ys 0 hys
  rw [hyl] at this
  have e:((List.range n).map fun (i:Nat)=>(0:Int) + (i:Int))=(List.range n).map fun (i:Nat)=>(i:Int):=List.map_congr_left fun i _=>by omega
  rw [e] at this; exact this
 have hoL:(h1.push (seqObj "list" ys.toArray 0)).get? h1.objs.size=some (seqObj "list" ys.toArray 0):=Heap.get?_push_size _ rfl
 have keep:∀ b o,s.heap.get? b=some o→(h1.push (seqObj "list" ys.toArray 0)).get? b=some o:=fun b o q=>Heap.get?_push_of_some _ (hk b o q)
 have hL:L<h1.objs.size:=Heap.lt_size (hk _ _ F.ns.choose_spec.choose_spec.choose_spec.1)
 show wpAny _ _ _ _ _ { s with heap:=h1.push (seqObj "list" ys.toArray 0),toks:=tk1 }
 refine wpAny_bind (wpAny_holding (wpAny_call_entry_kw slot_list_sort ⟨_,hoL,rfl⟩ entry_list_sort ?body (ha2 _)))
 case body =>
  have ht':=ht h1.objs.size
  show wpAny (model prog w) A.in1.in1 (Builtin.«list.sort» ⟨[.ref h1.objs.size],kw⟩) _ _ _
  rw [ht']
  refine ksk_sort (s:={ s with heap:=h1.push (seqObj "list" ys.toArray 0),toks:=tk1 })
   (F.kept keep) (N.grown keep) hoL (Nat.ne_of_gt hL) (Heap.get?_none_of_le (Nat.le_trans F.above (Nat.le_of_lt hL)))
   (fun p hp=>Nat.ne_of_lt (Heap.lt_size (hk _ _ (N p hp).1))) (hlen.trans hyl.symm) (by omega) (fun i v k hv hkz h tk own Fh Nh=>?_) fun h' tk out c F' N' k'=>⟨_,rfl,?_⟩
  ·obtain ⟨ti,rfl⟩:=hys i v hv
   have e:(0:Int) + (i:Int) * 1=(i:Int):=by omega
   rw [e]
   exact turn i k ti hkz h tk own Fh Nh
  ·exact wpAny_pure ⟨_,rfl,h _ h' tk ys out c F' N' hsz hi k'⟩
end
structure TbS (H H':Hp):Prop where
 old:∀ a o,H a=some o→(∀ ps q,o≠.tbl ps q)→H' a=some o
 tab:∀ a ps q,H a=some (.tbl ps q)→∃ more,H' a=some (.tbl (ps++more) q)
 new:∀ a,H' a=none→H a=none
 frz:∀ a o,H' a=some o→H a=none→∃ ob u,o = .frz ob u
theorem TbS.refl {H:Hp}:TbS H H:=⟨fun _ _ e _=>e,fun _ ps _ e=>⟨#[],by rw [e]; simp⟩,fun _ e=>e,fun a o e n=>by rw [n] at e; cases e⟩
structure TabB (base:Heap) (mg:Str→Option Value) (c P:Addr) (q:Str):Prop where
 tm:TMk base P q
 code:CodeHd base c P
 blt:base.BuiltinsAt mg P
theorem nF {pos:Pos} {a b:Int} {c cv:Value} (l:List Value) (h:TriplesOk l):codeAmong pos (l++[rawInt a,rawInt b,c])=some cv→codeAmong pos l=some cv∨cv=c:=by
 fun_induction TriplesOk l with
 | case1 =>
  intro e
  simp only [List.nil_append,rawInt,codeAmong] at e
  split at e
  ·cases e; exact .inr rfl
  ·cases e
 | case2 a' t b' u x rest ih =>
  intro e
  simp only [List.cons_append,codeAmong] at e ⊢
  split at e
  ·rename_i hc; rw [if_pos hc]; exact .inl e
  ·rename_i hc; rw [if_neg hc]; exact ih h e
 | case3 l h1 h2=>exact h.elim
section
variable {X:Cx} {pins:List (Addr×Obj)} {σ:St} {H:Hp} {s:Shared} {args:Arguments} {body:Expr} {scope:Scope} {pos:Pos} {c P:Addr} {clos:List (Str×Addr)}
abbrev jT (X:Cx) (args:Arguments) (body:Expr) (scope:Scope) (clos:List (Str×Addr)) (cv ctv:Value):Obj:={ cls:=.type "function",data:=.func (kla_fn "<lambda>" (X.env.qual ++ "<lambda>") args body scope clos ((X.mg "__name__").getD .none) cv ctv) }
theorem vm {Q:Value→Shared→Prop} (I:Inv X pins σ H s) (hdf:defaultsOf args X.env=([],[])) (hcl:closureFor scope X.env=pure clos) (hcode:X.env.code = .ref c) (hB:TabB X.base X.mg c P (X.env.qual ++ "<lambda>"))
 (h:∀ f cv ctv H' s',Inv X ((f,jT X args body scope clos cv ctv) :: pins) σ H' s'→TbS H H'→(∃ c' oc vs t,cv = .ref c'∧H' c'=some (.frz oc (.own 0))∧oc.data = .fields vs∧vs[1]? = some (.str (X.env.qual ++ "<lambda>") t))→Q (.ref f) s') :
 wpAny (model X.prog X.w) X.A (eval (.Lambda args body scope pos) X.env) Q X.xe s:=by
 rw [arm_eval_Lambda,hdf]
 show wpAny _ _ (do let dv ← evalAll []; let kdv ← holding dv (evalAllOpt []); makeFunction "<lambda>" (X.env.qual ++ "<lambda>") args (.expr body) scope X.env dv kdv [] pos pos.line) _ _ s
 refine wpAny_bind (m:=evalAll []) (wpAny_pure ?_)
 refine wpAny_bind (wpAny_holding (m:=evalAllOpt []) (wpAny_pure ?_))
 obtain ⟨hM,hC,hB⟩:=hB
 obtain ⟨ps,hps⟩:=(I.ok.tb.un I.base) P _ hM
 obtain ⟨hP,hV⟩:=I.hok P _ hps
 have bP:X.base.get? P=none:=by
  cases e:X.base.get? P with
  | none=>rfl
  | some o =>
   obtain ⟨e1,n1⟩:=nofree e
   rw [show X.base.objs[P]? = _ from hM] at e1; cases e1
   exact absurd rfl n1
 have neP:∀ {b:Addr} {o:Obj},X.base.get? b=some o→b≠P:=fun e z=>by rw [z,bP] at e; cases e
 have hC':CodeHd s.heap c P:=hC.keeps I.bk
 have hg:s.heap.Ns mainGlobals X.mg:=I.ok.mod.glob.keeps I.bk
 have hgP:mainGlobals≠P:=by
  obtain ⟨o,es,ep,e,_⟩:=I.ok.mod.glob
  exact neP e
 have hb:s.heap.BuiltinsAt X.mg P:=by
  obtain ⟨bm,o,b1,b2,b3,b4,b5,b6⟩:=hB
  exact ⟨bm,o,b1,b2,b3,b4,I.bk _ _ b5,b6⟩
 have glob:X.env.globals=mainGlobals:=I.ok.glob
 have pinned:∀ {f:Addr} {o:Obj} {H':Hp} {s':Shared} {s1:Nat},Inv X pins σ H' s'→s'.heap.get? f=some o→H' f=none→s.heap.objs.size≤f→(∀ v,o.data≠.cell v)→Inv X ((f,o) :: pins) σ H' s':=fun {f o H' s' s1} J e n hf nc=>by
  refine J.pins_of fun p hp=>?_
  rcases List.mem_cons.mp hp with rfl | hp
  ·refine ⟨e,n,Nat.ne_of_gt (Nat.lt_of_lt_of_le I.lt hf),fun z=>?_,nc⟩
   obtain ⟨_,o',e',_⟩:=J.ok.funs.mem z
   exact absurd (Nat.lt_of_lt_of_le (Heap.lt_size e') (Nat.le_trans I.sz hf)) (Nat.lt_irrefl _)
  ·exact J.pin p (List.mem_append_right _ hp)
 cases hf:codeAmong pos ps.toList with
 | some cv =>
  refine kla_makeFunctionHit hcl glob hg hcode hC' hP hV.1 hf hb fun ctv h' tk hk hsz=>?_
  have J:Inv X pins σ H { s with heap:=h'.push (jT X args body scope clos cv ctv),toks:=tk }:=I.kept fun b o e=>Heap.get?_push_of_some _ (hk b o e)
  exact h _ cv ctv H _ (pinned (s1:=0) J (Heap.get?_push_size _ rfl) (I.hok.fresh hsz) hsz (fun v z=>by cases z)) TbS.refl (hV.2 pos cv hf)
 | none =>
  refine kla_makeFunction hcl glob hg hcode hC' hP hV.1 hf hgP hb fun c' ctv h' tk hx hge hlt hrec htab=>?_
  obtain ⟨c0,oc,vc,tq,hc0,hoc,hdc,hqc⟩:=hrec
  cases hc0
  have hne:c'≠P:=fun z=>absurd (Nat.lt_of_lt_of_le (Heap.lt_size hP) hge) (by rw [z]; exact Nat.lt_irrefl _)
  obtain ⟨H',hH'⟩:∃ H',H'=upd (upd H P (.tbl (ps++#[rawInt pos.line,rawInt pos.col,.ref c']) (X.env.qual ++ "<lambda>"))) c' (.frz oc (.own 0)):=⟨_,rfl⟩
  have atP:H' P=some (.tbl (ps++#[rawInt pos.line,rawInt pos.col,.ref c']) (X.env.qual ++ "<lambda>")):=by rw [hH',ar (Ne.symm hne),aJ]
  have atC:H' c'=some (.frz oc (.own 0)):=by rw [hH',aJ]
  have hcn:H c'=none:=I.hok.fresh hge
  have oth:∀ b,b≠P→b≠c'→H' b=H b:=fun b z1 z2=>by rw [hH',ar z2,ar z1]
  have neo:∀ {b u},H b=some u→b≠c':=fun e z=>by rw [z,hcn] at e; cases e
  have old:∀ a o,H a=some o→(∀ ps q,o≠.tbl ps q)→H' a=some o:=fun a o e n=>by
   rw [oth a (fun z=>by rw [z,hps] at e; cases e; exact n _ _ rfl) (neo e)]; exact e
  have hx2:∀ b o,b≠P→s.heap.get? b=some o→(h'.push (jT X args body scope clos (.ref c') ctv)).get? b=some o:=fun b o z e=>Heap.get?_push_of_some _ (hx b o z e)
  have hhsz:s.heap.objs.size≤h'.objs.size:=Nat.le_trans hge (Nat.le_of_lt hlt)
  have un:Un X.fs [] H H' s.heap (h'.push (jT X args body scope clos (.ref c') ctv)):={
   keep:=fun b o e n _ _=>hx2 b o (fun z=>by rw [z,hps] at n; cases n) e
   slot:=fun b o e n _ _=>⟨o.slots,hx2 b o (fun z=>by rw [z,hps] at n; cases n) e⟩
   free:=fun b o e n _=>by rw [oth b (fun z=>by rw [z,hps] at n; cases n) (Nat.ne_of_lt (Nat.lt_of_lt_of_le (Heap.lt_size e) hge))]; exact n
   there:=fun b o e _=>by
    by_cases z:b=P
    ·subst z; exact ⟨_,Heap.get?_push_of_some _ htab⟩
    ·exact ⟨o,hx2 b o z e⟩
   tups:=fun b xs e=>old b _ e fun _ _ z=>by cases z
   frzs:=fun b o u e=>old b _ e fun _ _ z=>by cases z
   tbls:=fun b qs q e=>by
    by_cases z:b=P
    ·subst z; rw [hps] at e; cases e; exact ⟨_,atP⟩
    ·exact ⟨#[],by rw [oth b z (neo e),e]; simp⟩ }
  have hok:HOk X.prog X.w H' (h'.push (jT X args body scope clos (.ref c') ctv)):=fun b u e=>by
   by_cases z:b=P
   ·subst z; rw [atP] at e; cases e
    refine ⟨Heap.get?_push_of_some _ htab,by simpa using TriplesOk_snoc pos.line pos.col (.ref c') ps.toList hV.1,fun pos' cv e=>?_⟩
    rcases nF ps.toList hV.1 (by simpa using e) with e | rfl
    ·obtain ⟨c2,o2,v2,t2,a1,a2,a3⟩:=hV.2 pos' cv e
     exact ⟨c2,o2,v2,t2,a1,old _ _ a2 (fun _ _ z=>by cases z),a3⟩
    ·exact ⟨c',oc,vc,tq,rfl,atC,hdc,hqc⟩
   ·by_cases z2:b=c'
    ·subst z2; rw [atC] at e; cases e
     exact ⟨Heap.get?_push_of_some _ hoc,_,Heap.get?_push_of_some _ hoc⟩
    ·rw [oth b z z2] at e
     refine (I.hok b u e).stay (fun d v hd q=>hx2 d v ?_ q) (fun d q=>old d _ q fun _ _ z=>by cases z) (fun d xs q=>old d _ q fun _ _ z=>by cases z) fun d ob u q=>old d _ q fun _ _ z=>by cases z
     rcases hd with rfl | hd
     ·exact z
     ·exact fun y=>by rw [y,hps] at hd; cases hd
  have J:Inv X pins σ H' { s with heap:=h'.push (jT X args body scope clos (.ref c') ctv),toks:=tk }:=I.un un hok
  refine h _ (.ref c') ctv H' _ (pinned (s1:=0) J (Heap.get?_push_size _ rfl) (by rw [oth _ (Nat.ne_of_gt (Nat.lt_of_lt_of_le (Heap.lt_size hP) hhsz)) (Nat.ne_of_gt hlt)]; exact I.hok.fresh hhsz) hhsz (fun v z=>by cases z)) ⟨old,un.tbls,fun a e=>?_,fun a o e n=>?_⟩ ⟨c',oc,vc,tq,rfl,atC,hdc,hqc⟩
  ·by_cases z:a=P
   ·rw [z,atP] at e; cases e
   ·by_cases z2:a=c'
    ·rw [z2]; exact hcn
    ·rw [oth a z z2] at e; exact e
  ·by_cases z:a=P
   ·rw [z,hps] at n; cases n
   ·by_cases z2:a=c'
    ·rw [z2,atC] at e; cases e; exact ⟨_,_,rfl⟩
    ·rw [oth a z z2,n] at e; cases e
end
section
variable {prog:Program} {w:World} {A:Around} {s:Shared} {X:Cx} {args:Arguments} {scope:Scope} {clos:List (Str×Addr)} {cv ctv:Value} {f cc p:Addr} {x y:Str} {p1 p2 p3 p4:Pos}
theorem nB {its:Array Value} {i:Nat} {ti:Tok} {k:Int} {tk0:Tok} (ho:s.heap.get? f=some (jT X args (.UnaryOp .USub (.Subscript (.Name y p1) (.Name x p2) p3) p4) scope clos cv ctv)) (hcd:s.heap.CodeRec cv (X.env.qual ++ "<lambda>"))
 (hce:s.heap.IsCell cc (some (.ref p))) (hl:s.heap.IsList p its) (hi:its[i]? = some (.int k tk0)) (hlim:s.heap.NoLimit) (hroom:A.depth<recursionLimit) (hi63:i<2 ^ 62)
 (hb:bindArgs (kla_fn "<lambda>" (X.env.qual ++ "<lambda>") args (.UnaryOp .USub (.Subscript (.Name y p1) (.Name x p2) p3) p4) scope clos ((X.mg "__name__").getD .none) cv ctv) ⟨[.int i ti],[]⟩=pure [(x,.int i ti)])
 (hk:scope.kind = .function) (hco:scope.isCoroutine=false) (hgen:scope.isGenerator=false) (hnc:∀ z∈scope.names,z.2≠.cell) (hx:scope.names.lookup x=some .local) (hy:scope.names.lookup y=some .free) (hyc:clos.lookup y=some cc)
 (dx:(x == ("__debug__":Str))=false) (dy:(y == ("__debug__":Str))=false) (ey:(y == ("__classdict__":Str))=false) :
 wpAny (model prog w) A (call (.ref f) [.int i ti]) (fun v s'=>∃ h' tk t',s' = { s with heap:=h',toks:=tk }∧v = .int (-k) t'∧∀ b o,s.heap.get? b=some o→h'.get? b=some o) (fun _ _=>False) s:=by
 refine wpAny_call ?_
 refine kla_callFunE hroom ho rfl hco hgen rfl hcd ?_
 rw [hb]
 refine wpAny_pure (wpAny_newFunctionEnv hnc (fun z hz=>by rw [List.mem_singleton.mp hz]; exact hx) (fun h₁ hns hsb=>⟨hlim.fresh _ hsb,?_⟩) hk)
 have hk₁:∀ b o,s.heap.get? b=some o→h₁.get? b=some o:=fun b o e=>hsb.extBut b o (Nat.ne_of_lt (Heap.lt_size e)) (Heap.get?_push_of_some _ e)
 refine kla_codeExpr ?_
 rw [arm_eval_UnaryOp]
 refine wpAny_bind ?_
 refine Subscript_ (wpAny_Name (wpAny_loadName_free hk hy hyc (hce.keeps hk₁) ?_ ey) dy)
 refine wpAny_Name (wpAny_loadName_local (v:=.int i ti) hk hx hns (by show ([(x,Value.int i ti)]:List (Str×Value)).reverse.lookup x=_; simp) ?_) dx
 refine item_listR (x:=.int k tk0) (let ⟨o,e,r⟩:=hl; ⟨o,hk₁ _ _ e,r⟩) (by omega) (by omega) (by simpa using hi) ?_ (by with_unfolding_all rfl)
 refine wpAny_bind (wpAny_standAt ?_)
 refine wpAny_holding ?_
 exact neg_int ⟨h₁,_,_,rfl,rfl,hk₁⟩
end
theorem jJ {p:Int×Value}:∀ {kz:List Int} {vs:List Value} {ns:List Int},IntsAre vs ns→p∈kz.zip vs→∃ (i:Nat) (z:Int) (t:Tok),kz[i]? = some p.1∧ns[i]? = some z∧p.2 = .int z t
 | [],_,_,_,h=>by cases h
 | _ :: _,_,_,.nil,h=>by cases h
 | k :: kz,_,_,.cons n t r,h=>by
  rw [List.zip_cons_cons] at h
  rcases List.mem_cons.mp h with rfl | h
  ·exact ⟨0,n,t,rfl,rfl,rfl⟩
  ·obtain ⟨i,z,t',a,b,c⟩:=jJ r h
   exact ⟨i + 1,z,t',by simpa using a,by simpa using b,c⟩
def qg:Value→Int
 | .int z _=>z
 | _=>0
theorem jB:∀ {kz:List Int} {vs:List Value} {ns:List Int},IntsAre vs ns→kz.length=ns.length→(kz.zip vs).map (fun p=>qg p.2)=ns
 | [],_,_,.nil,_=>rfl
 | [],_,_,.cons _ _ _,h=>by cases h
 | _ :: _,_,_,.nil,h=>by cases h
 | k :: kz,_,_,.cons n t r,h=>by
  rw [List.zip_cons_cons,List.map_cons,jB r (by simpa using h)]
  rfl
theorem lP:∀ {vs:List Value},(∀ v∈vs,∃ z t,v=Value.int z t)→IntsAre vs (vs.map qg)
 | [],_=>.nil
 | v :: vs,h=>by
  obtain ⟨z,t,rfl⟩:=h v (.head _)
  exact .cons z t (lP fun u hu=>h u (.tail _ hu))
structure SortK (n:Nat) (key:Int→Int) (out:List Int):Prop where
 perm:out.Perm ((List.range n).map fun (i:Nat)=>(i:Int))
 ord:out.Pairwise fun a b=>key a≤key b
theorem SortK.of {n:Nat} {key:Int→Int} {vs out:List Value} (hi:IntsAre vs ((List.range n).map fun (i:Nat)=>(i:Int))) (h:KskOut false ((List.range n).map fun (i:Nat)=>key (i:Int)) vs out):∃ os:List Int,IntsAre out os∧SortK n key os:=by
 obtain ⟨ps,hp,rfl,ho⟩:=h
 have hm:∀ q∈ps,∃ (i:Nat) (t:Tok),q.1=key (i:Int)∧q.2 = .int (i:Int) t:=fun q hq=>by
  obtain ⟨i,z,t,a,b,c⟩:=jJ hi (hp.mem_iff.mp hq)
  rw [List.getElem?_map,Option.map_eq_some_iff] at a b
  obtain ⟨i1,e1,a⟩:=a
  obtain ⟨i2,e2,b⟩:=b
  rw [e1] at e2; cases e2
  exact ⟨i1,t,a.symm,by rw [c,← b]⟩
 refine ⟨(ps.map Prod.snd).map qg,lP fun v hv=>?_,?_,?_⟩
 ·obtain ⟨q,hq,rfl⟩:=List.mem_map.mp hv
  obtain ⟨i,t,_,e⟩:=hm q hq
  exact ⟨_,t,e⟩
 ·rw [List.map_map]
  have e:=jB (kz:=(List.range n).map fun (i:Nat)=>key (i:Int)) hi (by simp)
  rw [← e]
  exact hp.map _
 ·rw [List.map_map,List.pairwise_map]
  refine List.Pairwise.imp_of_mem (fun {a b} ha hb hab=>?_) ho
  obtain ⟨i,t,e1,e2⟩:=hm a ha
  obtain ⟨j,u,e3,e4⟩:=hm b hb
  show key (qg a.2)≤key (qg b.2)
  rw [e2,e4]
  show key (i:Int)≤key (j:Int)
  rw [← e1,← e3]
  simpa using hab
section
variable {X:Cx} {pins:List (Addr×Obj)} {σ:St} {H:Hp} {s:Shared} {args:Arguments} {scope:Scope} {clos:List (Str×Addr)} {cv ctv:Value} {f cc p r:Addr} {x y:Str} {p1 p2 p3 p4:Pos} {n:Nat} {ns:List Int} {t u v:Tok} {Q:Value→Shared→Prop}
structure LamOk (X:Cx) (args:Arguments) (scope:Scope) (clos:List (Str×Addr)) (x y:Str) (body:Expr) (cc:Addr):Prop where
 bind:∀ (cv ctv:Value) (i:Nat) (ti:Tok),bindArgs (kla_fn "<lambda>" (X.env.qual ++ "<lambda>") args body scope clos ((X.mg "__name__").getD .none) cv ctv) ⟨[.int i ti],[]⟩=pure [(x,.int i ti)]
 kind:scope.kind = .function
 co:scope.isCoroutine=false
 gen:scope.isGenerator=false
 nc:∀ z∈scope.names,z.2≠.cell
 hx:scope.names.lookup x=some .local
 hy:scope.names.lookup y=some .free
 yc:clos.lookup y=some cc
 dx:(x == ("__debug__":Str))=false
 dy:(y == ("__debug__":Str))=false
 ey:(y == ("__classdict__":Str))=false
theorem nk (I:Inv X pins σ H s) (hh:X.A.handled=none) (hroom:X.A.in1.in1.depth<recursionLimit) (hr:IsRange s.heap r 0 n 1 t u v) (hfn:s.heap.get? f=some (jT X args (.UnaryOp .USub (.Subscript (.Name y p1) (.Name x p2) p3) p4) scope clos cv ctv))
 (hcv:∃ c' oc vs t,cv = .ref c'∧H c'=some (.frz oc (.own 0))∧oc.data = .fields vs∧vs[1]? = some (.str (X.env.qual ++ "<lambda>") t)) (hce:s.heap.IsCell cc (some (.ref p))) (hcL:cc≠X.env.locals) (hl:SqL X.K H p (ns.map V.int)) (hn:n≤ns.length) (h64:n<64)
 (L:LamOk X args scope clos x y (.UnaryOp .USub (.Subscript (.Name y p1) (.Name x p2) p3) p4) cc)
 (h:∀ D out s',Inv X pins σ (upd H D (.lst (out.map V.int))) s'→H D=none→SortK n (fun z=>-(ns.getD z.toNat 0)) out→Q (.ref D) s') :
 wpAny (model X.prog X.w) X.A (call (.builtin "sorted") [.ref r] [(Str.ofString "key",.ref f)]) Q X.xe s:=by
 obtain ⟨m,hns,hloc⟩:=id I.loc
 obtain ⟨oL,esL,epL,hoL,hdL,hrL⟩:=id hns
 have neL:∀ {b:Addr} {o:Obj},s.heap.get? b=some o→(∀ es ep,o.data≠.dict es ep)→b≠X.env.locals:=fun e nd z=>by
  rw [z,hoL] at e; cases e; exact nd _ _ hdL
 have tL:∀ {b:Addr} {u:HO},H b=some u→b≠X.env.locals:=fun e z=>by rw [z,I.free] at e; cases e
 obtain ⟨its,rv,pl,hz⟩:=I.list hl
 have hil:=rv.length
 rw [List.length_map] at hil
 obtain ⟨ol,nl,el,ecl,edl,edd⟩:=id pl
 have pL:p≠X.env.locals:=neL el fun es ep z=>by rw [edd] at z; cases z
 have N0:News (iP s.heap) X.env.locals s.heap (iZ s.heap X.env.locals X.env.locals):=fun q hq=>by
  obtain ⟨a,o⟩:=q
  have:=gK.mp hq
  exact ⟨this.2.2,this.1,gJ _ _⟩
 have inN:∀ {b:Addr} {o:Obj},s.heap.get? b=some o→b≠X.env.locals→(b,o)∈iZ s.heap X.env.locals X.env.locals:=fun e z=>gK.mpr ⟨z,z,e⟩
 obtain ⟨c',oc,vc,tq,rfl,hc',hdc,hqc⟩:=hcv
 have hc1:=(I.hok c' _ hc').1
 refine kd (kz:=(List.range n).map fun (i:Nat)=>-(ns.getD (i:Int).toNat 0)) (f:=.ref f) (b:=false) (ul hns) N0 hh hr (by simp) h64 (ksk_s1 _ _) (fun x=>ksk_l1 _ _) (fun x=>ksk_t1 _ _) (fun i k ti hkz g tk own Fg Ng=>?_) fun D h' tk vs out c F' N' hD hi ko=>?_
 ·rw [List.getElem?_map,Option.map_eq_some_iff] at hkz
  obtain ⟨i',e1,rfl⟩:=hkz
  have hin:i<n∧i'=i:=by
   obtain ⟨h1,h2⟩:=List.getElem?_eq_some_iff.mp e1
   rw [List.length_range] at h1
   rw [List.getElem_range] at h2
   exact ⟨h1,h2.symm⟩
  obtain ⟨hin,ei⟩:=hin
  subst i'
  have get:∀ {b:Addr} {o:Obj},s.heap.get? b=some o→b≠X.env.locals→g.get? b=some o:=fun e z=>(Ng _ (List.mem_append_left _ (inN e z))).1
  have hni:ns[i]? = some ns[i]:=List.getElem?_eq_getElem (by omega)
  obtain ⟨w1,ew,rw1⟩:=rv.get (show (ns.map V.int)[i]? = some (.int ns[i]) by rw [List.getElem?_map,hni]; rfl)
  obtain ⟨t1,rfl⟩:=(show ∃ t,w1=Value.int ns[i] t from rw1)
  have egd:ns.getD ((i:Nat):Int).toNat 0=ns[i]:=by rw [Int.toNat_natCast,List.getD_eq_getElem?_getD,hni]; rfl
  rw [egd]
  have blt:∀ b o,X.base.get? b=some o→g.get? b=some o:=fun b o e=>get (I.bk b o e) (fun z=>absurd (Heap.lt_size e) (by rw [z]; exact Nat.not_lt.mpr (Nat.le_trans I.ok.bsz I.ok.above)))
  obtain ⟨oce,ece,ecd⟩:=hce
  refine wpAny_mono (nB (s:={ s with heap:=g,toks:=tk }) (X:=X) (args:=args) (scope:=scope) (clos:=clos) (cv:=.ref c') (ctv:=ctv) (f:=f) (cc:=cc) (p:=p) (x:=x) (y:=y) (p1:=p1) (p2:=p2) (p3:=p3) (p4:=p4) (its:=its.toArray) (i:=i) (ti:=ti) (k:=ns[i]) (tk0:=t1)
   (get hfn (neL hfn fun es ep z=>by cases z)) ⟨c',oc,vc,tq,rfl,get hc1 (tL hc'),hdc,hqc⟩ ⟨oce,get ece hcL,ecd⟩ ⟨ol,get el pL,ecl,nl,edd⟩ (by simpa using ew) (I.ok.mod.nolimit.keeps blt) hroom (by omega) (L.bind _ _ _ _) L.kind L.co L.gen L.nc L.hx L.hy L.yc L.dx L.dy L.ey) (fun v s' q=>?_) fun _ _ z=>z
  obtain ⟨h',tk',t',rfl,rfl,kp⟩:=q
  exact ⟨h',tk',t',rfl,rfl,Fg.kept kp,fun q hq=>⟨kp _ _ (Ng q hq).1,(Ng q hq).2⟩⟩
 ·obtain ⟨os,hos,hsk⟩:=SortK.of (key:=fun z=>-(ns.getD z.toNat 0)) hi ko
  have hDn:H D=none:=I.hok.fresh hD
  refine h D os _ ?_ hDn hsk
  have get:∀ {b:Addr} {o:Obj},s.heap.get? b=some o→b≠X.env.locals→h'.get? b=some o:=fun e z=>(N' _ (List.mem_cons_of_mem _ (inN e z))).1
  have hDo:=(N' _ (.head _)).1
  have neD:∀ {b:Addr} {o:Obj},s.heap.get? b=some o→b≠D:=fun e=>Nat.ne_of_lt (Nat.lt_of_lt_of_le (Heap.lt_size e) hD)
  have up:∀ {b u},H b=some u→upd H D (.lst (os.map V.int)) b=some u:=fun e=>by rw [ar (aq e hDn)]; exact e
  have hlo:os.length=n:=by have:=hsk.perm.length_eq; simpa using this
  refine I.step (g':=s.gens) (d':=s.drawn) (ch:=[]) (fun _ z=>nomatch z) (fun b o hL _ _ e _=>get e hL) (fun b o hL _ _ e _=>⟨o.slots,get e hL⟩) (fun b o _ e q=>by rw [ar (neD e)]; exact q) (fun b o _ e=>?_) (fun b xs e=>up e) (fun b o u e=>up e) (fun b ps q e=>⟨#[],by rw [up e]; simp⟩) (fun m' hm'=>?_) (fun b u e=>?_) I.bare
  ·by_cases z:b=X.env.locals
   ·obtain ⟨o',_,_,e',_⟩:=F'.ns; exact ⟨o',by rw [z]; exact e'⟩
   ·exact ⟨o,get e z⟩
  ·rw [hm'.eq_nsMap,← hns.eq_nsMap]; exact F'.ns
  ·by_cases z:b=D
   ·subst z; rw [aJ] at e; cases e
    exact ⟨by rw [List.length_map,hlo]; exact Nat.le_trans (Nat.le_of_lt h64) (by decide),out.toList,c,er hos,by rw [Array.toArray_toList]; exact hDo⟩
   ·rw [ar z] at e
    exact (I.hok b u e).stay (fun d w hd q=>get q (hd.elim (fun y=>by rw [y]; exact tL e) fun y=>tL y)) (fun d q=>up q) (fun d xs q=>up q) fun d ob u q=>up q
end
theorem Inv.pinNew {X:Cx} {pins:List (Addr×Obj)} {σ:St} {H:Hp} {s:Shared} {f:Addr} {o:Obj} (J:Inv X pins σ H s) (e:s.heap.get? f=some o) (n:H f=none) (hf:X.s₀.heap.objs.size≤f) (hL:f≠X.env.locals) (nc:∀ v,o.data≠.cell v):Inv X ((f,o) :: pins) σ H s:=by
 refine J.pins_of fun p hp=>?_
 rcases List.mem_cons.mp hp with rfl | hp
 ·refine ⟨e,n,hL,fun z=>?_,nc⟩
  obtain ⟨_,o',e',_⟩:=J.ok.funs.mem z
  exact absurd (Nat.lt_of_lt_of_le (Heap.lt_size e') hf) (Nat.lt_irrefl _)
 ·exact J.pin p (List.mem_append_right _ hp)
def uk (K:PySem.W.Frag) (j:Nat) (te:TE):TE:=fun σ H Q=>te σ H fun v H1=>∃ n:Nat,v = .int n∧n<64∧∃ (p:Addr) (ns:List Int),σ[j]? = some (some (.ref p))∧SqL K H1 p (ns.map V.int)∧n≤ns.length ∧
 ∀ H2 out D,TbS H1 H2→SortK n (fun z=>-(ns.getD z.toNat 0)) out→H2 D=none→Q (.ref D) (upd H2 D (.lst (out.map V.int)))
theorem TbS.sq {K:PySem.W.Frag} {H H':Hp} {p:Addr} {xs:List V} (h:TbS H H') (s:SqL K H p xs):SqL K H' p xs:=by
 rcases s with (s | ⟨o,s⟩) | s
 ·exact .inl (.inl (h.old _ _ s fun _ _ z=>by cases z))
 ·exact .inl (.inr ⟨o,h.old _ _ s fun _ _ z=>by cases z⟩)
 ·exact .inr s
section
variable {X:Cx} {e:Expr} {te:TE} {x y:Str} {j:Nat} {c P:Addr} {args:Arguments} {scope:Scope} {p1 p2 p3 p4 q1 q2 q3 lp kp pos:Pos}
theorem jm {cc:Addr} (hnm:scope.names=[(x,.local),(y,.free)]) (h:X.env.cells.lookup y=some cc):closureFor scope X.env=pure [(y,cc)]:=by
 unfold closureFor
 rw [hnm]
 simp [cellOf,h]
theorem qx (hg1:Gl X "sorted") (hm1:X.mg "sorted" = none) (hg2:Gl X "range") (hm2:X.mg "range" = none) (he:PE X e te) (hj:X.N[j]? = some y) (hyk:X.env.kindOf y=some .cell) (hcode:X.env.code = .ref c)
 (hB:TabB X.base X.mg c P (X.env.qual ++ "<lambda>")) (hcalm:X.calm=true) (hroom:X.A.in1.in1.depth<recursionLimit) (hnm:scope.names=[(x,.local),(y,.free)]) (hkd:scope.kind = .function) (hco:scope.isCoroutine=false) (hge:scope.isGenerator=false)
 (hbind:∀ (cc:Addr) (cv ctv:Value) (i:Nat) (ti:Tok),bindArgs (kla_fn "<lambda>" (X.env.qual ++ "<lambda>") args (.UnaryOp .USub (.Subscript (.Name y p1) (.Name x p2) p3) p4) scope [(y,cc)] ((X.mg "__name__").getD .none) cv ctv) ⟨[.int i ti],[]⟩=pure [(x,.int i ti)])
 (hdf:defaultsOf args X.env=([],[])) (hxy:(y == x)=false) (dx:(x == ("__debug__":Str))=false) (dy:(y == ("__debug__":Str))=false) (ey:(y == ("__classdict__":Str))=false) (hs:starEach [e] X.env=[(false,eval e X.env)]:=by rfl) :
 PE X (.Call (.Name "sorted" q1) [.Call (.Name "range" q2) [e] [] q3] [⟨some "key",.Lambda args (.UnaryOp .USub (.Subscript (.Name y p1) (.Name x p2) p3) p4) scope lp,kp⟩] pos) (uk X.K j te):=by
 refine ⟨fun pins s σ H Q I h=>?_⟩
 refine wpAny_Call_Name_kw (dD I hg1 hm1 fD ?_)
 refine callWith_kw (rest:=[]) ?_
 show wpAny _ _ (spliced ((false,eval (.Call (.Name "range" q2) [e] [] q3) X.env) :: [])) _ _ s
 refine Calls.spliced_cons ?_
 refine Call_ (dD I hg2 hm2 boot_range (PyProof.Rows.callWith_type1 (rest:=[]) ?_ hs rfl))
 rw [hs]
 refine Calls.spliced_cons (thn (he pins s σ H _ I h) fun u1 s1 ⟨v1,H1,I1,r1,n,e1,h64,p,ns,ep,hq,hnl,hQ⟩=>Calls.spliced_nil ?_)
 subst e1
 obtain ⟨tn,rfl⟩:=r1
 refine call_range_1 ?_
 refine Calls.spliced_nil ?_
 show wpAny _ _ (evalAll [(do let v ← eval (.Lambda args (.UnaryOp .USub (.Subscript (.Name y p1) (.Name x p2) p3) p4) scope lp) X.env; standAt pos; pure v)]) (fun kvs s₂=>wpAny (model X.prog X.w) X.A (call (.builtin "sorted") [.ref s1.heap.objs.size] ([Str.ofString "key"].zip kvs)) (EP X pins σ Q) X.xe s₂) _ _
 have I2:Inv X pins σ H1 { s1 with heap:=s1.heap.push { cls:=.type "range",data:=.fields #[.int 0 s1.toks,.int n tn,.int 1 (s1.toks + 1)] },toks:=s1.toks + 1 + 1 }:=I1.kept fun b o e=>Heap.get?_push_of_some _ e
 have J:=I2.pinNew (Heap.get?_push_size s1.heap (o:={ cls:=.type "range",data:=.fields #[.int 0 s1.toks,.int n tn,.int 1 (s1.toks + 1)] }) rfl) (I1.hok.fresh (Nat.le_refl _)) I1.sz (Nat.ne_of_gt I1.lt) (fun v z=>by cases z)
 obtain ⟨cc,hcc⟩:=I.ok.has y (.inl hyk)
 unfold evalAll
 refine wpAny_bind (wpAny_bind ?_)
 refine vm J hdf (jm hnm hcc) hcode hB fun f cv ctv H' s' J2 tb hcv=>?_
 refine wpAny_bind (wpAny_standAt (wpAny_pure ?_))
 refine wpAny_bind (wpAny_holding ?_)
 unfold evalAll
 refine wpAny_pure (wpAny_pure ?_)
 obtain ⟨m,hns,hloc⟩:=id J2.loc
 obtain ⟨u,ru,lk⟩:=hloc j y (.ref p) hj ep (.inr (.inl hyk))
 obtain rfl:u = .ref p:=ru
 have hce:s'.heap.IsCell cc (some (.ref p)):=by
  rcases lk with ⟨z,_⟩ | ⟨_,c2,e2,z⟩
  ·rw [hyk] at z; cases z
  ·rw [hcc] at e2; cases e2; exact z
 refine nk J2 (J2.ok.hd hcalm) hroom (J2.pin _ (List.mem_append_right _ (.tail _ (.head _)))).1 (J2.pin _ (List.mem_append_right _ (.head _))).1 hcv hce (J2.cne y cc hcc) (tb.sq hq) hnl h64 ⟨hbind cc,hkd,hco,hge,fun z hz=>?nc,by rw [hnm]; exact List.lookup_cons_self,by rw [hnm,List.lookup_cons,hxy]; exact List.lookup_cons_self,List.lookup_cons_self,dx,dy,ey⟩ fun D out s'' J3 hD sk=>?_
 case nc =>
  rw [hnm] at hz
  rcases List.mem_cons.mp hz with rfl | hz
  ·exact fun z=>by cases z
  ·rw [List.mem_singleton.mp hz]; exact fun z=>by cases z
 exact ⟨.ref D,_,J3.pins_of fun q hq=>J3.pin q (List.mem_append_right _ (.tail _ (.tail _ hq))),rfl,hQ H' out D tb sk hD⟩
end
end L2
namespace L2
open PySem PySem.Spec PyProof.Rows PySem.W
section
variable {C:Ctx} {ow:List Bool} {G:Hp} {ρ:DSt} {σ:St} {H H2:Hp} {pd:List (D×V)} {O:Own}
theorem RO.tbs (h:RO C ow G ρ σ H pd O) (t:TbS H H2):RO C ow G ρ σ H2 pd O:=by
 have gnt:∀ a o,G a=some o→NT o:=fun a o e ps q z=>by
  have:=h.ft a ps q (by rw [h.gh a o e,z])
  rw [e] at this; cases this
 have gh:aF G H2:=fun a o e=>t.old a o (h.gh a o e) (gnt a o e)
 have og:∀ a l,O a=some l→H2 a=H a:=fun a l e=>by
  obtain ⟨_,⟨xs,q⟩,_⟩:=h.og a l e
  rw [t.old a _ q (WrO.nt xs),q]
 refine ⟨h.len,gh,h.g0,h.gn,fun a l e=>?_,h.cok,fun a o e n nt=>t.old a o (h.fr a o e n nt) nt,fun a ps q e=>?_,fun a e=>h.al a (t.new a e),h.mp,fun i d e=>?_,?_,h.np⟩
 ·obtain ⟨q1,q2,q3⟩:=h.og a l e
  rw [og a l e]; exact ⟨q1,q2,q3⟩
 ·cases z:G a with
  | none=>rfl
  | some o =>
   rw [gh a o z] at e; cases e
   exact absurd rfl (gnt a _ z ps q)
 ·obtain ⟨v,h1,h2⟩:=h.sl i d e
  refine ⟨v,h1,?_⟩
  split at h2
  ·rename_i c; rw [if_pos c]; exact h2.keep (fun _ _ z=>z) fun a τ q=>⟨q,og a _ q⟩
  ·rename_i c; rw [if_neg c]; exact h2
 ·exact bV.keep (fun _ _ z=>z) (fun a j π _ q=>⟨q,og a _ q⟩) h.pn
end
def uw (j:Nat) (me:ME):ME:=fun ρ q=>me ρ fun d ρ1=>match d with
 | .int n=>0≤n∧n<64∧∃ ns:List Int,ρ1[j]? = some (some (.lst (ns.map D.int)))∧n≤(ns.length:Int)∧∀ out,SortK n.toNat (fun z=>-(ns.getD z.toNat 0)) out→q (.lst (out.map D.int)) ρ1
 | _=>False
section
variable {X:Cx} {ow:List Bool} {e:Expr} {me:ME} {x y:Str} {j:Nat} {c P:Addr} {args:Arguments} {scope:Scope} {p1 p2 p3 p4 q1 q2 q3 lp kp pos:Pos} {k:Nat}
theorem pG (hr:Room (k + 2) X.A) (hg1:Gl X "sorted") (hm1:X.mg "sorted" = none) (hg2:Gl X "range") (hm2:X.mg "range" = none) (he:QE X ow e me) (hj:X.N[j]? = some y) (hyk:X.env.kindOf y=some .cell) (hcode:X.env.code = .ref c)
 (hB:TabB X.base X.mg c P (X.env.qual ++ "<lambda>")) (hcalm:X.calm=true:=by rfl) (hnm:scope.names=[(x,.local),(y,.free)]:=by rfl) (hkd:scope.kind = .function:=by rfl) (hco:scope.isCoroutine=false:=by rfl) (hge:scope.isGenerator=false:=by rfl)
 (hbind:∀ (cc:Addr) (cv ctv:Value) (i:Nat) (ti:Tok),bindArgs (kla_fn "<lambda>" (X.env.qual ++ "<lambda>") args (.UnaryOp .USub (.Subscript (.Name y p1) (.Name x p2) p3) p4) scope [(y,cc)] ((X.mg "__name__").getD .none) cv ctv) ⟨[.int i ti],[]⟩=pure [(x,.int i ti)]:=by intros; rfl)
 (hdf:defaultsOf args X.env=([],[]):=by rfl) (hxy:(y == x)=false:=by decide) (dx:(x == ("__debug__":Str))=false:=by decide) (dy:(y == ("__debug__":Str))=false:=by decide) (ey:(y == ("__classdict__":Str))=false:=by decide) (hs:starEach [e] X.env=[(false,eval e X.env)]:=by rfl) (ho:ow[j]?≠some true:=by decide) :
 QE X ow (.Call (.Name "sorted" q1) [.Call (.Name "range" q2) [e] [] q3] [⟨some "key",.Lambda args (.UnaryOp .USub (.Subscript (.Name y p1) (.Name x p2) p3) p4) scope lp,kp⟩] pos) (uw j me):=by
 obtain ⟨t,p,s⟩:=he
 refine ⟨_,qx hg1 hm1 hg2 hm2 p hj hyk hcode hB hcalm ?_ hnm hkd hco hge hbind hdf hxy dx dy ey hs,fun C G ρ σ H pd q Q r hm kk=>?_⟩
 ·exact hr.in1.in1.depth
 refine s C G ρ σ H pd _ _ r hm fun d ρ1 v G1 H1 h1 z1 k1 r1 p1=>?_
 cases d with
 | int n =>
  obtain ⟨n0,n64,ns,e1,hn,hq⟩:=h1
  obtain ⟨O1,ro1⟩:=r1
  obtain ⟨w1,e2,e3⟩:=ro1.sl j _ e1
  rw [if_neg ho] at e3
  obtain ⟨pa,xs,rfl,g1,g2⟩:=aW e3
  rw [cI g2] at g1
  refine ⟨n.toNat,by rw [aw p1]; congr 1; omega,by omega,pa,ns,e2,.inl (.inl (ro1.gh _ _ g1)),by omega,fun H2 out D tb sk hD=>?_⟩
  have ro2:=ro1.tbs tb
  obtain ⟨ro3,z3⟩:=ro2.new hD (.lst (out.map V.int))
  refine kk _ ρ1 _ _ _ (hq out sk) (z1.trans z3) k1 ⟨O1,ro3⟩ ?_
  exact fq aJ (fG _)
 | _=>exact h1.elim
end
theorem Fun.okc {P:Program} {w:World} {K:PySem.W.Frag} {mg:Str→Option Value} {base:Heap} {x qual:Str} {st:Stmt} {f c:Addr} {fd:FuncData} {N ps:List Str} {k:Nat} {sp:Sp} (F:Fun K x qual st f fd) (hc:fd.code = .ref c) (S:FnScope N ps (ah st)) (len:∀ vs H Q E,sp vs H Q E→vs.length=ps.length)
 (hbody:∀ (A:Around) (outer:List Env) (s:Shared) (H:Hp) (vs:List V) (Q:VK) (E:XK),Room k (A.deeper (envOfC qual (ah st) s.heap.objs.size f (.ref c)))→sp vs H Q E →
  ∃ t,PSs (jh CX0 P w K mg base N qual (ah st) f (.ref c) A outer s H E).nox (ce st) t∧t { nx:=fun _ H'=>Q .non H',rt:=Q } (cS N vs) H):FnOk P w K mg base CX0 (k + 1) f fd ps sp:=by
 obtain ⟨oc,od,kV,doc,pm,an,cdv,ct,osl,rfl,lk,hcd⟩:=F.ex
 have e:cdv = .ref c:=hc
 subst e
 refine t5 lk hcd S len fun A outer s H vs Q E hr hsp=>?_
 obtain ⟨t,h,q⟩:=hbody A outer s H vs Q E hr hsp
 exact ⟨t,h.nox,q⟩
theorem fnDc {P:Program} {w:World} {K:PySem.W.Frag} {mg:Str→Option Value} {base:Heap} {x qual:Str} {st:Stmt} {f:Addr} {fd:FuncData} {N ps:List Str} {k:Nat} {c:Addr} (F:Fun K x qual st f fd) (hc:fd.code = .ref c) (S:FnScope N ps (ah st)) (M:Md) (sd:SpD)
 (hl:∀ ds q,sd ds q→ds.length=ps.length) (ho:M.ow.take ps.length=M.mu) (hml:M.mu.length=ps.length)
 (hbody:∀ (A:Around) (outer:List Env) (s:Shared) (H:Hp) (E:XK),Room k (A.deeper (envOfC qual (ah st) s.heap.objs.size f (.ref c))) →
  ∃ m,QSs (jh CX0 P w K mg base N qual (ah st) f (.ref c) A outer s H E).nox M (ce st) m∧∀ ds q,sd ds q→m (iK M.mu q) (ds.map some++List.replicate (N.length - ps.length) none)) :
 FnOk P w K mg base CX0 (k + 1) f fd ps (aQ M.mu M.fr sd):=by
 have hov:∀ i:Nat,i<M.mu.length→M.ow[i]? = M.mu[i]?:=fun i hi=>by rw [← ho,List.getElem?_take_of_lt (by omega)]
 have hlen:∀ vs H Q E,aQ M.mu M.fr sd vs H Q E→vs.length=ps.length:=fun vs H Q E ⟨C,G,ds,q,_,_,⟨O,ro⟩,h1,_,_⟩=>by
  have:=ro.len; simp at this; rw [← this]; exact hl ds q h1
 refine F.okc hc S hlen fun A outer s H vs Q E hr hsp=>?_
 obtain ⟨m,⟨t,p,ss⟩,hm⟩:=hbody A outer s H E hr
 have hvl:=hlen vs H Q E hsp
 obtain ⟨C,G,ds,q,hnp,hmu,⟨O,ro⟩,hsd,hml2,kk⟩:=hsp
 refine ⟨t,p,?_⟩
 have hmo:f6 C M.mu:=fun i v e=>by rw [hmu] at e; exact (iS e).1
 have r0:R C M.ow G (ds.map some++List.replicate (N.length - ps.length) none) (cS N vs) H []:=by
  unfold cS; rw [hvl]
  exact ⟨O,ro.grow _ fun i hi=>hov i (by omega)⟩
 refine ss C G _ _ H (iK M.mu q) _ hmo hnp r0 (hm ds q hsd) ⟨?_,fun _ _ _ _ h=>h.elim,fun _ _ _ _ h=>h.elim,?_⟩
 ·intro ρ σ G' H' h z ⟨O',r'⟩
  refine kk .non (b9 M.mu.length ρ) (b9 M.mu.length σ) .non G' H' (by rw [cD]; exact h) z (cE _ _) (R.non ⟨O',r'.trim hmo hov⟩)
 ·intro d ρ σ v G' H' h z hr'
  refine kk d (b9 M.mu.length ρ) (b9 M.mu.length σ) v G' H' (by rw [cD]; exact h) z (cE _ _) ?_
  unfold Ret at hr' ⊢
  split at hr'
  ·rename_i c; rw [if_pos c]; obtain ⟨O',r'⟩:=hr'; exact ⟨O',r'.trim hmo hov⟩
  ·rename_i c; rw [if_neg c]; obtain ⟨⟨O',r'⟩,p⟩:=hr'; exact ⟨⟨O',r'.trim hmo hov⟩,p⟩
def lR (H:Hp):Prop:=∀ b,H b=none∨(∃ o xs,H b=some (.frz o (.lst xs)))∨∃ ps q,H b=some (.tbl ps q)
def jU (H:Hp):Hp:=fun a=>match H a with
 | some (.tbl _ _)=>none
 | o=>o
theorem sK {H:Hp} {a:Addr} {o:HO} (h:H a=some o) (n:NT o):jU H a=some o:=by
 unfold jU; rw [h]
 cases o <;> first | rfl | exact absurd rfl (n _ _)
theorem sE {H:Hp} {a:Addr} {o:HO} (h:jU H a=some o):H a=some o:=by
 unfold jU at h
 split at h
 ·cases h
 ·exact h
def iD (K:PySem.W.Frag):Sp:=fun vs H Q _=>∃ (a:Addr) (ns:List Int),vs=[.ref a]∧lR H∧SqL K H a (ns.map V.int)∧ns.length≤63∧∀ H',Q (.bl true) H'
theorem mY {K:PySem.W.Frag} {vs:List V} {H:Hp} {Q:VK} {E:XK} (h:iD K vs H Q E):aQ [false] false (o4 K) vs H Q E:=by
 obtain ⟨a,ns,rfl,hO,hS,hl,hq⟩:=h
 have main:∀ φ:Addr→Prop,lz K φ ns→Rep (jU H) (.scr φ ns) (.ref a)→aQ [false] false (o4 K) [.ref a] H Q E:=fun φ hφ r=>by
  refine ⟨⟨jU H,H,fun _=>none,[none],0⟩,jU H,[.scr φ ns],fun d _=>d = .bl true,rfl,rfl,⟨fun _=>none,rfl,fun _ _ e=>sE e,aF.refl _,fun _ _ e=>.inl e,fun a l e=>by (first | cases e),fun a l π e=>by (first | cases e),fun _ _ e _ _=>e,(fun a ps q e=>by unfold jU; rw [e]),fun _ e=>e,fun i v e=>?_,?_,trivial,Nat.le_refl _⟩,⟨φ,ns,rfl,hφ,hl,rfl⟩,rfl,?_⟩
  ·cases i with
   | zero=>simp at e
   | succ i=>simp at e
  ·intro i d e
   cases i with
   | zero=>simp at e; subst e; exact ⟨_,rfl,by simpa using r⟩
   | succ i=>simp at e
  ·intro d ρ' σ' v G' H' hd _ _ hr
   subst hd
   unfold Ret at hr
   rw [if_neg (by decide)] at hr
   rw [bY hr.2]
   exact hq H'
 rcases hS with (h1 | ⟨o,h1⟩) | h1
 ·rcases hO a with z | ⟨o,xs,z⟩ | ⟨ps,q,z⟩ <;> (rw [h1] at z; cases z)
 ·exact main (fun _=>False) (fun _ _ z=>z.elim) (by rw [Rep]; exact ⟨a,rfl,.inl ⟨o,sK h1 fun _ _ z=>by cases z⟩⟩)
 ·exact main (fun b=>b=a) (fun b H' z=>by subst z; exact .inr h1) (by rw [Rep]; exact ⟨a,rfl,.inr rfl⟩)
theorem na {P:Program} {w:World} {K:PySem.W.Frag} {mg mb:Str→Option Value} {CX:CXT} {k:Nat} {fa a c Pt:Addr} {tq:Str} {fd:FuncData} {x:Str} {sp:Sp} {s₁:Shared} {vs:List Value} {ns:List Int}
 (KX:K.In s₁.heap) (hns:s₁.heap.Ns mainGlobals mg) (hb:s₁.heap.Ns builtinsNs mb) (hbb:∀ x:Str,x ≠ "__name__" → mb x=bootBuiltins x) (hlim:s₁.heap.NoLimit) (hg:s₁.gens = #[])
 (ha:s₁.heap.get? a=some { cls:=.type "list",data:=.seq vs.toArray }) (hi:IntsAre vs ns) (hl:ns.length≤sizeLine) (hr:Room k callerA)
 (hT:CodeHd s₁.heap c Pt) (hPt:s₁.heap.get? Pt=some (tabObj #[])) (hblt:s₁.heap.BuiltinsAt mg Pt) (hKP:K.lookup Pt=none)
 (F:∀ base:Heap,K.In base→base.Ns mainGlobals mg→TabB base mg c Pt tq→FnOk P w K mg base CX k fa fd [x] sp) (hbind:∀ (s:Shared) (u:Value),BindsTo s fd ⟨[u],[]⟩ [(x,u)])
 (hsp:∀ H:Hp,lR H→SqL K H a (ns.map V.int)→sp [.ref a] H (fun v _=>v = .bl true) fun _ _ _=>False)
 (hCX:∀ H e s',CX [] H s₁ (fun _ _ _=>False) e s'→False) :
 codeAny (model P w) callerA (.call (.ref fa) ⟨[.ref a],[]⟩) (fun r s'=>r = .ok (.ret (.bool true))∧OldK s₁.heap s'.heap∧s'.os=s₁.os∧AllBare s'.gens) s₁:=by
 have rv:=er hi
 have lenV:=hi.length
 have hne:Pt≠a:=fun z=>by rw [z,ha] at hPt; cases hPt
 have core:∀ H:Hp,lR H→SqL K H a (ns.map V.int)→HOk P w H s₁.heap→H Pt=some (.tbl #[] tq)→(∀ b,H b≠none→b=a∨b=Pt)→(H a≠none→K.lookup a=none) →
  codeAny (model P w) callerA (.call (.ref fa) ⟨[.ref a],[]⟩) (fun r s'=>r = .ok (.ret (.bool true))∧OldK s₁.heap s'.heap∧s'.os=s₁.os∧AllBare s'.gens) s₁:=by
  intro H hO hS hok hP hA hK
  have base_of:∀ {b:Addr} {o:Obj},s₁.heap.get? b=some o→H b=none→(dj s₁.heap H).get? b=some o:=fun e n=>rn e n
  have noA:∀ {b:Addr} {o:Obj},s₁.heap.get? b=some o→(∀ xs n,o.data≠.seq xs n)→o.cls≠.none∨(∀ xs,o.data≠.fields xs)→H b=none:=fun {b o} e d1 d2=>by
   cases q:H b with
   | none=>rfl
   | some u =>
    rcases hA b (by rw [q]; simp) with z | z
    ·rw [z,ha] at e; cases e; exact absurd rfl (d1 _ _)
    ·rw [z,hPt] at e; cases e
     rcases d2 with d2 | d2
     ·exact absurd rfl d2
     ·exact absurd rfl (d2 _)
  have nsK:∀ {b:Addr} {m:Str→Option Value},s₁.heap.Ns b m→(dj s₁.heap H).Ns b m:=fun {b m} ⟨o,es,ep,e,d,r⟩=>⟨o,es,ep,base_of e (noA e (fun _ _ z=>by rw [d] at z; cases z) (.inr fun _ z=>by rw [d] at z; cases z)),d,r⟩
  have hKb:K.In (dj s₁.heap H):=fun b o e=>base_of (KX b o e) (by
   cases q:H b with
   | none=>rfl
   | some u =>
    rcases hA b (by rw [q]; simp) with z | z
    ·subst z; rw [hK (by rw [q]; simp)] at e; cases e
    ·rw [z,hKP] at e; cases e)
  have hM:Mod K mg (dj s₁.heap H):=⟨hKb,nsK hns,⟨mb,nsK hb,hbb⟩,let ⟨mc,h1,h2⟩:=hlim; ⟨mc,nsK h1,h2⟩⟩
  have e0:Env0 P w K mg (dj s₁.heap H) callerA [] s₁ H:=⟨rfl,hM,fun b o e=>rS e,Nat.le_of_eq (d8 _ _),trivial,fun b hb=>absurd (show b∈([]:List Addr) from hb) (by simp),hok,.of_eq hg,TbM.hid⟩
  have tab:TabB (dj s₁.heap H) mg c Pt tq:=by
   refine ⟨TMk.hid (Heap.lt_size hPt) hP,?_,?_⟩
   ·obtain ⟨o,vs,file,tf,flags,tg,inF,text,tt,e,ec,ed,r⟩:=hT
    exact ⟨o,vs,file,tf,flags,tg,inF,text,tt,base_of e (noA e (fun _ _ z=>by rw [ed] at z; cases z) (.inl (by rw [ec]; intro z; cases z))),ec,ed,r⟩
   ·obtain ⟨bm,o,b1,b2,b3,b4,b5,b6,b7,b8⟩:=hblt
    exact ⟨bm,o,b1,b2,b3,b4,base_of b5 (noA b5 (fun _ _ z=>by rw [b8] at z; cases z) (.inl (by rw [b6]; intro z; cases z))),b6,b7,b8⟩
  refine codeAny_mono ((F _ hKb (nsK hns) tab).run callerA [] s₁ H ⟨[.ref a],[]⟩ [.ref a] [.ref a] _ _ hr e0 (hbind s₁ (.ref a)) (.cons rfl .nil) (hsp H hO hS)) fun r s' h=>?_
  cases r with
  | error e=>exact (hCX H e s' h).elim
  | ok fl =>
   cases fl with
   | next=>exact False.elim h
   | brk=>exact False.elim h
   | cont=>exact False.elim h
   | ret u =>
    obtain ⟨v,H',os,bare,un,hok',r',q⟩:=h
    have q':v = .bl true:=q
    subst q'
    obtain rfl:u=Value.bool true:=r'
    refine ⟨rfl,⟨fun b o e=>?_,fun b o e=>un.there b o e (by simp)⟩,os,bare⟩
    cases q:H b with
    | none=>exact .inl (un.keep b o e q (by intro z; exact absurd (show b∈([]:List Addr) from z) (by simp)) (by simp))
    | some u =>
     by_cases zP:b=Pt
     ·subst zP
      obtain ⟨more,z2⟩:=un.tbls b _ _ hP
      obtain ⟨e2,_⟩:=hok' b _ z2
      rw [hPt] at e; cases e
      exact .inr (.inl ⟨(hT.tab hPt).isCodeTable,rfl,#[],more,rfl,e2⟩)
     ·rcases hO b with z | ⟨ob,xs,z⟩ | ⟨ps,q2,z⟩
      ·rw [q] at z; cases z
      ·have z2:=un.frzs b ob _ z
       obtain ⟨e1,_⟩:=hok b _ z
       obtain ⟨e2,_⟩:=hok' b _ z2
       rw [e] at e1; cases e1
       exact .inl e2
      ·rcases hA b (by rw [q]; simp) with y | y
       ·subst y
        obtain ⟨e1,_⟩:=hok b _ z
        rw [ha] at e1; cases e1
       ·exact absurd y zP
 have tok:∀ {H:Hp},TbV H #[] tq:=⟨trivial,fun pos cv e=>by cases e⟩
 cases hk:K.lookup a with
 | some o =>
  have e:=KX a o hk
  rw [ha] at e
  cases e
  refine core (fun b=>if b=Pt then some (.tbl #[] tq) else none) (fun b=>?_) (.inr ⟨_,vs.toArray,_,hk,rfl,rfl,rfl,by rw [List.size_toArray,lenV]; exact hl,by simpa using rv⟩) (fun b u z=>?_) (if_pos rfl) (fun b z=>?_) fun z=>absurd (if_neg (Ne.symm hne)) z
  ·by_cases hb:b=Pt
   ·exact .inr (.inr ⟨_,_,if_pos hb⟩)
   ·exact .inl (if_neg hb)
  ·by_cases hb:b=Pt
   ·have z':=(if_pos hb).symm.trans z
    cases z'
    subst hb
    exact ⟨hPt,tok⟩
   ·have z':=(if_neg hb).symm.trans z
    cases z'
  ·by_cases hb:b=Pt
   ·exact .inr hb
   ·exact absurd (if_neg hb) z
 | none =>
  obtain ⟨H,hH⟩:∃ H:Hp,H=fun b=>if b=Pt then some (.tbl #[] tq) else if b=a then some (.frz { cls:=.type "list",data:=.seq vs.toArray } (.lst (ns.map V.int))) else none:=⟨_,rfl⟩
  have h1:H Pt=some (.tbl #[] tq):=by rw [hH]; exact if_pos rfl
  have h2:H a=some (.frz { cls:=.type "list",data:=.seq vs.toArray } (.lst (ns.map V.int))):=by rw [hH]; show (if a=Pt then _ else _)=_; rw [if_neg (Ne.symm hne),if_pos rfl]
  have h3:∀ b,b≠Pt→b≠a→H b=none:=fun b z1 z2=>by rw [hH]; show (if b=Pt then _ else _)=_; rw [if_neg z1,if_neg z2]
  refine core H (fun b=>?_) (.inl (.inr ⟨{ cls:=.type "list",data:=.seq vs.toArray },h2⟩)) (fun b u z=>?_) h1 (fun b z=>?_) fun _=>hk
  ·by_cases hb:b=Pt
   ·rw [hb]; exact .inr (.inr ⟨_,_,h1⟩)
   ·by_cases hb2:b=a
    ·rw [hb2]; exact .inr (.inl ⟨_,_,h2⟩)
    ·exact .inl (h3 b hb hb2)
  ·by_cases hb:b=Pt
   ·subst hb; rw [h1] at z; cases z; exact ⟨hPt,tok⟩
   ·by_cases hb2:b=a
    ·subst hb2; rw [h2] at z; cases z
     exact ⟨ha,by rw [List.length_map]; exact hl,vs,_,rv,ha⟩
    ·rw [h3 b hb hb2] at z; cases z
  ·by_cases hb:b=Pt
   ·exact .inr hb
   ·by_cases hb2:b=a
    ·exact .inl hb2
    ·exact absurd (h3 b hb hb2) z
theorem rG {l:PySem.W.OpenLaw} {n k:Nat} {q:Program} {loose:List Str} {XP:(Str→Option Value)→Heap→Prop} {YP:World→Heap→Prop} {d:DefRec} {K:Params→PySem.W.Frag} {sp:World→Sp} {x:Str} {c Pt:Addr} {tq:Str}
 (hn:l.most=some n) (hn2:n≤sizeLine) (hdf:d.params.defaults=[]) (hr:Room k callerA)
 (hY:∀ (w:World) (h:Heap),YP w h→(K w.params).In h∧h.get? Pt=some (tabObj #[]))
 (hcd0:∀ w:World,codeHdIn (K w.params) c Pt=true) (hKP:∀ w:World,(K w.params).lookup Pt=none)
 (F:∀ (w:World) (mg:Str→Option Value) (fa:Addr) (h:Heap),(K w.params).In h→h.Ns mainGlobals mg→mg d.name=some (.ref fa) →
  ∃ fd:FuncData,(∀ (s:Shared) (u:Value),BindsTo s fd ⟨[u],[]⟩ [(x,u)]) ∧
   ∀ base:Heap,(K w.params).In base→base.Ns mainGlobals mg→TabB base mg c Pt tq→FnOk l.prog w (K w.params) mg base CX0 k fa fd [x] (sp w))
 (hsp:∀ (w:World) (H:Hp) (a:Addr) (ns:List Int),ns.length≤n→lR H→SqL (K w.params) H a (ns.map V.int)→sp w [.ref a] H (fun v _=>v = .bl true) fun _ _ _=>False)
 (hCX:∀ (H:Hp) (s:Shared) (e:Value) (s':Shared),CX0 [] H s (fun _ _ _=>False) e s'→False) :
 PySem.W.WalkO q loose XP YP l.row.toRowW d [] (fun f vs=>PySem.call f vs):=by
 refine Att.attach_call hn hdf fun w s₀ s₁ mg mb fa o pm cd doc a vs ns G Y ho hd hcd hmg hobj hints hlen hg=>?_
 obtain ⟨KX,t2⟩:=hY w _ Y
 obtain ⟨fd,hb,hF⟩:=F w mg fa _ KX G.T.g hmg
 have t1:=codeHd_of_K KX (hcd0 w)
 have hblt:s₁.heap.BuiltinsAt mg Pt:=by
  obtain ⟨bm,ob,b1,b2,b3,b4,b5,b6⟩:=G.T.bmain
  refine ⟨bm,ob,b1,b2,fun z=>?_,fun z=>?_,b3,b4,b5,b6⟩
  ·obtain ⟨o,es,ep,e,hd,_⟩:=G.T.g
   rw [z,e] at b3; cases b3; rw [hd] at b6; cases b6
  ·rw [z,t2] at b3; cases b3; cases b4
 exact na KX G.T.g G.T.b G.T.builtins G.T.nolimit hg hobj hints (Nat.le_trans hlen hn2) hr t1 t2 hblt (hKP w) hF hb (fun H hO hS=>hsp w H a ns hlen hO hS) fun H e s'=>hCX H s₁ e s'
end L2
namespace L2
open PySem
def DvM (r:Rat) (M:Nat):Prop:=∃ k:Int,r * ((M:Int):Rat)=(k:Rat)
theorem DvM.add {r s:Rat} {M:Nat}:DvM r M→DvM s M→DvM (r + s) M
 | ⟨k,h⟩,⟨l,g⟩=>⟨k + l,by rw [Rat.add_mul,h,g,Rat.intCast_add]⟩
theorem DvM.sub {r s:Rat} {M:Nat}:DvM r M→DvM s M→DvM (r - s) M
 | ⟨k,h⟩,⟨l,g⟩=>⟨k - l,by rw [Rat.sub_eq_add_neg,Rat.add_mul,Rat.neg_mul,h,g,Rat.intCast_sub,Rat.sub_eq_add_neg]⟩
theorem DvM.mulI {r:Rat} {M:Nat} (i:Int):DvM r M→DvM ((i:Rat) * r) M
 | ⟨k,h⟩=>⟨i * k,by rw [Rat.mul_assoc,h,Rat.intCast_mul]⟩
theorem DvM.int (i:Int) (M:Nat):DvM (i:Rat) M:=⟨i * M,by rw [Rat.intCast_mul]⟩
theorem DvM.zero (M:Nat):DvM 0 M:=⟨0,by rw [Rat.zero_mul]; rfl⟩
theorem DvM.up {r:Rat} {M:Nat} (n:Nat):DvM r M→DvM r (M * n)
 | ⟨k,h⟩=>⟨k * n,by rw [Int.natCast_mul,Rat.intCast_mul,← Rat.mul_assoc,h,Rat.intCast_mul]⟩
theorem DvM.div {r:Rat} {M n:Nat} (hn : 0<n):DvM r M→DvM (r / ((n:Int):Rat)) (M * n)
 | ⟨k,h⟩=>⟨k,by
  have hz:((n:Int):Rat)≠0:=fun z=>by have:=Rat.intCast_eq_zero_iff.mp z; omega
  rw [Int.natCast_mul,Rat.intCast_mul,← h]
  generalize ((n:Int):Rat)=x at hz
  grind⟩
theorem DvM.sum {M:Nat}:∀ {rs:List Rat},(∀ r∈rs,DvM r M)→DvM rs.sum M
 | [],_=>DvM.zero M
 | r :: rs,h=>by rw [List.sum_cons]; exact (h r (.head _)).add (DvM.sum fun x hx=>h x (.tail _ hx))
theorem DvM.den {r:Rat} {M:Nat} (M0 : 0<M):DvM r M→r.den∣M
 | ⟨k,h⟩=>by
  have hz:((M:Int):Rat)≠0:=fun z=>by have:=Rat.intCast_eq_zero_iff.mp z; omega
  have e:r=Rat.divInt k M:=by
   rw [Rat.divInt_eq_div,← h]
   generalize ((M:Int):Rat)=x at hz
   grind
  rw [e,Rat.den_divInt,if_neg (by omega),Int.natAbs_natCast]
  refine Nat.div_dvd_of_dvd ?_
  have:=Int.gcd_dvd_left (M:Int) k
  exact Int.natCast_dvd_natCast.mp this
theorem jY {r:Rat} {M b m x:Nat} (h0 : 0≤r) (h1:r≤((b:Int):Rat)) (h:DvM r M) (M0 : 0<M) (hM:M<2 ^ m) (hb:b≤2 ^ x):Bt r (m + x):=by
 have hd:=Nat.le_of_dvd M0 (h.den M0)
 have hn:=vY h0
 have h2:=(Rat.le_iff r ((b:Int):Rat)).mp h1
 rw [Rat.num_intCast,Rat.den_intCast] at h2
 have h3:r.num.natAbs≤b * r.den:=by
  have:r.num≤((b * r.den:Nat):Int):=by rw [Int.natCast_mul]; omega
  omega
 have hx : 0<2 ^ x:=Nat.pow_pos (by decide)
 refine ⟨?_,?_⟩
 ·have h4:b * r.den≤2 ^ x * r.den:=Nat.mul_le_mul_right _ hb
  have h5 : 2 ^ x * r.den<2 ^ x * 2 ^ m:=Nat.mul_lt_mul_of_pos_left (by omega) hx
  rw [Nat.pow_add,Nat.mul_comm (2 ^ m)]
  omega
 ·rw [Nat.pow_add]
  have : 2 ^ m≤2 ^ m * 2 ^ x:=Nat.le_mul_of_pos_right _ hx
  omega
structure PrM (ps:List Int) (prs:List Rat) (M b:Nat):Prop where
 len:prs.length=ps.length
 ok:∀ r∈prs,0≤r∧r≤((b:Int):Rat)∧DvM r M
theorem PrM.zero (ps:List Int) (M b:Nat):PrM ps (List.replicate ps.length 0) M b:=⟨List.length_replicate,fun r hr=>by
 rw [List.eq_of_mem_replicate hr]
 exact ⟨by decide,Rat.intCast_nonneg.mpr (by omega),DvM.zero M⟩⟩
theorem oq {b:Rat} (hb : 0≤b):∀ {rs:List Rat},(∀ r∈rs,0≤r∧r≤b)→0≤rs.sum∧rs.sum≤(rs.length:Rat) * b
 | [],_=>by rw [List.sum_nil,List.length_nil]; exact ⟨by decide,by rw [show ((0:Nat):Rat)=0 from rfl,Rat.zero_mul]; decide⟩
 | r :: rs,h=>by
  have ih:=oq hb (rs:=rs) fun x hx=>h x (.tail _ hx)
  have h0:=h r (.head _)
  rw [List.sum_cons,List.length_cons]
  have e:((rs.length + 1:Nat):Rat)=(rs.length:Rat) + 1:=by rw [Rat.natCast_add]; rfl
  rw [e,Rat.add_mul,Rat.one_mul]
  constructor <;> grind
theorem rq {ps rs:List Int} {prs:List Rat} {a:Ask} {M b:Nat} (hT:Tree ps rs) (he:Ends2 ps a.one a.other) (hp:PrM ps prs M b):(∀ r∈(bG ps a).map (fun t=>prs.getD (t - 1).toNat 0),r∈prs)∧0≤cZ ps a prs∧cZ ps a prs≤(((46 * b:Nat):Int):Rat)∧DvM (cZ ps a prs) M:=by
 have hm:∀ r∈(bG ps a).map (fun t=>prs.getD (t - 1).toNat 0),r∈prs:=fun r hr=>by
  obtain ⟨t,ht,rfl⟩:=List.mem_map.mp hr
  have:=eW hT he ht
  exact fA (by rw [hp.len]; omega)
 have hb:(0:Rat)≤((b:Int):Rat):=Rat.intCast_nonneg.mpr (by omega)
 have h1:=oq hb fun r hr=>⟨(hp.ok r (hm r hr)).1,(hp.ok r (hm r hr)).2.1⟩
 refine ⟨hm,h1.1,?_,DvM.sum fun r hr=>(hp.ok r (hm r hr)).2.2⟩
 refine Rat.le_trans h1.2 ?_
 have hl:(bG ps a).length≤46:=eu hT he
 rw [List.length_map,Int.natCast_mul,Rat.intCast_mul]
 have hl':((bG ps a).length:Rat)≤((46:Nat):Rat):=Rat.natCast_le_natCast.mpr hl
 exact Rat.mul_le_mul_of_nonneg_right hl' hb
theorem s8 {r s:Rat} (h:r≤s) (hs : 0≤s) : 0≤jE r∧jE r≤s:=by
 unfold jE; split
 ·exact ⟨Rat.le_of_lt (by assumption),h⟩
 ·exact ⟨by decide,hs⟩
theorem lS {ps rs:List Int} {prs:List Rat} {a:Ask} {w:Int} {M b:Nat} (hT:Tree ps rs) (ha:AskOk ps a) (hw : 0≤w) (hp:PrM ps prs M b) : 0≤a6 ps a w prs∧a6 ps a w prs≤(((1000000000000:Nat):Int):Rat)∧DvM (a6 ps a w prs) M:=by
 obtain ⟨_,h0,h1,h2⟩:=rq hT ha.ends hp
 have hw':(0:Rat)≤(w:Rat):=Rat.intCast_nonneg.mpr hw
 have hwp:(0:Rat)≤(w:Rat) * cZ ps a prs:=Rat.mul_nonneg hw' h0
 have hwo:(a.worth:Rat)≤(((1000000000000:Nat):Int):Rat):=Rat.intCast_le_intCast.mpr (by have:=ha.w1; omega)
 have hb:=s8 (r:=(a.worth:Rat) - (w:Rat) * cZ ps a prs) (s:=(((1000000000000:Nat):Int):Rat)) (by grind) (by decide)
 refine ⟨hb.1,hb.2,?_⟩
 show DvM (jE _) M
 unfold jE
 split
 ·exact (DvM.int a.worth M).sub (h2.mulI w)
 ·exact DvM.zero M
def pe:SpD:=fun ds q=>∃ ps rs a w prs,∃ M b:Nat,ds=[a_ ps rs,dn a,.int w,dQs prs]∧Tree ps rs∧AskOk ps a∧0≤w∧w≤1000000∧PrM ps prs M b∧0<M∧M<2 ^ 400∧b≤2 ^ 60∧q (dQ (a6 ps a w prs)) []
def cG (st:Rat) (prs:List Rat) (w:List Int):List Rat:=w.foldl (fun l t=>l.set (t - 1).toNat (l.getD (t - 1).toNat 0 + st)) prs
theorem jI (st:Rat) (prs:List Rat) (w:List Int) (t:Int):cG st prs (w++[t])=(cG st prs w).set (t - 1).toNat ((cG st prs w).getD (t - 1).toNat 0 + st):=by
 unfold cG; rw [List.foldl_append]; rfl
theorem PrM.raise {ps:List Int} {M X:Nat} {st:Rat} (h0 : 0≤st) (h1:st≤((X:Int):Rat)) (hd:DvM st M):∀ {w:List Int} {prs:List Rat} {b:Nat},(∀ t∈w,0<t∧t≤(ps.length:Int))→PrM ps prs M b→PrM ps (cG st prs w) M (b + w.length * X)
 | [],prs,b,_,h=>by rw [List.length_nil,Nat.zero_mul]; exact h
 | t :: w,prs,b,hw,h=>by
  have ht:=hw t (.head _)
  have hm:=h.ok _ (fA (rs:=prs) (k:=(t - 1).toNat) (by rw [h.len]; omega))
  have e:(((b + X:Nat):Int):Rat)=((b:Int):Rat) + ((X:Int):Rat):=by rw [Int.natCast_add,Rat.intCast_add]
  have hx:(0:Rat)≤((X:Int):Rat):=Rat.intCast_nonneg.mpr (by omega)
  have h':PrM ps (prs.set (t - 1).toNat (prs.getD (t - 1).toNat 0 + st)) M (b + X):=by
   refine ⟨by rw [List.length_set]; exact h.len,tK (fun r hr=>?_) ?_⟩
   ·obtain ⟨a1,a2,a3⟩:=h.ok r hr
    exact ⟨a1,by rw [e]; grind,a3⟩
   ·exact ⟨Rat.add_nonneg hm.1 h0,by rw [e]; grind,hm.2.2.add hd⟩
  have:=PrM.raise h0 h1 hd (w:=w) (fun x hx=>hw x (.tail _ hx)) h'
  rw [List.length_cons,show b + (w.length + 1) * X=b + X + w.length * X by rw [Nat.add_mul]; omega]
  exact this
theorem PrM.up {ps:List Int} {prs:List Rat} {M b:Nat} (n:Nat) (h:PrM ps prs M b):PrM ps prs (M * n) b:=⟨h.len,fun r hr=>⟨(h.ok r hr).1,(h.ok r hr).2.1,(h.ok r hr).2.2.up n⟩⟩
theorem PrM.mono {ps:List Int} {prs:List Rat} {M b c:Nat} (h:PrM ps prs M b) (hb:b≤c):PrM ps prs M c:=⟨h.len,fun r hr=>⟨(h.ok r hr).1,Rat.le_trans (h.ok r hr).2.1 (Rat.intCast_le_intCast.mpr (by omega)),(h.ok r hr).2.2⟩⟩
def bN (ps:List Int) (a:Ask):List Int:=(bG ps a).filter fun x=>decide (cY ps x=kc ps a.one a.other)
def sD:SpD:=fun ds q=>∃ ps rs a prs st,∃ M b X:Nat,ds=[a_ ps rs,dn a,dQs prs,dQ st]∧Tree ps rs∧Ends2 ps a.one a.other∧PrM ps prs M b∧0≤st∧st≤((X:Int):Rat)∧DvM st M∧0<M∧M<2 ^ 400∧b + 46 * X≤2 ^ 60∧q .non [some (dQs (cG st prs (bN ps a)))]
def jH:Option (Int×Int)→D
 | none=>.non
 | some (w,p)=>.tup [.int w,.int p]
def kl (ts:List (Option (Int×Int))):D:=.lst (ts.map jH)
def ge (ts:List (Option (Int×Int))):Prop:=∀ w p,some (w,p)∈ts→0≤w∧w≤1000000∧1≤p∧p≤64
structure Pil where
 pile:List Int
 prs:List Rat
 rests:List Rat
def fV (ps:List Int) (as:List Ask) (S:Pil) (k:Int) (w p:Int):Pil :=
 if a6 ps (bp as k) w S.prs=0 then ⟨S.pile,S.prs,S.rests.set k.toNat (a6 ps (bp as k) w S.prs)⟩
 else ⟨S.pile++[k],cG (a6 ps (bp as k) w S.prs / (p:Rat)) S.prs (bN ps (bp as k)),S.rests.set k.toNat (a6 ps (bp as k) w S.prs)⟩
def e8 (ps:List Int) (as:List Ask) (ts:List (Option (Int×Int))) (S:Pil) (k:Int):Pil :=
 match ts.getD k.toNat none with
 | none=>S
 | some (w,p)=>fV ps as S k w p
def cB (ps:List Int) (as:List Ask) (ts:List (Option (Int×Int))) (o:List Int):Pil:=o.foldl (e8 ps as ts) ⟨[],List.replicate ps.length 0,List.replicate as.length 0⟩
theorem gv (ps:List Int) (as:List Ask) (ts:List (Option (Int×Int))) (o:List Int) (k:Int):cB ps as ts (o++[k])=e8 ps as ts (cB ps as ts o) k:=by
 unfold cB; rw [List.foldl_append]; rfl
structure PileI (ps:List Int) (as:List Ask) (S:Pil) (i:Nat):Prop where
 rl:S.rests.length=as.length
 pl:S.pile.length≤i
 pm:∀ k∈S.pile,0≤k∧k<(as.length:Int)
 pr:∃ M:Nat,0<M∧M≤64 ^ i∧PrM ps S.prs M (i * 46000000000000)
theorem pile0 (ps:List Int) (as:List Ask):PileI ps as ⟨[],List.replicate ps.length 0,List.replicate as.length 0⟩ 0:=⟨List.length_replicate,Nat.le_refl _,(fun k hk=>by cases hk),1,by decide,by decide,PrM.zero ps 1 _⟩
theorem jD {ps rs:List Int} (hT:Tree ps rs) {a:Ask} (he:Ends2 ps a.one a.other):(∀ t∈bN ps a,0<t∧t≤(ps.length:Int))∧(bN ps a).length≤46 :=
 ⟨fun t ht=>eW hT he (List.mem_filter.mp ht).1,Nat.le_trans (List.length_filter_le _ _) (eu hT he)⟩
theorem qJ {r:Rat} {b:Rat} {p:Int} (h0 : 0≤r) (h1:r≤b) (hp : 1≤p) : 0≤r / (p:Rat)∧r / (p:Rat)≤b:=by
 have hq:(1:Rat)≤(p:Rat):=Rat.intCast_le_intCast.mpr hp
 have hq0:(0:Rat)<(p:Rat):=by grind
 have e:=Rat.div_mul_cancel (a:=r) (b:=(p:Rat)) (by grind)
 constructor
 ·exact Rat.le_of_mul_le_mul_right (c:=(p:Rat)) (by rw [e,Rat.zero_mul]; exact h0) hq0
 ·refine Rat.le_of_mul_le_mul_right (c:=(p:Rat)) ?_ hq0
  rw [e]
  have:b * 1≤b * (p:Rat):=Rat.mul_le_mul_of_nonneg_left hq (Rat.le_trans h0 h1)
  grind
theorem PileI.step {ps rs:List Int} {as:List Ask} {S:Pil} {i:Nat} {k w p:Int} (hT:Tree ps rs) (ha:AsksOk ps as) (h:PileI ps as S i) (k0 : 0≤k) (k1:k<(as.length:Int)) (hw : 0≤w∧w≤1000000∧1≤p∧p≤64):PileI ps as (fV ps as S k w p) (i + 1):=by
 obtain ⟨rl,pl,pm,M,M0,hM,hP⟩:=h
 have hok:=iH ha k0 k1
 obtain ⟨s0,s1,s2⟩:=lS hT hok hw.1 hP
 have hM':M * p.toNat≤64 ^ (i + 1):=by rw [Nat.pow_succ]; exact Nat.mul_le_mul hM (by omega)
 have hM0' : 0<M * p.toNat:=Nat.mul_pos M0 (by omega)
 unfold fV
 split
 ·exact ⟨by rw [List.length_set]; exact rl,Nat.le_succ_of_le pl,pm,M * p.toNat,hM0',hM',(hP.up _).mono (Nat.mul_le_mul_right _ (Nat.le_succ i))⟩
 ·obtain ⟨t1,t2⟩:=jD hT hok.ends
  refine ⟨by rw [List.length_set]; exact rl,by rw [List.length_append]; exact Nat.succ_le_succ pl,fun z hz=>?_,M * p.toNat,hM0',hM',?_⟩
  ·rcases List.mem_append.mp hz with z1 | z1
   ·exact pm z z1
   ·rw [List.mem_singleton.mp z1]; exact ⟨k0,k1⟩
  ·obtain ⟨d0,d1⟩:=qJ s0 s1 hw.2.2.1
   have hd:DvM (a6 ps (bp as k) w S.prs / (p:Rat)) (M * p.toNat):=by
    have:=s2.div (n:=p.toNat) (by omega)
    rw [show ((p.toNat:Nat):Int)=p by omega] at this
    exact this
   have hr:=PrM.raise (X:=1000000000000) d0 d1 hd t1 (hP.up p.toNat)
   refine PrM.mono hr ?_
   rw [Nat.add_mul]
   have:(bN ps (bp as k)).length * 1000000000000≤46 * 1000000000000:=Nat.mul_le_mul_right _ t2
   exact Nat.add_le_add_left this _
theorem PileI.step' {ps rs:List Int} {as:List Ask} {S:Pil} {i:Nat} {k:Int} {ts:List (Option (Int×Int))} (hT:Tree ps rs) (ha:AsksOk ps as) (hts:ge ts) (h:PileI ps as S i) (k0 : 0≤k) (k1:k<(as.length:Int)):PileI ps as (e8 ps as ts S k) (i + 1):=by
 unfold e8
 split
 ·obtain ⟨rl,pl,pm,M,M0,hM,hP⟩:=h
  exact ⟨rl,Nat.le_succ_of_le pl,pm,M,M0,Nat.le_trans hM (Nat.pow_le_pow_right (by decide) (Nat.le_succ i)),hP.mono (Nat.mul_le_mul_right _ (Nat.le_succ i))⟩
 ·rename_i w p e
  refine h.step hT ha k0 k1 (hts w p ?_)
  rw [List.getD_eq_getElem?_getD] at e
  cases q:ts[k.toNat]? with
  | none=>rw [q] at e; cases e
  | some x=>rw [q] at e; cases e; exact List.mem_of_getElem? q
theorem iO {ps rs:List Int} {as:List Ask} {ts:List (Option (Int×Int))} (hT:Tree ps rs) (ha:AsksOk ps as) (hts:ge ts) {o:List Int} (ho:∀ k∈o,0≤k∧k<(as.length:Int)):∀ i:Nat,i≤o.length→PileI ps as (cB ps as ts (o.take i)) i
 | 0,_=>pile0 ps as
 | i + 1,h=>by
  have hi:i<o.length:=h
  have e:o.take (i + 1)=o.take i++[o[i]]:=(List.take_append_getElem hi).symm
  rw [e,gv]
  have hm:=ho _ (List.getElem_mem hi)
  exact (iO hT ha hts ho i (Nat.le_of_lt hi)).step' hT ha hts hm.1 hm.2
def pC (ps e:List Int) (as:List Ask):List Int:=as.map fun a=>e.getD (kc ps a.one a.other).toNat 0
def metF (ps e:List Int):D→D
 | .tup [.int a,.int b,_,_]=>.int (e.getD (kc ps a b).toNat 0)
 | d=>d
theorem oZ (ps e:List Int) (as:List Ask):(as.map dn).map (metF ps e)=(pC ps e as).map D.int:=by unfold pC; rw [List.map_map,List.map_map]; rfl
def ka (ps:List Int) (as:List Ask) (o:List Int):Prop:=∃ e,DepOk ps e ps.length∧SortK as.length (fun z=>-((pC ps e as).getD z.toNat 0)) o
theorem ka.mem {ps o:List Int} {as:List Ask}:ka ps as o→o.length=as.length∧∀ k∈o,0≤k∧k<(as.length:Int)
 | ⟨_,_,h⟩=>⟨by have:=h.perm.length_eq; simpa using this,fun k hk=>by
  obtain ⟨i,hi,rfl⟩:=List.mem_map.mp (h.perm.mem_iff.mp hk)
  have:=List.mem_range.mp hi
  omega⟩
def wz:SpD:=fun ds q=>∃ ps rs as,ds=[a_ ps rs,dR as]∧Tree ps rs∧AsksOk ps as∧∀ o,ka ps as o→q (au o) []
def wg:SpD:=fun ds q=>∃ ps rs as ts,ds=[a_ ps rs,dR as,kl ts]∧Tree ps rs∧AsksOk ps as∧ts.length=as.length∧ge ts∧∀ o,ka ps as o→q (.tup [au (cB ps as ts o).pile,dQs (cB ps as ts o).prs,dQs (cB ps as ts o).rests]) []
structure KL where
 load:List Int
 keep:List Int
def jL (ps rs:List Int) (as:List Ask) (S:KL) (k:Int):KL :=
 if gG rs (bp as k).size (bG ps (bp as k)) S.load=[] then ⟨fF S.load (bG ps (bp as k)) (bp as k).size,S.keep++[k]⟩ else S
def de (ps rs:List Int) (as:List Ask) (o:List Int):KL:=o.foldl (jL ps rs as) ⟨List.replicate ps.length 0,[]⟩
theorem gx (ps rs:List Int) (as:List Ask) (o:List Int) (k:Int):de ps rs as (o++[k])=jL ps rs as (de ps rs as o) k:=by
 unfold de; rw [List.foldl_append]; rfl
theorem gD (ps rs:List Int) (as:List Ask) (o:List Int):∀ i:Nat,i≤o.length→(de ps rs as (o.take i)).load.length=ps.length∧(de ps rs as (o.take i)).keep.length≤i∧∀ k∈(de ps rs as (o.take i)).keep,k∈o
 | 0,_=>⟨List.length_replicate,Nat.le_refl _,fun k hk=>by cases hk⟩
 | i + 1,h=>by
  have hi:i<o.length:=h
  have e:o.take (i + 1)=o.take i++[o[i]]:=(List.take_append_getElem hi).symm
  rw [e,gx]
  obtain ⟨h1,h2,h3⟩:=gD ps rs as o i (Nat.le_of_lt hi)
  unfold jL
  split
  ·refine ⟨by rw [gT]; exact h1,by rw [List.length_append]; exact Nat.succ_le_succ h2,fun k hk=>?_⟩
   rcases List.mem_append.mp hk with z | z
   ·exact h3 k z
   ·rw [List.mem_singleton.mp z]; exact List.getElem_mem hi
  ·exact ⟨h1,Nat.le_succ_of_le h2,h3⟩
def k8:SpD:=fun ds q=>∃ ps rs a l,ds=[a_ ps rs,dn a,au l]∧Tree ps rs∧Ends2 ps a.one a.other∧l.length=ps.length∧q (au (gG rs a.size (bG ps a) l)) []
def uK:SpD:=fun ds q=>∃ ps rs as p,ds=[a_ ps rs,dR as,au p]∧Tree ps rs∧AsksOk ps as∧p.length≤60∧(∀ k∈p,0≤k∧k<(as.length:Int))∧q (au (cf (de ps rs as p.reverse).keep)) []
end L2
namespace L2
open PySem PySem.Spec PyProof.Rows PySem.W
end L2
namespace L2
open PySem
def alT (k:Int) (as:List Ask):List (Option (Int×Int)):=List.replicate as.length (some (1,k))
end L2
namespace L2
open PySem PySem.Spec PyProof.Rows
section
variable {X:Cx} {M:Md} {a b c e:Expr} {ma mb mc:ME} {pos pos':Pos}
end
end L2
namespace L2
open PySem
end L2
namespace L2
open PySem PySem.Spec PyProof.Rows
section
variable {X:Cx}
end
section
variable {X:Cx} {o e:Expr} {apos cpos:Pos} {te:TE} {a:Addr} {kv:List (Str×Int)}
end
section
variable {X:Cx} {ow:List Bool} {b:Expr} {mb:ME} {pos apos cpos:Pos}
end
section
variable {X:Cx}
end
section
variable {X:Cx} {M:Md} {e:Expr} {ma:ME} {pos:Pos}
end
section
variable {X:Cx}
end
section
variable {X:Cx} {pos:Pos}
end
section
variable {X:Cx} {M:Md} {a b c:Expr} {ma mb mc:ME} {pos:Pos}
end
end L2
namespace L2
open PySem
end L2
namespace L2
open PySem PyProof.Rows
section
variable {prog:Program} {w:World} {A:Around} {E:Value→Shared→Prop} {s:Shared}
end
end L2
namespace L2
open PySem PyProof.Rows PySem.Spec
section
variable {prog:Program} {w:World} {A:Around} {R:Result→Shared→Prop} {I:Addr} {fp wr:List Addr} {G:Array GenState→Array GenState→Prop} {n:Nat} {P:Nat→Value→Prop} {St:Nat→Shared→Prop}
end
section
variable {prog:Program} {w:World} {A:Around} {E:Value→Shared→Prop} {s:Shared}
end
section
variable {prog:Program} {w:World} {A:Around} {E:Value→Shared→Prop} {s:Shared}
end
section
variable {prog:Program} {w:World} {A:Around} {E:Value→Shared→Prop} {s:Shared}
end
section
variable {prog:Program} {w:World} {A:Around} {E:Value→Shared→Prop} {s:Shared}
end
section
variable {prog:Program} {w:World} {A:Around} {E:Value→Shared→Prop} {s:Shared}
end
section
variable {prog:Program} {w:World} {A:Around} {E:Value→Shared→Prop} {s:Shared}
end
end L2
namespace L2
open PySem PySem.Spec PyProof.Rows
section
variable {X:Cx}
variable {ow:List Bool} {e:Expr} {ma:ME} {pos p1 p2 p3:Pos}
end
end L2
namespace L2
open PySem
end L2
namespace L2
open PySem PySem.Spec PyProof.Rows
section
variable {X:Cx}
end
inductive FP where
 | lit (x:Str) | var (i:Nat)
def kr:V→Option Str
 | .int n=>if n.natAbs.log2<1920 then some (toString n) else none
 | .str y=>if y.length≤1000 then some y else none
 | _=>none
def fY (σ:St):List FP→Option Str
 | []=>some Str.empty
 | .lit x :: r=>(fY σ r).map (x++·)
 | .var i :: r=>match σ[i]? with
  | some (some v)=>(kr v).bind fun a=>(fY σ r).map (a++·)
  | _=>none
def fmtD:D→Option Str
 | .int n=>if n.natAbs.log2<1920 then some (toString n) else none
 | .str y=>if y.length≤1000 then some y else none
 | _=>none
def fv (ρ:DSt):List FP→Option Str
 | []=>some Str.empty
 | .lit x :: r=>(fv ρ r).map (x++·)
 | .var i :: r=>match ρ[i]? with
  | some (some v)=>(fmtD v).bind fun a=>(fv ρ r).map (a++·)
  | _=>none
theorem pZ {ρ:DSt}:fv ρ []=some Str.empty:=rfl
theorem oO {ρ:DSt} {x y:Str} {r:List FP} (h:fv ρ r=some y):fv ρ (.lit x :: r)=some (x++y):=by rw [fv,h]; rfl
theorem jF {ρ:DSt} {i:Nat} {n:Int} {y:Str} {r:List FP} (h1 : ρ[i]? = some (some (.int n))) (h2:n.natAbs.log2<1920) (h:fv ρ r=some y):fv ρ (.var i :: r)=some ((toString n:Str)++y):=by
 rw [fv,h1,h]; show (if _ then _ else _:Option Str).bind _=_; rw [if_pos h2]; rfl
theorem kq {C:Ctx} {ow:List Bool} {G:Hp} {ρ:DSt} {σ:St} {H:Hp} {pd:List (D×V)} (r:R C ow G ρ σ H pd):∀ {ps:List FP} {y:Str},fv ρ ps=some y→fY σ ps=some y
 | [],y,h=>h
 | .lit x :: ps,y,h=>by
  rw [fv] at h
  obtain ⟨z,h1,h2⟩:=Option.map_eq_some_iff.mp h
  rw [fY,kq r h1]; exact congrArg some h2
 | .var i :: ps,y,h=>by
  rw [fv] at h
  split at h
  ·rename_i d e
   obtain ⟨a,h1,h2⟩:=Option.bind_eq_some_iff.mp h
   obtain ⟨z,h3,h4⟩:=Option.map_eq_some_iff.mp h2
   obtain ⟨O,ro⟩:=r
   obtain ⟨v,e1,e2⟩:=ro.sl i d e
   have ev:kr v=fmtD d:=by
    cases d with
    | int n =>
     have:v = .int n:=by
      split at e2
      ·rw [Sep] at e2; exact e2
      ·rw [Rep] at e2; exact e2
     rw [this]; rfl
    | str n =>
     have:v = .str n:=by
      split at e2
      ·rw [Sep] at e2; exact e2
      ·rw [Rep] at e2; exact e2
     rw [this]; rfl
    | _=>cases h1
   rw [fY,e1]
   show (kr v).bind _=_
   rw [ev,h1]
   show (fY σ ps).map _=_
   rw [kq ⟨O,ro⟩ h3]; exact congrArg some h4
  ·cases h
structure PJE (X:Cx) (es:List Expr) (ps:List FP):Prop where
 go:∀ (pins:List (Addr×Obj)) (s:Shared) (σ:St) (H:Hp) (acc y:Str) (Q:Str→Shared→Prop),Inv X pins σ H s→fY σ ps=some y→acc.length + 2000 * es.length≤sizeLine →
  (∀ s',Inv X pins σ H s'→(acc++y).length≤acc.length + 2000 * es.length→Q (acc++y) s')→Joins (model X.prog X.w) X.A X.xe (evalEach es X.env) acc Q s
section
variable {X:Cx} {es:List Expr} {ps:List FP}
theorem db (a:Str):a++Str.empty=a:=Str.append_empty a
theorem sN:PJE X [] []:=⟨fun pins s σ H acc y Q I e hz k=>by
 cases e
 have:=k s I (by rw [db]; exact Nat.le_add_right _ _)
 rw [db] at this
 exact this⟩
theorem jw {e : Expr} {p : FP} (h : PJE X es ps) (he : ∀ (pins : List (Addr × Obj)) (s : Shared) (σ : St) (H : Hp) (z : Str) (Q : Value → Shared → Prop), Inv X pins σ H s → fY σ (p :: ps) = some z →
      (∀ y z' t s',Inv X pins σ H s'→z=y++z'→fY σ ps=some z'→y.length≤2000→Q (.str y t) s')→wpAny (model X.prog X.w) X.A (eval e X.env) Q X.xe s) :
 PJE X (e :: es) (p :: ps):=by
 refine ⟨fun pins s σ H acc z Q I hc hz k=>?_⟩
 rw [List.length_cons] at hz k
 refine he pins s σ H z _ I hc fun y z' t s' I' e1 e2 hy=>⟨y,t,rfl,?_,?_⟩
 ·rw [strLen_append]; omega
 ·refine h.go pins s' σ H (acc++y) z' Q I' e2 (by rw [strLen_append]; omega) fun s2 I2 ho=>?_
  have e3:acc++y++z'=acc++z:=by rw [e1,Str.append_assoc]
  rw [e3] at ho ⊢
  exact k s2 I2 (by rw [strLen_append acc y] at ho; omega)
theorem sH {x:Str} {k:Nat} {p:Pos} (h:PJE X es ps) (hx:x.length≤2000:=by decide):PJE X (.Constant (.str x) k p :: es) (.lit x :: ps) :=
 jw h fun pins s σ H z Q I hz q=>by
  rw [fY] at hz
  obtain ⟨z',h1,h2⟩:=Option.map_eq_some_iff.mp hz
  exact thn (qM.go pins s σ H (fun v H'=>v = .str x∧H'=H) I ⟨rfl,rfl⟩) fun u s1 ⟨v,H1,I1,r1,e1,e2⟩=>by
   subst e1 e2; obtain ⟨t,rfl⟩:=(show ∃ t,u=Value.str x t from r1); exact q x z' t s1 I1 h2.symm h1 hx
theorem lW (i:Nat) {x:Str} {np p:Pos} (h:PJE X es ps) (hN:X.N[i]? = some x:=by rfl) (hv:Vis X.env.scope x:=by first | exact Or.inl rfl | exact Or.inr (Or.inl rfl) | exact Or.inr (Or.inr rfl)) (hd:(x == ("__debug__":Str))=false:=by decide)
 (hcd:(x == ("__classdict__":Str))=false:=by decide):PJE X (.FormattedValue (.Name x np) (-1) none p :: es) (.var i :: ps) :=
 jw h fun pins s σ H z Q I hz q=>by
  rw [fY] at hz
  split at hz
  ·rename_i v e
   obtain ⟨a,h1,h2⟩:=Option.bind_eq_some_iff.mp hz
   obtain ⟨z',h3,h4⟩:=Option.map_eq_some_iff.mp h2
   refine wpAny_FormattedValue_plain (thn ((dS (X:=X) (i:=i) hN hv hd hcd).go pins s σ H (fun v' H'=>v'=v∧H'=H) I ⟨v,e,rfl,rfl⟩) fun u s1 ⟨v1,H1,I1,r1,e1,e2⟩=>?_)
   subst e1 e2
   cases v1 with
   | int n =>
    obtain ⟨t,rfl⟩:=(show ∃ t,u=Value.int n t from r1)
    have hb:n.natAbs.log2<1920:=by
     by_cases hb:n.natAbs.log2<1920
     ·exact hb
     ·rw [kr,if_neg hb] at h1; cases h1
    rw [kr,if_pos hb] at h1; cases h1
    exact wpAny_formatField_int hb (q _ z' _ _ (I1.tok _) h4.symm h3 (Nat.le_trans (PyProof.Rows.int_text_len_1921 hb) (by decide)))
   | str y =>
    obtain ⟨t,rfl⟩:=(show ∃ t,u=Value.str y t from r1)
    have hb:y.length≤1000:=by
     by_cases hb:y.length≤1000
     ·exact hb
     ·rw [kr,if_neg hb] at h1; cases h1
    rw [kr,if_pos hb] at h1; cases h1
    exact wpAny_formatField_str (q _ z' _ _ I1 h4.symm h3 (Nat.le_trans hb (by decide))) (q _ z' _ _ (I1.tok _) h4.symm h3 (Nat.le_trans hb (by decide))) (by have:=sizeLine_eq; omega)
   | _=>cases h1
  ·cases hz
def tFs (ps:List FP):TE:=fun σ H Q=>∃ y,fY σ ps=some y∧Q (.str y) H
theorem pe_fs {a b:Expr} {p:Pos} (h:PJE X (a :: b :: es) ps) (hz:(a :: b :: es).length≤1000:=by decide):PE X (.JoinedStr (a :: b :: es) p) (tFs ps):=by
 refine ⟨fun pins s σ H Q I ⟨y,hy,hq⟩=>wpAny_JoinedStr (h.go pins s σ H _ y _ I hy ?_ fun s' I' ho=>?_)⟩
 ·have:(Str.empty:Str).length=0:=rfl
  rw [sizeLine_eq]; omega
 ·have e0:(Str.empty:Str).length=0:=rfl
  rw [Str.empty_append] at ho ⊢
  exact ⟨by rw [sizeLine_eq]; omega,.str y,H,I'.tok _,⟨_,rfl⟩,hq⟩
def mFs (ps:List FP):ME:=fun ρ q=>∃ y,fv ρ ps=some y∧q (.str y) ρ
theorem qe_fs {ow:List Bool} {a b:Expr} {p:Pos} (h:PJE X (a :: b :: es) ps) (hz:(a :: b :: es).length≤1000:=by decide):QE X ow (.JoinedStr (a :: b :: es) p) (mFs ps) :=
 ⟨_,pe_fs h hz,fun C G ρ σ H pd q Q r ⟨y,hy,hq⟩ k=>⟨y,kq r hy,k _ ρ _ G H hq (aF.refl _) Kp.refl r (cK _)⟩⟩
end
theorem ke (y a b:Str) (l:List Str):Str.join y (a :: b :: l)=a++y++Str.join y (b :: l):=rfl
theorem ix {a b:Str} (h:a.cps.toList=b.cps.toList):a=b:=Str.ext' (Array.toList_inj.mp h)
theorem bx (a b:Str):(a++b).cps.toList=a.cps.toList++b.cps.toList:=by rw [Str.cps_append,Array.toList_append]
theorem iQ {c:Nat}:∀ {a b r r':List Nat},c ∉ a→c ∉ b→a++c :: r=b++c :: r'→a=b∧r=r'
 | [],[],r,r',_,_,h=>⟨rfl,(List.cons.inj h).2⟩
 | [],y :: b,r,r',_,hb,h=>by cases h; exact absurd (List.mem_cons_self ..) hb
 | x :: a,[],r,r',ha,_,h=>by cases h; exact absurd (List.mem_cons_self ..) ha
 | x :: a,y :: b,r,r',ha,hb,h=>by
  have h':x :: (a++c :: r)=y :: (b++c :: r'):=h
  obtain ⟨e1,e2⟩:=List.cons.inj h'
  obtain ⟨e3,e4⟩:=iQ (fun z=>ha (List.mem_cons_of_mem _ z)) (fun z=>hb (List.mem_cons_of_mem _ z)) e2
  exact ⟨by rw [e1,e3],e4⟩
theorem jr {c:Nat}:∀ {p q:List Str},p≠[]→q≠[]→(∀ x∈p,c ∉ x.cps.toList)→(∀ x∈q,c ∉ x.cps.toList)→Str.join ⟨#[c]⟩ p=Str.join ⟨#[c]⟩ q→p=q
 | [],_,h,_,_,_,_=>absurd rfl h
 | _,[],_,h,_,_,_=>absurd rfl h
 | [a],[b],_,_,_,_,h=>by rw [show a=b from h]
 | [a],b :: b' :: q,_,_,ha,hb,h=>by
  exfalso
  have h:a=b++⟨#[c]⟩++Str.join ⟨#[c]⟩ (b' :: q):=h
  refine ha a (List.mem_cons_self ..) ?_
  rw [h,bx,bx]; simp
 | a :: a' :: p,[b],_,_,ha,hb,h=>by
  exfalso
  have h:a++⟨#[c]⟩++Str.join ⟨#[c]⟩ (a' :: p)=b:=h
  refine hb b (List.mem_cons_self ..) ?_
  rw [← h,bx,bx]; simp
 | a :: a' :: p,b :: b' :: q,_,_,ha,hb,h=>by
  have h:a++⟨#[c]⟩++Str.join ⟨#[c]⟩ (a' :: p)=b++⟨#[c]⟩++Str.join ⟨#[c]⟩ (b' :: q):=h
  have h2:=congrArg (fun z:Str=>z.cps.toList) h
  simp only [bx] at h2
  rw [List.append_assoc,List.append_assoc] at h2
  obtain ⟨e1,e2⟩:=iQ (ha a (List.mem_cons_self ..)) (hb b (List.mem_cons_self ..)) h2
  have e3:=jr (p:=a' :: p) (q:=b' :: q) (by simp) (by simp) (fun x hx=>ha x (List.mem_cons_of_mem _ hx)) (fun x hx=>hb x (List.mem_cons_of_mem _ hx)) (ix e2)
  rw [ix e1,e3]
theorem o3 (x y:Str):Txt.split x y≠[]:=by
 unfold Txt.split
 split
 ·simp
 ·split
  ·simp
  ·rw [StrLaws.partsBetween_eq]
   obtain ⟨p,r,e⟩:=StrLaws.partsFrom_ne x y.length 0 (Builtin.Str.occurrences x y 0 x.length (x.length + 1))
   rw [e]; simp
theorem eV (y:Str) (l:List Str):Txt.join y l=Str.join y l:=StrLaws.glued_eq_join y l
theorem eJ {c:Nat} {p:List Str} (hp:p≠[]) (hc:∀ x∈p,c ∉ x.cps.toList):Txt.split (Txt.join ⟨#[c]⟩ p) ⟨#[c]⟩=p:=by
 rw [eV]
 exact jr (o3 _ _) hp (StrLaws.split_free _ c) hc (StrLaws.join_split _ _)
def fEqT:D→D→(D→Prop)→Prop:=fun a b q=>match a,b with
 | .str x,.str y=>q (.bl (decide (x=y)))
 | _,_=>False
theorem dEqT:DOp rEq fEqT:=fun G H x y dx dy q Q s p1 p2 hf k=>by
 unfold fEqT at hf
 split at hf
 ·rename_i x' y'
  have e1:x = .str x':=by rw [Rep] at p1; exact p1
  have e2:y = .str y':=by rw [Rep] at p2; exact p2
  subst e1; subst e2
  refine ⟨rfl,k _ _ ?_ (ck _)⟩
  have e:decide (V.str x'=V.str y')=decide (x'=y'):=by
   rw [Bool.eq_iff_iff,decide_eq_true_iff,decide_eq_true_iff]; exact ⟨fun h=>by injection h,fun h=>by rw [h]⟩
  rw [e]; exact hf
 ·exact hf.elim
end L2
namespace L2
open PySem PySem.Spec PyProof.Rows PySem.NumText
def j6 (x:Str):Prop:=∀ c∈x.cps.toList,48≤c∧c≤57
instance (x:Str):Decidable (j6 x):=inferInstanceAs (Decidable (∀ c∈x.cps.toList,48≤c∧c≤57))
def gN (m:Int) (x:Str):Prop:=1≤x.length∧(x.length:Int)≤m∧j6 x∧(x = "0" ∨ x.cps.toList.head?≠some 48)
instance (m:Int) (x:Str):Decidable (gN m x):=inferInstanceAs (Decidable (_∧_∧_∧_))
def qT (m:Int) (x:Str):Option Int:=if gN m x then some ((digitsVal x.cps.toList:Nat):Int) else none
def oD:Option Int→D
 | none=>.non
 | some n=>.int n
theorem nv {m:Int} {x:Str} (h:gN m x):x.cps.toList≠[]:=fun z=>by
 have:=h.1
 unfold Str.length at this
 rw [← Array.length_toList,z] at this
 exact absurd this (by decide)
theorem wL {m:Int} {x:Str} (h:gN m x) (hm:m≤600):intText? x=some ((digitsVal x.cps.toList:Nat):Int) :=
 intText_digits h.2.2.1 (nv h) (by have:=h.2.1; omega)
abbrev mL:Str:="0123456789"
theorem mX:mL.cps.toList=[48,49,50,51,52,53,54,55,56,57]:=by decide +kernel
theorem jd (x:Str) (c:Nat):Txt.contains x ⟨#[c]⟩=decide (c∈x.cps.toList):=StrLaws.found_one x c
theorem lK (c:Nat):Txt.contains mL ⟨#[c]⟩=decide (48≤c∧c≤57):=by
 rw [jd,mX]
 refine decide_eq_decide.mpr ⟨fun h=>?_,fun h=>?_⟩
 ·simp at h; omega
 ·simp; omega
def figD:D→D
 | .str y=>.bl (Txt.contains mL y)
 | _=>.non
def figB:D→Bool
 | .str y=>Txt.contains mL y
 | _=>false
theorem qS (x:Str):(sgD x).map figD=((sgD x).map figB).map D.bl:=by
 unfold sgD
 rw [List.map_map,List.map_map,List.map_map]
 exact List.map_congr_left fun c _=>rfl
theorem o9 (x:Str):((sgD x).map figB).all id=decide (j6 x):=by
 unfold sgD
 rw [List.map_map,List.all_map,Bool.eq_iff_iff,List.all_eq_true,decide_eq_true_iff]
 constructor
 ·intro h c hc
  have e:Txt.contains mL ⟨#[c]⟩=true:=h c hc
  rw [lK] at e
  exact of_decide_eq_true e
 ·intro h c hc
  show Txt.contains mL ⟨#[c]⟩=true
  rw [lK]
  exact decide_eq_true (h c hc)
theorem uZ (c d:Nat):(⟨#[c]⟩:Str)=⟨#[d]⟩↔c=d:=by
 constructor
 ·intro h; injection h with h; simpa using h
 ·intro h; rw [h]
abbrev shN (n:Int):Str:=toString n
theorem fg (m:Nat):(shN (m:Int)).cps.toList=(Nat.toDigits 10 m).map Char.toNat:=PySem.W.KIN.signs_num m
theorem cW {n:Int} (h : 0≤n):j6 (shN n):=by
 obtain ⟨m,rfl⟩:=Int.eq_ofNat_of_zero_le h
 intro c hc
 rw [fg] at hc
 obtain ⟨ch,hch,e⟩:=List.mem_map.mp hc
 rw [← e]
 exact digit_range (Nat.isDigit_of_mem_toDigits (by decide) (by decide) hch)
theorem rV {n:Int} (h : 0≤n) : 1≤(shN n).length:=by
 obtain ⟨m,rfl⟩:=Int.eq_ofNat_of_zero_le h
 unfold Str.length
 rw [← Array.length_toList,fg,List.length_map]
 exact toDigits_len_ge 10 m
theorem kx:∀ d:Nat,d<10→(Nat.digitChar d).toNat=48→d=0:=by decide
theorem k_ (m:Nat):((Nat.toDigits 10 m).map Char.toNat).head? = some 48→m=0:=by
 induction m using Nat.strongRecOn with
 | _ m ih =>
  intro h
  by_cases hm:m<10
  ·rw [Nat.toDigits_of_lt_base hm] at h
   exact kx m hm (Option.some.inj h)
  ·have hm10:m % 10<10:=Nat.mod_lt m (by decide)
   have t:Nat.toDigits 10 (m / 10)++Nat.toDigits 10 (m % 10)=Nat.toDigits 10 (10 * (m / 10) + m % 10):=Nat.toDigits_append_toDigits (by decide) (by omega) hm10
   rw [Nat.div_add_mod] at t
   rw [← t,List.map_append] at h
   have hne:(Nat.toDigits 10 (m / 10)).map Char.toNat≠[]:=fun z=>by
    have:=toDigits_len_ge 10 (m / 10)
    rw [List.map_eq_nil_iff.mp z] at this
    exact absurd this (by decide)
   have h2:((Nat.toDigits 10 (m / 10)).map Char.toNat).head? = some 48:=by
    cases hz:(Nat.toDigits 10 (m / 10)).map Char.toNat with
    | nil=>exact absurd hz hne
    | cons y l=>rw [hz] at h; exact h
   have:=ih (m / 10) (by omega) h2
   omega
theorem sr {n m:Int} (h : 0≤n) (hl:((shN n).length:Int)≤m):qT m (shN n)=some n:=by
 obtain ⟨k,rfl⟩:=Int.eq_ofNat_of_zero_le h
 have ok:gN m (shN (k:Int)):=by
  refine ⟨rV h,hl,cW h,?_⟩
  by_cases h0:k=0
  ·subst h0; left; decide +kernel
  ·right
   intro z
   rw [fg] at z
   exact h0 (k_ k z)
 unfold qT
 rw [if_pos ok]
 rw [fg,PySem.W.KIN.val_back]
theorem dt {n:Int} (h : 0≤n) {k:Nat} (hk : 1≤k) (hn:n<10 ^ k):(shN n).length≤k:=toString_length_le h hk hn
theorem d_ {x:Str} (h:j6 x) {c:Nat} (hc:c<48):c ∉ x.cps.toList:=fun z=>by have:=(h c z).1; omega
abbrev sBl:Str:=⟨#[32]⟩
theorem fL {n:Int} (h0 : 0≤n) (h:n<10 ^ 70):n.natAbs.log2<1920:=by
 by_cases hz:n.natAbs=0
 ·rw [hz]; decide
 ·refine (Nat.log2_lt hz).mpr ?_
  have h1:n.natAbs<10 ^ 70:=by
   have e:((n.natAbs:Nat):Int)=n:=Int.natAbs_of_nonneg h0
   have:((n.natAbs:Nat):Int)<((10 ^ 70:Nat):Int):=by rw [e]; exact_mod_cast h
   exact_mod_cast this
  exact Nat.lt_of_lt_of_le h1 (by decide +kernel)
theorem ij {sep:Str} {l:List Str} {B:Nat} (hB:∀ y∈l,y.length≤B) (h:l.length * B + l.length * sep.length≤16777216):JoinOk sep l=true:=by
 unfold JoinOk
 rw [StrLaws.joinFits hB h]; rfl
theorem gC {sep:Str} {B:Nat}:∀ {l:List Str},(∀ y∈l,y.length≤B)→(Txt.join sep l).length≤l.length * (B + sep.length)
 | [],_=>by rw [eV]; show (Str.empty).length≤_; exact Nat.zero_le _
 | [a],h=>by rw [eV]; show a.length≤_; have:=h a (List.mem_cons_self ..); simp; omega
 | a :: b :: l,h=>by
  have ih:=gC (sep:=sep) (l:=b :: l) fun x hx=>h x (List.mem_cons_of_mem _ hx)
  rw [eV] at ih ⊢
  have h1:=h a (List.mem_cons_self ..)
  rw [ke,Str.length_append,Str.length_append,List.length_cons,Nat.succ_mul]
  omega
end L2
namespace L2
open PySem PySem.Spec PyProof.Rows
section
variable {C:Ctx} {ow:List Bool} {G:Hp} {ρ:DSt} {σ:St} {H:Hp} {pd:List (D×V)} {O:Own}
end
section
variable {X:Cx} {ow:List Bool} {a b c e o:Expr} {ma mb:ME} {pos apos:Pos} {Cc:Addr} {f m:Str}
section
variable {k j:Nat} {fa:Addr} {fd:FuncData} {ps:List Str} {mu:List Bool} {sd:SpD} {sx:SpX} {ks:List AK} {es:List Expr} {mr:MA} {ak:AK}
end
section
variable {k j:Nat} {fa:Addr} {fd:FuncData} {ps:List Str} {mu:List Bool} {sd:SpD} {x:Str} {p':Pos} {es:List Expr} {mr:MA}
end
end
section
variable {X:Cx} {ow:List Bool} {a:Expr} {ma:ME} {ta:TE} {pos:Pos}
end
end L2
namespace L2
open PySem PySem.Spec PyProof.Rows PySem.NumText
section
variable {X:Cx} {ow:List Bool} {e a b:Expr} {ma mb:ME}
open PySem.Builtin.Str (occurrences strSub)
def rPart:V→List V→Hp→VK→Prop:=fun x xs H Q=>∃ a b:Str,x = .str a∧xs=[.str b]∧(b.length == 0)=false∧a.length≤100000∧∀ p,H p=none→Q (.ref p) (upd H p (.tup [.str (Txt.partition a b).1,.str (Txt.partition a b).2.1,.str (Txt.partition a b).2.2]))
theorem sT:MtR X "str.partition" rPart:=by
 intro pins s σ H x xs v us Q I rx rv h
 obtain ⟨a,b,rfl,rfl,hb,hl,q⟩:=h
 obtain ⟨t,rfl⟩:=rx
 obtain ⟨u',rfl,u,rfl⟩:=cH rv
 have fr:=q _ (I.hok.fresh (Nat.le_refl _))
 refine call_meets F.slot_str_partition (typeIs_str _ _ _) F.entry_str_partition (F.args_str_partition_2 _ _) (meets_str_partition a b t u hb (cj (by omega))) ?_
 unfold Txt.partition at fr
 revert fr
 cases occurrences a b 0 a.length 1 with
 | nil =>
  intro fr
  refine ⟨.ref s.heap.objs.size,_,I.laid (a:=s.heap.objs.size) (o:=.tup [.str a,.str Str.empty,.str Str.empty]) (fun _ _ e=>Heap.get?_push_of_some _ e) (Nat.le_refl _) ?_,rfl,fr⟩
  exact ⟨cj (by show 3≤_; decide),_,.cons ⟨_,rfl⟩ (.cons ⟨_,rfl⟩ (.cons ⟨_,rfl⟩ .nil)),⟨_,Heap.get?_push_size _ rfl,rfl,_,rfl⟩⟩
 | cons i r =>
  intro fr
  refine ⟨.ref s.heap.objs.size,_,I.laid (a:=s.heap.objs.size) (o:=.tup [.str (strSub a 0 i),.str b,.str (strSub a (i + b.length) a.length)]) (fun _ _ e=>Heap.get?_push_of_some _ e) (Nat.le_refl _) ?_,rfl,fr⟩
  exact ⟨cj (by show 3≤_; decide),_,.cons ⟨_,rfl⟩ (.cons ⟨_,rfl⟩ (.cons ⟨_,rfl⟩ .nil)),⟨_,Heap.get?_push_size _ rfl,rfl,_,rfl⟩⟩
def wH (m m1:ME):ME:=fun ρ q=>m ρ fun d ρ1=>match d with
 | .str x=>m1 ρ1 fun d1 ρ2=>match d1 with
  | .str y=>((y.length == 0)=false∧x.length≤100000)∧q (.tup [.str (Txt.partition x y).1,.str (Txt.partition x y).2.1,.str (Txt.partition x y).2.2]) ρ2
  | _=>False
 | _=>False
theorem sB {apos cpos:Pos} (h:QE X ow e ma) (hb:QE X ow b mb)
 (hbase:attributeBase e "partition" X.env (eval e X.env)=eval e X.env:=by rfl)
 (hfew:((backTo cpos (starEach [b] X.env)).all (fun x=>!x.1)&&(backToKw cpos (keywordEach [] X.env)).all (fun x=>x.1.isSome)
  && decide (([b]:List Expr).length + ([]:List Keyword).length + (if ([]:List Keyword).isEmpty then 0 else 1)<30))=true:=by rfl)
 (hline:(apos.endLine == cpos.line)=true:=by rfl) (hst:starEach [b] X.env=[(false,eval b X.env)]:=by rfl) :
 QE X ow (.Call (.Attribute e "partition" apos) [b] [] cpos) (wH ma mb):=by
 obtain ⟨t,p,s⟩:=h; obtain ⟨t1,p1,s1⟩:=hb
 refine ⟨_,lv PySem.F.plainAttrs_str PySem.F.slot_str_partition PySem.F.type_str_partition sT p (bK p1 dr hst) hbase hfew hline hst (by rfl),fun C G ρ σ H pd q Q r hm k=>s C G ρ σ H pd _ _ r hm fun d ρ' v G' H' hq z kp r' pp=>?_⟩
 cases d with
 | str x =>
  rw [aV pp]
  refine ⟨rfl,s1 C G' ρ' σ H' pd _ _ r' hq fun d2 ρ2 v2 G2 H2 hq2 z2 kp2 r2 p2=>?_⟩
  cases d2 with
  | str y =>
   rw [aV p2]
   refine ⟨x,y,rfl,rfl,hq2.1.1,hq2.1.2,fun l hl=>?_⟩
   obtain ⟨O,r2⟩:=r2
   obtain ⟨r3,s2⟩:=r2.new hl (.tup [.str (Txt.partition x y).1,.str (Txt.partition x y).2.1,.str (Txt.partition x y).2.2])
   exact k _ ρ2 _ _ _ hq2.2 ((z.trans z2).trans s2) (kp.trans kp2) ⟨O,r3⟩ (ga aJ (fS [(Txt.partition x y).1,(Txt.partition x y).2.1,(Txt.partition x y).2.2]))
  | _=>exact hq2.elim
 | _=>exact hq.elim
end
theorem mq {x:Str} {c:Nat} (h:c ∉ x.cps.toList):Txt.partition x ⟨#[c]⟩=(x,Str.empty,Str.empty):=by
 unfold Txt.partition
 rcases StrLaws.occ_head x ⟨#[c]⟩ 1 (Nat.le_refl 1) with ⟨h0,_⟩ | ⟨i,r,h0,hi,_⟩
 ·rw [h0]
 ·exact absurd (List.mem_of_getElem? ((StrLaws.subAt_one x c i).mp hi)) h
theorem mm {a b:Str} {c:Nat} (h:c ∉ a.cps.toList):Txt.partition (a++⟨#[c]⟩++b) ⟨#[c]⟩=(a,⟨#[c]⟩,b):=by
 have hx:(a++⟨#[c]⟩++b).cps.toList=a.cps.toList++c :: b.cps.toList:=by rw [bx,bx]; simp
 have hs:=StrLaws.partition_sum (a++⟨#[c]⟩++b) ⟨#[c]⟩
 revert hs
 unfold Txt.partition
 rcases StrLaws.occ_head (a++⟨#[c]⟩++b) ⟨#[c]⟩ 1 (Nat.le_refl 1) with ⟨h0,hn⟩ | ⟨i,r,h0,hi,hn⟩
 ·exfalso
  refine hn a.cps.toList.length ((StrLaws.subAt_one _ c _).mpr ?_)
  rw [hx,List.getElem?_append_right (Nat.le_refl _)]; simp
 ·rw [h0]
  intro hs
  have hs:PySem.Builtin.Str.strSub (a++⟨#[c]⟩++b) 0 i++⟨#[c]⟩++PySem.Builtin.Str.strSub (a++⟨#[c]⟩++b) (i + 1) (a++⟨#[c]⟩++b).length=a++⟨#[c]⟩++b:=hs
  have hl:=congrArg (fun z:Str=>z.cps.toList) hs
  have hl:(PySem.Builtin.Str.strSub (a++⟨#[c]⟩++b) 0 i).cps.toList++c :: (PySem.Builtin.Str.strSub (a++⟨#[c]⟩++b) (i + 1) (a++⟨#[c]⟩++b).length).cps.toList=a.cps.toList++c :: b.cps.toList:=by
   rw [← hx,← hl]; rw [bx,bx]; simp
  have free:c ∉ (PySem.Builtin.Str.strSub (a++⟨#[c]⟩++b) 0 i).cps.toList:=fun hm=>by
   rw [StrLaws.strSub_toList] at hm
   obtain ⟨k,hk⟩:=List.getElem?_of_mem hm
   rw [List.getElem?_take] at hk
   split at hk
   ·rename_i hki
    refine hn k (by omega) ((StrLaws.subAt_one _ c _).mpr ?_)
    simpa using hk
   ·cases hk
  obtain ⟨e1,e2⟩:=iQ free h hl
  have e1:=ix e1
  have e2:=ix e2
  show (PySem.Builtin.Str.strSub (a++⟨#[c]⟩++b) 0 i,(⟨#[c]⟩:Str),PySem.Builtin.Str.strSub (a++⟨#[c]⟩++b) (i + 1) (a++⟨#[c]⟩++b).length)=_
  rw [e1,e2]
abbrev sSl:Str:=⟨#[47]⟩
def prW (r:Rat):Str:=if r.den=1 then shN r.num else shN r.num++sSl++shN (r.den:Int)
structure PrT (r:Rat):Prop where
 pos : 0≤r
 num:r.num<10 ^ 70
 den:(r.den:Int)<10 ^ 70
theorem PrT.n0 {r:Rat} (h:PrT r) : 0≤r.num:=Rat.num_nonneg.mpr h.pos
theorem ql {r:Rat} (h:PrT r) : 32 ∉ (prW r).cps.toList:=by
 have h1:=d_ (cW h.n0) (c:=32) (by decide)
 unfold prW
 split
 ·exact h1
 ·have h2:=d_ (cW (n:=(r.den:Int)) (by omega)) (c:=32) (by decide)
  rw [bx,bx]
  intro z
  rcases List.mem_append.mp z with z | z
  ·rcases List.mem_append.mp z with z | z
   ·exact h1 z
   ·simp at z
  ·exact h2 z
theorem d3 (a b:Str):(a++b).length=a.length + b.length:=by
 unfold Str.length; rw [← Array.length_toList,bx,List.length_append]; simp
theorem iw {r:Rat} (h:PrT r):(prW r).length≤141:=by
 have h1:=dt h.n0 (k:=70) (by decide) h.num
 unfold prW
 split
 ·omega
 ·have h2:=dt (n:=(r.den:Int)) (by omega) (k:=70) (by decide) h.den
  rw [d3,d3]
  have:sSl.length=1:=rfl
  omega
theorem rN {r:Rat} (h:PrT r):Txt.partition (prW r) sSl=if r.den=1 then (shN r.num,Str.empty,Str.empty) else (shN r.num,sSl,shN (r.den:Int)):=by
 have h1:=d_ (cW h.n0) (c:=47) (by decide)
 unfold prW
 by_cases c:r.den=1
 ·rw [if_pos c,if_pos c]; exact mq h1
 ·rw [if_neg c,if_neg c]; exact mm h1
theorem ng {l:List Rat} (hl:l≠[]) (h:∀ r∈l,PrT r):Txt.split (Txt.join sBl (l.map prW)) sBl=l.map prW :=
 eJ (by cases l with | nil=>exact absurd rfl hl | cons x l=>exact List.cons_ne_nil _ _) fun x hx=>by
  obtain ⟨r,hr,rfl⟩:=List.mem_map.mp hx; exact ql (h r hr)
theorem tz {l:List Rat} (hl:l.length≤60) (h:∀ r∈l,PrT r):(Txt.join sBl (l.map prW)).length≤90000:=by
 have:=gC (sep:=sBl) (B:=141) (l:=l.map prW) fun y hy=>by
  obtain ⟨r,hr,rfl⟩:=List.mem_map.mp hy; exact iw (h r hr)
 rw [List.length_map] at this
 have e:sBl.length=1:=rfl
 rw [e] at this
 exact Nat.le_trans this (Nat.le_trans (Nat.mul_le_mul_right _ hl) (by decide))
theorem kS {l:List Rat} (hl:l.length≤60) (h:∀ r∈l,PrT r):JoinOk sBl (l.map prW)=true :=
 ij (B:=141) (fun y hy=>by obtain ⟨r,hr,rfl⟩:=List.mem_map.mp hy; exact iw (h r hr)) (by
  rw [List.length_map]
  have e:sBl.length=1:=rfl
  rw [e]; omega)
theorem pM {l:List Int} (h:∀ n∈l,0≤n):∀ x∈l.map shN,32 ∉ x.cps.toList:=fun x hx=>by
 obtain ⟨n,hn,rfl⟩:=List.mem_map.mp hx
 exact d_ (cW (h n hn)) (by decide)
theorem nq {l:List Int} (hl:l≠[]) (h:∀ n∈l,0≤n):Txt.split (Txt.join sBl (l.map shN)) sBl=l.map shN :=
 eJ (by cases l with | nil=>exact absurd rfl hl | cons x l=>exact List.cons_ne_nil _ _) (pM h)
theorem tu {l:List Int} (hl:l.length≤60) (h:∀ n∈l,0≤n∧n<10 ^ 70):(Txt.join sBl (l.map shN)).length≤90000:=by
 have:=gC (sep:=sBl) (B:=70) (l:=l.map shN) fun y hy=>by
  obtain ⟨r,hr,rfl⟩:=List.mem_map.mp hy; exact dt (h r hr).1 (by decide) (h r hr).2
 rw [List.length_map] at this
 have e:sBl.length=1:=rfl
 rw [e] at this
 exact Nat.le_trans this (Nat.le_trans (Nat.mul_le_mul_right _ hl) (by decide))
theorem rA {l:List Int} (hl:l.length≤60) (h:∀ n∈l,0≤n∧n<10 ^ 70):JoinOk sBl (l.map shN)=true :=
 ij (B:=70) (fun y hy=>by obtain ⟨r,hr,rfl⟩:=List.mem_map.mp hy; exact dt (h r hr).1 (by decide) (h r hr).2) (by
  rw [List.length_map]
  have e:sBl.length=1:=rfl
  rw [e]; omega)
theorem kb:∀ (l m:List Str),PyData.eqvAll (toPs (l.map D.str)) (toPs (m.map D.str))=decide (l=m)
 | [],[]=>by simp [toPs,PyData.eqvAll]
 | [],_ :: _=>by simp [toPs,PyData.eqvAll]
 | _ :: _,[]=>by simp [toPs,PyData.eqvAll]
 | x :: l,y :: m=>by
  have ih:=kb l m
  rw [List.map_cons,List.map_cons,toPs,toPs,PyData.eqvAll,ih,toP,toP,PyData.eqv]
  by_cases h:x=y
  ·subst h; simp
  ·rw [show (x == y)=false by simpa using h]; simp [h]
theorem ra (l m:List Str):eqD (.lst (l.map D.str)) (.lst (m.map D.str))=decide (l=m):=by
 unfold eqD; rw [toP,toP,PyData.eqv]; exact kb l m
def lT (x:Str):Prop:=∀ c∈x.cps.toList,c<1114112
theorem qB {x:Str} (h:lT x):(PyData.str x).canLay0=true:=by
 show x.cps.all _=true
 rw [← Array.all_toList,List.all_eq_true]
 exact fun c hc=>decide_eq_true (h c hc)
theorem jM {l:List Str} (h:∀ x∈l,lT x):okD (.lst (l.map D.str))=true:=nY (n:=1) (by
 show (l.map D.str).all (eF 0)=true
 rw [List.all_eq_true]
 intro d hd
 obtain ⟨x,hx,rfl⟩:=List.mem_map.mp hd
 exact qB (h x hx)) (by decide)
theorem tN {x:Str} (h:j6 x):lT x:=fun c hc=>by have:=(h c hc).2; omega
theorem cR {α:Type} {g:MG} {me:ME} {ρ0:DSt} {l:List α} {K:List D→Prop} (f h : α→D)
 (step:∀ a,a∈l→∀ k:D→Prop,k (h a)→g (f a) ρ0 fun ρ2=>me ρ2 fun x _=>k x) (hK:K (l.map h)):hX g (oo true) me ρ0 (l.map f) K:=by
 refine ⟨fun i es=>es=(l.take i).map h,rfl,?_,fun es e=>by rw [e,List.length_map,List.take_length]; exact hK⟩
 rintro i d es hd rfl
 rw [List.getElem?_map,Option.map_eq_some_iff] at hd
 obtain ⟨a,ha,rfl⟩:=hd
 have:=step a (List.mem_of_getElem? ha) (fun x=>(l.take i).map h++[x]=(l.take (i + 1)).map h) (by
  rw [List.take_add_one,ha]; simp)
 exact this
end L2
namespace L2
open PySem PySem.Spec PyProof.Rows
def fR:List Bool→St→List (Option V)
 | b :: bs,v :: vs=>(if b=true then v else none) :: fR bs vs
 | _,_=>[]
theorem i4:∀ {mu:List Bool} {σ:St} {k:Nat} {v:V},(fR mu σ)[k]? = some (some v)→mu[k]? = some true∧σ[k]? = some (some v)
 | [],σ,k,v,h=>by simp [fR] at h
 | b :: bs,[],k,v,h=>by simp [fR] at h
 | b :: bs,x :: xs,0,v,h=>by
  cases b with
  | true=>simpa [fR] using h
  | false=>simp [fR] at h
 | b :: bs,x :: xs,k + 1,v,h=>by
  have:=i4 (mu:=bs) (σ:=xs) (k:=k) (v:=v) (by simpa [fR] using h)
  simpa using this
theorem iG:∀ {mu:List Bool} {σ:St} {k:Nat} {v:V},mu[k]? = some true→σ[k]? = some (some v)→(fR mu σ)[k]? = some (some v)
 | [],σ,k,v,h,_=>by simp at h
 | b :: bs,[],k,v,_,h=>by simp at h
 | b :: bs,x :: xs,0,v,h1,h2=>by
  simp at h1 h2; subst h1; subst h2; simp [fR]
 | b :: bs,x :: xs,k + 1,v,h1,h2=>by
  have:=iG (mu:=bs) (σ:=xs) (k:=k) (v:=v) (by simpa using h1) (by simpa using h2)
  simpa [fR] using this
def nz:List Bool→DSt→Prop
 | _ :: ms,none :: r=>nz ms r
 | true :: ms,some _ :: r=>nz ms r
 | [],[]=>True
 | _,_=>False
theorem iU:∀ {mu:List Bool} {ρ:DSt},nz mu ρ→∀ (k:Nat) d,ρ[k]? = some (some d)→mu[k]? = some true
 | [],[],_,k,d,h=>by simp at h
 | _ :: ms,none :: r,h,0,d,e=>by simp at e
 | _ :: ms,none :: r,h,k + 1,d,e=>by simpa using iU (mu:=ms) (ρ:=r) h k d (by simpa using e)
 | true :: ms,some _ :: r,h,0,d,e=>rfl
 | true :: ms,some _ :: r,h,k + 1,d,e=>by simpa using iU (mu:=ms) (ρ:=r) h k d (by simpa using e)
 | false :: ms,some _ :: r,h,_,_,_=>h.elim
 | [],_ :: _,h,_,_,_=>h.elim
 | _ :: _,[],h,_,_,_=>h.elim
def okS:List Bool→DSt→DSt→Prop
 | true :: ms,x :: r,y :: s=>y=x∧okS ms r s
 | false :: ms,_ :: r,y :: s=>(∀ d,y=some d→imm d=true)∧okS ms r s
 | [],[],[]=>True
 | _,_,_=>False
theorem je:∀ {mu:List Bool} {ρ ρ2:DSt},okS mu ρ ρ2→∀ (k:Nat),(mu[k]? = some true→ρ2[k]? = ρ[k]?)∧(mu[k]?≠some true→∀ d,ρ2[k]? = some (some d)→imm d=true)
 | [],[],[],_,k=>⟨fun h=>by simp at h,fun _ d h=>by simp at h⟩
 | true :: ms,x :: r,y :: s,h,0=>⟨fun _=>by simp [h.1],fun z=>absurd rfl z⟩
 | false :: ms,x :: r,y :: s,h,0=>⟨fun z=>by simp at z,fun _ d e=>h.1 d (by simpa using e)⟩
 | true :: ms,x :: r,y :: s,h,k + 1=>by simpa using je (mu:=ms) (ρ:=r) (ρ2:=s) h.2 k
 | false :: ms,x :: r,y :: s,h,k + 1=>by simpa using je (mu:=ms) (ρ:=r) (ρ2:=s) h.2 k
 | [],_ :: _,_,h,_=>by cases h
 | [],[],_ :: _,h,_=>h.elim
 | true :: _,[],_,h,_=>by cases h
 | false :: _,[],_,h,_=>by cases h
 | true :: _,_ :: _,[],h,_=>h.elim
 | false :: _,_ :: _,[],h,_=>h.elim
section
variable {C:Ctx} {ow:List Bool} {G:Hp} {ρ:DSt} {σ:St} {H:Hp} {O:Own}
theorem RO.enterS (h:RO C ow G ρ σ H [] O) (js:List Nat) {mu:List Bool} (hf:nz mu ρ) :
 RO ⟨ki js G H O,H,bv (fw ρ js 0) O,fR mu σ,0⟩ (bor js ow) (ki js G H O) ρ σ H [] (bv (fw ρ js 0) O):=by
 have e:=h.enter js
 refine ⟨e.len,e.gh,e.g0,e.gn,e.og,fun a l π q=>?_,e.fr,e.ft,e.al,fun i v q=>(i4 q).2,e.sl,e.pn,Nat.le_refl _⟩
 obtain ⟨e1,e2⟩:=bH q
 unfold fw at e2
 split at e2
 ·split at e2
  ·rename_i d hd
   obtain ⟨v,hv,_⟩:=h.sl _ _ hd
   exact .inl ⟨l / 2,v,by omega,iG (iU hf _ _ hd) hv⟩
  ·cases e2
 ·have:=of_decide_eq_true e2; omega
theorem RO.leaveS (h:RO C ow G ρ σ H [] O) {js:List Nat} {mu:List Bool} {G2:Hp} {ρ2:DSt} {σ2:St} {H2:Hp} {O2:Own}
 (h2:RO ⟨ki js G H O,H,bv (fw ρ js 0) O,fR mu σ,0⟩ (bor js ow) G2 ρ2 σ2 H2 [] O2) (hf:nz mu ρ) (ok:okS mu ρ ρ2) (hw:∀ j:Nat,ow[j]? = some true→mu[j]? = some true) (hC:∀ (i:Nat) v,C.mu[i]? = some (some v)→mu[i]? = some true) :
 RO C ow (fu js O G2) ρ2 σ2 H2 [] (lV js O O2)∧aF G (fu js O G2):=by
 have sG:=fH h js
 have dm:∀ a m,bv (eL js) O a=some m→O a=some m∧G a=none∧∃ xs:WrO,H a=some xs.ho∧G2 a=some xs.ho:=fun a m e=>by
  obtain ⟨e1,e2⟩:=bH e
  obtain ⟨q1,⟨xs,q2⟩,q3⟩:=h.og a m e1
  refine ⟨e1,q1,xs,q2,h2.g0 a _ ?_⟩
  show (if _ then _ else _)=_
  rw [if_pos (by rw [e]; rfl)]; exact q2
 have nd:∀ a,G a≠none→¬ oP (bv (eL js) O a)=true:=fun a g z=>by
  obtain ⟨m,z⟩:=eB z
  exact g (dm a m z).2.1
 have sG3:aF G (fu js O G2):=fun a o e=>by
  show (if _ then _ else _)=_
  rw [if_neg (nd a (by rw [e]; simp))]
  exact h2.g0 a o (sG a o e)
 have ts:cb G2 (fu js O G2):=fun a xs e=>by
  show (if _ then _ else _)=_
  rw [if_neg]; exact e
  intro z
  obtain ⟨m,z⟩:=eB z
  obtain ⟨_,_,ys,_,q⟩:=dm a m z
  rw [e] at q; exact (WrO.ne (Option.some.inj q).symm).elim
 have o2:∀ a l,O2 a=some l→lV js O O2 a=some l:=fun a l e=>by show (match O2 a with | some l=>some l | none=>_)=_; rw [e]
 have fx:∀ (j:Nat) v,mu[j]? = some true→σ[j]? = some (some v)→σ2[j]? = some (some v):=fun j v q1 q2=>h2.mp j v (iG q1 q2)
 refine ⟨⟨h2.len,?_,fun a o e=>sG3 _ _ (h.g0 _ _ e),?_,?_,h.cok,?_,(fun a ps q e=>by show (if _ then _ else _)=_; split <;> first | rfl | exact h2.ft a ps q e),fun a e=>h.al a (h2.al a e),fun i v e=>fx i v (hC i v e) (h.mp i v e),?_,trivial,h.np⟩,sG3⟩
 ·intro a o e
  change (if _ then _ else _)=_ at e
  split at e
  ·cases e
  ·exact h2.gh _ _ e
 ·intro a o e
  change (if _ then _ else _)=_ at e
  split at e
  ·cases e
  ·rename_i c
   rcases h2.gn a o e with q | q
   ·change (if _ then _ else _)=_ at q
    rw [if_neg c] at q
    exact h.gn a o q
   ·exact .inr (h.al a q)
 ·intro a l e
  change (match O2 a with | some l=>some l | none=>_)=_ at e
  cases q:O2 a with
  | some l' =>
   rw [q] at e; cases e
   obtain ⟨q1,q2,q3⟩:=h2.og a l q
   refine ⟨by show (if _ then _ else _)=_; split <;> first | rfl | exact q1,q2,?_⟩
   rcases q3 with q3 | ⟨q3,q4⟩
   ·exact .inl (h.al a q3)
   ·exact (h.og a _ (bH q4).1).2.2
  | none =>
   rw [q] at e
   change bv (eL js) O a=some l at e
   obtain ⟨e1,q1,xs,q2,q3⟩:=dm a l e
   refine ⟨by show (if _ then _ else _)=_; rw [if_pos (by rw [e]; rfl)],⟨xs,h2.gh _ _ q3⟩,(h.og a l e1).2.2⟩
 ·intro a o e n t
  have q:=h.fr a o e n t
  refine h2.fr a o q ?_ t
  show bv _ O a=none
  cases z:bv (fw ρ js 0) O a with
  | none=>rfl
  | some m =>
   obtain ⟨z1,_⟩:=bH z
   obtain ⟨_,_,z3⟩:=h.og a m z1
   rcases z3 with z3 | ⟨_,z3⟩
   ·rw [z3] at e; cases e
   ·rw [z3] at n; cases n
 ·intro j d e
  by_cases c:(bor js ow)[j]? = some true
  ·obtain ⟨v,q1,q2⟩:=h2.sl j d e
   rw [if_pos c] at q2
   refine ⟨v,q1,?_⟩
   rw [if_pos (c8.mp c).1]
   exact q2.keep ts fun a τ q=>⟨o2 _ _ q,rfl⟩
  ·by_cases hm:mu[j]? = some true
   ·rw [(je ok j).1 hm] at e
    obtain ⟨v,q1,q2⟩:=h.sl j d e
    refine ⟨v,fx j v hm q1,?_⟩
    by_cases c2:ow[j]? = some true
    ·rw [if_pos c2] at q2 ⊢
     have hj:js.contains j=true:=by
      cases z:js.contains j with
      | true=>rfl
      | false=>exact absurd (c8.mpr ⟨c2,z⟩) c
     refine q2.keep sG3.ts fun a τ q=>?_
     have dd:bv (eL js) O a=some (2 * j,τ++[]):=dX q (by
      unfold eL
      simp only [Bool.and_eq_true,decide_eq_true_eq]
      exact ⟨by omega,by rw [show 2 * j / 2=j by omega]; exact hj⟩)
     obtain ⟨_,_,xs,q4,q5⟩:=dm a _ dd
     refine ⟨?_,by rw [q4]; exact h2.gh _ _ q5⟩
     show (match O2 a with | some l=>some l | none=>_)=_
     cases z:O2 a with
     | some l=>have:=(h2.og a l z).1; rw [q5] at this; cases this
     | none=>exact dd
    ·rw [if_neg c2] at q2 ⊢
     exact q2.mono sG3
   ·obtain ⟨v,q1,q2⟩:=h2.sl j d e
    rw [if_neg c] at q2
    refine ⟨v,q1,?_⟩
    rw [if_neg (fun z=>hm (hw j z))]
    exact q2.imms ts d v ((je ok j).2 hm d e)
end
section
variable {X:Cx} {M:Md} {st:Stmt} {m:MS}
def mBorS (mu:List Bool) (m:MS):MS:=fun n ρ=>nz mu ρ∧m { nx:=fun ρ'=>okS mu ρ ρ'∧n.nx ρ',rt:=fun _ _=>False } ρ
def ni:List Bool→List Bool→Bool
 | a :: as,b :: bs=>(!a||b)&&ni as bs
 | [],_=>true
 | _ :: _,[]=>false
theorem i5:∀ {a b:List Bool},ni a b=true→∀ j:Nat,a[j]? = some true→b[j]? = some true
 | [],_,_,j,h=>by simp at h
 | _ :: _,[],h,_,_=>by cases h
 | x :: as,y :: bs,h,0,e=>by
  rw [ni,Bool.and_eq_true] at h
  simp at e; subst e
  simpa using h.1
 | x :: as,y :: bs,h,j + 1,e=>by
  rw [ni,Bool.and_eq_true] at h
  simpa using i5 h.2 j (by simpa using e)
theorem ur (js:List Nat) (mu:List Bool) (h:QS X ⟨mu,bor js M.ow,M.fr⟩ st m) (hw:ni M.ow mu=true:=by decide) (hu:ni M.mu mu=true:=by decide):QS X M st (mBorS mu m):=by
 obtain ⟨t,p,s⟩:=h
 refine ⟨_,p,fun C G ρ σ H n D hm hn r hq k=>?_⟩
 obtain ⟨O,r⟩:=r
 obtain ⟨hf,hq⟩:=hq
 have re:=r.enterS js hf
 refine s ⟨ki js G H O,H,bv (fw ρ js 0) O,fR mu σ,0⟩ _ ρ σ H _ D (fun i v e=>(i4 e).1) rfl ⟨_,re⟩ hq ⟨fun ρ2 σ2 G2 H2 hnx z r2=>?_,fun _ _ _ _ h=>h.elim,fun _ _ _ _ h=>h.elim,fun _ _ _ _ _ _ h=>h.elim⟩
 obtain ⟨O2,r2⟩:=r2
 obtain ⟨r3,s3⟩:=r.leaveS r2 hf hnx.1 (i5 hw) (fun i v e=>i5 hu i (hm i v e))
 exact k.nx ρ2 σ2 _ H2 hnx.2 s3 ⟨_,r3⟩
end
theorem RO.pickT {C:Ctx} {ow:List Bool} {G:Hp} {ρ:DSt} {σ:St} {H:Hp} {pd:List (D×V)} {O:Own} {ds:List D} {v0:V} {k:Nat} {d:D} (h:RO C ow G ρ σ H ((.tup ds,v0) :: pd) O) (e:ds[k]? = some d) (hn:C.np≤pd.length) :
 ∃ p xs v,v0 = .ref p∧H p=some (.tup xs)∧xs.length=ds.length∧xs[k]? = some v∧RO C ow G ρ σ H ((d,v) :: pd) (jA (2 * pd.length + 1) k O):=by
 obtain ⟨s0,pn⟩:=h.pn
 rw [Sep] at s0
 obtain ⟨p,xs,rfl,h3,h4⟩:=s0
 obtain ⟨v,e1,e2⟩:=lX h4 e
 rw [Nat.zero_add] at e2
 have keep:∀ a l π,l≠2 * pd.length + 1→O a=some (l,π)→jA (2 * pd.length + 1) k O a=some (l,π):=fun a l π hl q=>by
  unfold jA; rw [q]; dsimp only; rw [if_neg hl]
 refine ⟨p,xs,v,rfl,h.gh _ _ h3,h4.length,e1,h.len,h.gh,h.g0,h.gn,fun a m q=>?_,h.cok,h.fr,h.ft,h.al,h.mp,fun i d' q=>?_,⟨?_,?_⟩,Nat.le_succ_of_le hn⟩
 ·unfold jA at q
  split at q
  ·rename_i l π qo
   obtain ⟨q1,q2,q3⟩:=h.og a _ qo
   split at q
   ·rename_i hl
    split at q
    ·cases q
     refine ⟨q1,q2,?_⟩
     subst hl
     rcases q3 with q3 | ⟨π',q3⟩
     ·exact .inl q3
     ·exact .inr ⟨π',q3⟩
    ·cases q
   ·cases q; exact ⟨q1,q2,q3⟩
  ·cases q
 ·obtain ⟨u,h5,h6⟩:=h.sl i d' q
  refine ⟨u,h5,?_⟩
  split at h6
  ·rename_i c; rw [if_pos c]; exact h6.keep (fun _ _ z=>z) fun a τ q=>⟨keep a _ _ (by omega) q,rfl⟩
  ·rename_i c; rw [if_neg c]; exact h6
 ·refine Sep.move (fun _ _ z=>z) d [k] [] v (fun a τ q=>⟨?_,rfl⟩) e2
  unfold jA; rw [q]; dsimp only; rw [if_pos rfl,if_pos (by simp),List.dropLast_concat,List.append_nil]
 ·exact bV.keep (fun _ _ z=>z) (fun a j π hj q=>⟨keep a _ _ (by omega) q,rfl⟩) pn
section
variable {X:Cx} {ow:List Bool} {a b:Expr} {ma mb:ME} {pos:Pos}
def wv (ma mb:ME):ME:=fun ρ q=>ma ρ fun d ρ1=>match d with
 | .tup ds=>mb ρ1 fun k ρ2=>match k with
  | .int j=>∃ n:Nat,j=n∧∃ d',ds[n]? = some d'∧q d' ρ2
  | _=>False
 | _=>False
theorem nL (ha:QF X ow a ma) (hb:QE X ow b mb) (hs:iA b):QF X ow (.Subscript a b pos) (wv ma mb):=by
 obtain ⟨ta,pa,sa⟩:=ha; obtain ⟨tb,pb,sb⟩:=hb
 refine ⟨_,tS oK pa pb hs,fun C G ρ σ H pd q Q r h k=>sa C G ρ σ H pd _ _ r h fun d ρ1 v G1 H1 h1 z1 kp1 r1=>?_⟩
 cases d with
 | tup ds =>
  refine sb C G1 ρ1 σ H1 _ _ _ r1 h1 fun dk ρ2 jv G2 H2 h2 z2 kp2 r2 pj=>?_
  cases dk with
  | int j =>
   obtain ⟨n,rfl,d',hd,hq⟩:=h2
   obtain ⟨O,ro⟩:=r2
   obtain ⟨p,xs,u,rfl,g1,g2,g3,r3⟩:=ro.pickT hd r.np
   exact ⟨p,xs,n,u,rfl,aw pj,SqT.of g1,d4 g3,k d' ρ2 u G2 H2 hq (z1.trans z2) (kp1.trans kp2) ⟨_,r3⟩⟩
  | _=>exact h2.elim
 | _=>exact h1.elim
end
end L2
namespace K80
open PySem L2
def top (i:Nat):Stmt:=PySem.Challenge.pw_treeasks_k80_papers_written.main.body.getD i (.Pass ⟨0,0,0,0⟩)
abbrev qv:Stmt:=top 11
abbrev pz:Stmt:=top 12
abbrev s_q0:Stmt:=top 13
abbrev pf:Stmt:=top 14
abbrev p8:Stmt:=top 15
abbrev p7:Stmt:=top 17
abbrev qp:Stmt:=top 18
abbrev qd:Stmt:=top 19
abbrev qP:Stmt:=top 20
abbrev pX:Stmt:=top 21
abbrev pT:Stmt:=top 22
abbrev qU:Stmt:=top 23
abbrev qw:Stmt:=top 24
abbrev s_q5:Stmt:=top 28
abbrev s_q9:Stmt:=top 29
abbrev ot:Stmt:=top 30
abbrev qQ:Stmt:=top 31
abbrev qV:Stmt:=top 32
abbrev oN:Stmt:=top 37
abbrev s_q6:Stmt:=top 38
abbrev rp:Stmt:=top 40
abbrev qC:Stmt:=top 41
abbrev nG:Stmt:=top 42
abbrev qL:Stmt:=top 43
abbrev o7:Stmt:=top 44
abbrev qY:Stmt:=top 45
abbrev qK:Stmt:=top 46
abbrev s_q7:Stmt:=top 48
abbrev pw:Stmt:=top 49
abbrev pQ:Stmt:=top 50
abbrev nH:Stmt:=top 51
abbrev qb:Stmt:=top 52
abbrev qh:Stmt:=top 53
abbrev pN:Stmt:=top 55
abbrev rD:Stmt:=top 56
abbrev qq:Stmt:=top 57
abbrev oS:Stmt:=top 58
abbrev qz:Stmt:=top 60
abbrev p9:Stmt:=top 63
abbrev s_q8:Stmt:=top 64
abbrev s_q4:Stmt:=top 65
abbrev pk:Stmt:=top 66
abbrev qZ:Stmt:=top 67
abbrev s_q2:Stmt:=top 68
abbrev qF:Stmt:=top 70
abbrev rg:Stmt:=top 72
abbrev pH:Stmt:=top 73
abbrev rP:Stmt:=top 74
abbrev qO:Stmt:=top 75
abbrev nC:Stmt:=top 76
abbrev oB:Stmt:=top 77
abbrev rQ:Stmt:=top 78
abbrev oT:Stmt:=top 79
abbrev s_q3:Stmt:=top 80
abbrev s_q1:Stmt:=top 81
abbrev q8:Stmt:=top 82
set_option genInjectivity false in
structure Adr where
 f_q35:Addr
 d_q35:FuncData
 f_q19:Addr
 d_q19:FuncData
 f_q0:Addr
 d_q0:FuncData
 f_q14:Addr
 d_q14:FuncData
 f_q37:Addr
 d_q37:FuncData
 f_q24:Addr
 d_q24:FuncData
 f_q17:Addr
 d_q17:FuncData
 f_q11:Addr
 d_q11:FuncData
 f_q38:Addr
 d_q38:FuncData
 f_q15:Addr
 d_q15:FuncData
 f_q23:Addr
 d_q23:FuncData
 f_q16:Addr
 d_q16:FuncData
 f_q10:Addr
 d_q10:FuncData
 f_q5:Addr
 d_q5:FuncData
 f_q9:Addr
 d_q9:FuncData
 f_q47:Addr
 d_q47:FuncData
 f_q34:Addr
 d_q34:FuncData
 f_q32:Addr
 d_q32:FuncData
 f_q48:Addr
 d_q48:FuncData
 f_q6:Addr
 d_q6:FuncData
 f_q33:Addr
 d_q33:FuncData
 f_q61:Addr
 d_q61:FuncData
 f_q58:Addr
 d_q58:FuncData
 f_q59:Addr
 d_q59:FuncData
 f_q53:Addr
 d_q53:FuncData
 f_q54:Addr
 d_q54:FuncData
 f_q60:Addr
 d_q60:FuncData
 f_q7:Addr
 d_q7:FuncData
 f_q56:Addr
 d_q56:FuncData
 f_q18:Addr
 d_q18:FuncData
 f_q55:Addr
 d_q55:FuncData
 f_q21:Addr
 d_q21:FuncData
 f_q12:Addr
 d_q12:FuncData
 f_q52:Addr
 d_q52:FuncData
 f_q28:Addr
 d_q28:FuncData
 f_q42:Addr
 d_q42:FuncData
 f_q29:Addr
 d_q29:FuncData
 f_q36:Addr
 d_q36:FuncData
 f_q13:Addr
 d_q13:FuncData
 f_q8:Addr
 d_q8:FuncData
 f_q4:Addr
 d_q4:FuncData
 f_q22:Addr
 d_q22:FuncData
 f_q43:Addr
 d_q43:FuncData
 f_q2:Addr
 d_q2:FuncData
 f_q20:Addr
 d_q20:FuncData
 f_q25:Addr
 d_q25:FuncData
 f_q49:Addr
 d_q49:FuncData
 f_q50:Addr
 d_q50:FuncData
 f_q26:Addr
 d_q26:FuncData
 f_q57:Addr
 d_q57:FuncData
 f_q41:Addr
 d_q41:FuncData
 f_q27:Addr
 d_q27:FuncData
 f_q51:Addr
 d_q51:FuncData
 f_q3:Addr
 d_q3:FuncData
 f_q1:Addr
 d_q1:FuncData
 f_law:Addr
 d_law:FuncData
 tc:Addr
 tP:Addr
abbrev tqS:Str:=("deepest_first" ++ ".<locals>.") ++ "<lambda>"
set_option genInjectivity false in
structure Txt (K:PySem.W.Frag) (mg:Str→Option Value) (A:Adr):Prop where
 t_q35:FT K mg "is_whole" qv ["thing"] A.f_q35 A.d_q35
 t_q19:FT K mg "is_between" pz ["thing","least","most"] A.f_q19 A.d_q19
 t_q0:FT K mg "greatest_common" s_q0 ["number","bottom"] A.f_q0 A.d_q0
 t_q14:FT K mg "is_fraction" pf ["thing"] A.f_q14 A.d_q14
 t_q37:FT K mg "whole_in" p8 ["text","most_figures"] A.f_q37 A.d_q37
 t_q24:FT K mg "show_price" p7 ["price"] A.f_q24 A.d_q24
 t_q17:FT K mg "show_prices" qp ["prices"] A.f_q17 A.d_q17
 t_q11:FT K mg "show_numbers" qd ["numbers"] A.f_q11 A.d_q11
 t_q38:FT K mg "words_of" qP ["text"] A.f_q38 A.d_q38
 t_q15:FT K mg "read_number" pX ["word"] A.f_q15 A.d_q15
 t_q23:FT K mg "read_price" pT ["word"] A.f_q23 A.d_q23
 t_q16:FT K mg "read_prices" qU ["text"] A.f_q16 A.d_q16
 t_q10:FT K mg "read_numbers" qw ["text"] A.f_q10 A.d_q10
 t_q5:FT K mg "has_two_lists" s_q5 ["thing"] A.f_q5 A.d_q5
 t_q9:FT K mg "look_at_tree" s_q9 ["thing"] A.f_q9 A.d_q9
 t_q47:FT K mg "depths" ot ["tree"] A.f_q47 A.d_q47
 t_q34:FT K mg "is_place" qQ ["tree","thing"] A.f_q34 A.d_q34
 t_q32:FT K mg "are_ends" qV ["tree","one","other"] A.f_q32 A.d_q32
 t_q48:FT K mg "is_ask" oN ["tree","thing"] A.f_q48 A.d_q48
 t_q6:FT K mg "look_at_asks" s_q6 ["tree","thing"] A.f_q6 A.d_q6
 t_q33:FT K mg "fraction" rp ["top","bottom"] A.f_q33 A.d_q33
 t_q61:FT K mg "plus" qC ["one","other"] A.f_q61 A.d_q61
 t_q58:FT K mg "minus" nG ["one","other"] A.f_q58 A.d_q58
 t_q59:FT K mg "times" qL ["one","other"] A.f_q59 A.d_q59
 t_q53:FT K mg "parted" o7 ["one","other"] A.f_q53 A.d_q53
 t_q54:FT K mg "sum_of" qY ["some"] A.f_q54 A.d_q54
 t_q60:FT K mg "under" qK ["one","other"] A.f_q60 A.d_q60
 t_q7:FT K mg "look_at_ends" s_q7 ["tree","one","other"] A.f_q7 A.d_q7
 t_q56:FT K mg "climb" pw ["tree","one","other"] A.f_q56 A.d_q56
 t_q18:FT K mg "way_between" pQ ["tree","one","other"] A.f_q18 A.d_q18
 t_q55:FT K mg "way_of" nH ["tree","ask"] A.f_q55 A.d_q55
 t_q21:FT K mg "meeting_of" qb ["tree","one","other"] A.f_q21 A.d_q21
 t_q12:FT K mg "tops_between" qh ["tree","one","other"] A.f_q12 A.d_q12
 t_q52:FT K mg "lay_on" pN ["ask","way","load"] A.f_q52 A.d_q52
 t_q28:FT K mg "load_with" rD ["tree","ask","load"] A.f_q28 A.d_q28
 t_q42:FT K mg "over_on" qq ["tree","ask","way","load"] A.f_q42 A.d_q42
 t_q29:FT K mg "over_with" oS ["tree","ask","load"] A.f_q29 A.d_q29
 t_q36:FT K mg "spare_of" qz ["tree","ask","weight","prices"] A.f_q36 A.d_q36
 t_q13:FT K mg "common_room" p9 ["tree"] A.f_q13 A.d_q13
 t_q8:FT K mg "look_at_ones" s_q8 ["asks"] A.f_q8 A.d_q8
 t_q4:FT K mg "deepest_first" s_q4 ["tree","asks"] A.f_q4 A.d_q4
 t_q22:FT K mg "raise_tops" pk ["tree","ask","prices","step"] A.f_q22 A.d_q22
 t_q43:FT K mg "pile_up" qZ ["tree","asks","terms"] A.f_q43 A.d_q43
 t_q2:FT K mg "keep_from_last" s_q2 ["tree","asks","pile"] A.f_q2 A.d_q2
 t_q20:FT K mg "keep_alike" qF ["tree","asks"] A.f_q20 A.d_q20
 t_q25:FT K mg "_law_cell_at" rg ["_law_script","_law_k"] A.f_q25 A.d_q25
 t_q49:FT K mg "_law_pool" pH ["_law_script","_law_k"] A.f_q49 A.d_q49
 t_q50:FT K mg "_law_take" rP ["_law_pool_here","_law_many"] A.f_q50 A.d_q50
 t_q26:FT K mg "_law_divisor" qO ["_law_one","_law_other"] A.f_q26 A.d_q26
 t_q57:FT K mg "_law_low" nC ["_law_top","_law_bottom"] A.f_q57 A.d_q57
 t_q41:FT K mg "_law_price" oB ["_law_pool_here"] A.f_q41 A.d_q41
 t_q27:FT K mg "_law_numbers" rQ ["_law_pool_here"] A.f_q27 A.d_q27
 t_q51:FT K mg "_law_word" oT ["_law_one"] A.f_q51 A.d_q51
 t_q3:FT K mg "_law_prices_right" s_q3 ["_law_prices"] A.f_q3 A.d_q3
 t_q1:FT K mg "_law_numbers_right" s_q1 ["_law_numbers_here"] A.f_q1 A.d_q1
 t_law:FT K mg "law" q8 ["_law_script"] A.f_law A.d_law
 z_abs:mg "abs" = none
 z_all:mg "all" = none
 z_bool:mg "bool" = none
 z_enumerate:mg "enumerate" = none
 z_int:mg "int" = none
 z_isinstance:mg "isinstance" = none
 z_len:mg "len" = none
 z_list:mg "list" = none
 z_max:mg "max" = none
 z_min:mg "min" = none
 z_range:mg "range" = none
 z_reversed:mg "reversed" = none
 z_sorted:mg "sorted" = none
 z_str:mg "str" = none
 z_sum:mg "sum" = none
 z_tuple:mg "tuple" = none
 z_zip:mg "zip" = none
 c_FIGURES:∃ t,mg "FIGURES" = some (.str "0123456789" t)
 c_MOST_FIGURES:∃ t,mg "MOST_FIGURES" = some (.int 70 t)
 c_MOST_TIES:∃ t,mg "MOST_TIES" = some (.int 23 t)
 c_MOST_ROOM:∃ t,mg "MOST_ROOM" = some (.int 1000000 t)
 c_MOST_ASKS:∃ t,mg "MOST_ASKS" = some (.int 30 t)
 c_MOST_SIZE:∃ t,mg "MOST_SIZE" = some (.int 1000000 t)
 c_MOST_WORTH:∃ t,mg "MOST_WORTH" = some (.int 1000000000000 t)
 c_MOST_COMMON_ROOM:∃ t,mg "MOST_COMMON_ROOM" = some (.int 60 t)
 hc:A.d_q4.code = .ref A.tc
theorem ve:FnScope ["thing"] ["thing"] (ah qv):=aG
theorem vz:FnScope ["thing","least","most"] ["thing","least","most"] (ah pz):=aG
theorem sc_q0:FnScope ["number","bottom"] ["number","bottom"] (ah s_q0):=aG
theorem wd:FnScope ["thing","top","bottom"] ["thing"] (ah pf):=aG
theorem wo:FnScope ["text","most_figures"] ["text","most_figures"] (ah p8):=aG
theorem vx:FnScope ["price","top","bottom"] ["price"] (ah p7):=aG
theorem xh:FnScope ["prices"] ["prices"] (ah qp):=aG
theorem uu:FnScope ["numbers"] ["numbers"] (ah qd):=aG
theorem u9:FnScope ["text"] ["text"] (ah qP):=aG
theorem uD:FnScope ["word","number"] ["word"] (ah pX):=aG
theorem uX:FnScope ["word","top","slash","bottom","price"] ["word"] (ah pT):=aG
theorem vG:FnScope ["text"] ["text"] (ah qU):=aG
theorem wj:FnScope ["text","words","numbers","number","following"] ["text"] (ah qw):=aG
theorem sc_q5:FnScope ["thing","parents","rooms"] ["thing"] (ah s_q5):=aG
theorem sc_q9:FnScope ["thing","parents","rooms","number","parent","room"] ["thing"] (ah s_q9):=aG
theorem uT:FnScope ["tree","found","parent"] ["tree"] (ah ot):=aG
theorem w_:FnScope ["tree","thing"] ["tree","thing"] (ah qQ):=aG
theorem vU:FnScope ["tree","one","other"] ["tree","one","other"] (ah qV):=aG
theorem vV:FnScope ["tree","thing","one","other","size","worth"] ["tree","thing"] (ah oN):=aG
theorem sc_q6:FnScope ["tree","thing","number","ask"] ["tree","thing"] (ah s_q6):=aG
theorem wT:FnScope ["top","bottom","common"] ["top","bottom"] (ah rp):=aG
theorem vi:FnScope ["one","other"] ["one","other"] (ah qC):=aG
theorem uy:FnScope ["one","other"] ["one","other"] (ah nG):=aG
theorem xi:FnScope ["one","other"] ["one","other"] (ah qL):=aG
theorem vo:FnScope ["one","other"] ["one","other"] (ah o7):=aG
theorem wO:FnScope ["some","bottom","one"] ["some"] (ah qY):=aG
theorem wn:FnScope ["one","other"] ["one","other"] (ah qK):=aG
theorem sc_q7:FnScope ["tree","one","other"] ["tree","one","other"] (ah s_q7):=aG
theorem uU:FnScope ["tree","one","other","way","low"] ["tree","one","other"] (ah pw):=aG
theorem vA:FnScope ["tree","one","other","way","meeting"] ["tree","one","other"] (ah pQ):=aG
theorem uA:FnScope ["tree","ask"] ["tree","ask"] (ah nH):=aG
theorem u5:FnScope ["tree","one","other","way","meeting"] ["tree","one","other"] (ah qb):=aG
theorem ug:FnScope ["tree","one","other","way","meeting"] ["tree","one","other"] (ah qh):=aG
theorem wI:FnScope ["ask","way","load","tie"] ["ask","way","load"] (ah pN):=aG
theorem uV:FnScope ["tree","ask","load","found"] ["tree","ask","load"] (ah rD):=aG
theorem w4:FnScope ["tree","ask","way","load"] ["tree","ask","way","load"] (ah qq):=aG
theorem vf:FnScope ["tree","ask","load"] ["tree","ask","load"] (ah oS):=aG
theorem uJ:FnScope ["tree","ask","weight","prices","paid","spare"] ["tree","ask","weight","prices"] (ah qz):=aG
theorem uQ:FnScope ["tree","room"] ["tree"] (ah p9):=aG
theorem sc_q8:FnScope ["asks","number","ask"] ["asks"] (ah s_q8):=aG
theorem sc_q4:FnScope ["tree","asks","deep","met"] ["tree","asks"] (ah s_q4):=aG
theorem uL:FnScope ["tree","ask","prices","step","tie"] ["tree","ask","prices","step"] (ah pk):=aG
theorem vt:FnScope ["tree","asks","terms","prices","rests","pile","number","weight","part"] ["tree","asks","terms"] (ah qZ):=aG
theorem sc_q2:FnScope ["tree","asks","pile","load","keep","number"] ["tree","asks","pile"] (ah s_q2):=aG
theorem uM:FnScope ["tree","asks","room","pile","prices","rests"] ["tree","asks"] (ah qF):=aG
theorem xn:FnScope ["_law_script","_law_k"] ["_law_script","_law_k"] (ah rg):=aG
theorem uG:FnScope ["_law_script","_law_k","_law_cell","_law_mixed"] ["_law_script","_law_k"] (ah pH):=aG
theorem wU:FnScope ["_law_pool_here","_law_many","_law_found","_law_made","_law_turn"] ["_law_pool_here","_law_many"] (ah rP):=aG
theorem uC:FnScope ["_law_one","_law_other"] ["_law_one","_law_other"] (ah qO):=aG
theorem uR:FnScope ["_law_top","_law_bottom","_law_share"] ["_law_top","_law_bottom"] (ah nC):=aG
theorem wE:FnScope ["_law_pool_here","_law_top"] ["_law_pool_here"] (ah oB):=aG
theorem wk:FnScope ["_law_pool_here","_law_found","_law_number","_law_size","_law_k"] ["_law_pool_here"] (ah rQ):=aG
theorem vW:FnScope ["_law_one"] ["_law_one"] (ah oT):=aG
theorem sc_q3:FnScope ["_law_prices","_law_kept","_law_text","_law_found"] ["_law_prices"] (ah s_q3):=aG
theorem sc_q1:FnScope ["_law_numbers_here","_law_kept","_law_text","_law_due","_law_found"] ["_law_numbers_here"] (ah s_q1):=aG
theorem vL:FnScope ["_law_script","_law_k","_law_pool_here","_law_prices"] ["_law_script"] (ah q8):=aG
section
variable {P:Program} {w:World} {K:PySem.W.Frag} {mg:Str→Option Value} {base:Heap} {A:Adr}
theorem gW (T:Txt K mg A) (hB:TabB base mg A.tc A.tP tqS):FnOk P w K mg base CX0 1 A.f_q35 A.d_q35 ["thing"] (aQ [false] false (sJ)):=by
 have S:=ve
 refine fnD T.t_q35.F S ⟨[false],[false],false⟩ _ ?hl rfl rfl fun cdv Ar outer s H E hr=>⟨_,(af (ax (dG (cm rfl T.z_isinstance aK (aa 0) (bD (v:=.ty "int") rfl T.z_int iT rfl)) (eM (vy (cm rfl T.z_isinstance aK (aa 0) (bD (v:=.ty "bool") rfl T.z_bool s9 rfl))))))),fun ds q h=>?_⟩
 case hl=>intro ds q h; obtain ⟨d,rfl,_⟩:=h; rfl
 obtain ⟨d,rfl,hs,q0⟩:=h
 cases d <;> first | exact q0 | cases hs
theorem gB (T:Txt K mg A) (hB:TabB base mg A.tc A.tP tqS):FnOk P w K mg base CX0 2 A.f_q19 A.d_q19 ["thing","least","most"] (aQ [false,false,false] false (mJ)):=by
 have S:=vz
 refine fnD T.t_q19.F S ⟨[false,false,false],[false,false,false],false⟩ _ ?hl rfl rfl fun cdv Ar outer s H E hr=>⟨_,(af (ax (dG (ag (gW T hB) hr T.t_q35 (am (aa 0) ai)) (eM (jZ gF gF dB dB (aa 1) (aa 0) (aa 2)))))),fun ds q h=>?_⟩
 case hl=>intro ds q h; obtain ⟨d,lo,hi,rfl,_⟩:=h; rfl
 obtain ⟨d,lo,hi,rfl,hs,q0⟩:=h
 refine ⟨d,rfl,hs,?_⟩
 cases d
 case int i =>
  refine (bA (c:=decide (lo≤i)=true) (fun c=>?_) (fun c=>?_))
  ·have:btw lo hi (.int i)=decide (i≤hi):=by show (decide (lo≤i)&&decide (i≤hi))=_; rw [c,Bool.true_and]
   rw [this] at q0; exact q0
  ·have:btw lo hi (.int i)=false:=by show (decide (lo≤i)&&decide (i≤hi))=_; rw [Bool.eq_false_iff.mpr c,Bool.false_and]
   rw [this] at q0; exact q0
 all_goals first | exact q0 | cases hs
theorem ok_q5 (T:Txt K mg A) (hB:TabB base mg A.tc A.tP tqS):FnOk P w K mg base CX0 1 A.f_q5 A.d_q5 ["thing"] (aQ [false] false (ut)):=by
 have S:=sc_q5
 refine fnD T.t_q5.F S ⟨[false],[false,false,false],false⟩ _ ?hl rfl rfl fun cdv Ar outer s H E hr=>⟨_,(ad (aU (QW.qt (cn (aT (aX (cm rfl T.z_isinstance aK (aa 0) (bD (v:=.ty "tuple") rfl T.z_tuple fj rfl)))) (bz (aP (bU hr.units) dNe (aM aI eG rfl T.z_len bF (ae (aa 0) aj)) ac (aE _))))) (af (ax c_)) aB)
  (ad (du (aa 0) (b_ rfl (aD (az (i:=1) S.nd rfl (Or.inl rfl)) (aD (az (i:=2) S.nd rfl (Or.inl rfl)) bB)) (ao (ao aY))))
  (ad (aU (QW.qt (cn (aT (aX (cm rfl T.z_isinstance aK (aa 1) (bD (v:=.ty "list") rfl T.z_list c9 rfl)))) (bz (aT (aX (cm rfl T.z_isinstance aK (aa 2) (bD (v:=.ty "list") rfl T.z_list c9 rfl))))))) (af (ax c_)) aB)
  (af (ax (dG (cF (cV hr.units) dEq (aM aI eG rfl T.z_len bF (ae (aa 1) aj)) (aM aI eG rfl T.z_len bF (ae (aa 2) aj)) (aE _)) (eM (jZ gF gF dB dB ac (aM aI eG rfl T.z_len bF (ae (aa 1) aj)) (cT (i:=23) rfl T.c_MOST_TIES))))))))),fun ds q h=>?_⟩
 case hl=>intro ds q h; obtain ⟨ps,rs,rfl,_⟩:=h; rfl
 obtain ⟨ps,rs,rfl,hT,q0⟩:=h
 have l1:((ps.map D.int).length:Int)=ps.length:=by rw [List.length_map]
 have l2:((rs.map D.int).length:Int)=rs.length:=by rw [List.length_map]
 have h1:=hT.len
 have h2:=hT.lo
 have h3:=hT.hi
 refine (bA (c:=decide (((ps.map D.int).length:Int)=((rs.map D.int).length:Int))=true) (fun c=>?_) (fun c=>?_))
 ·refine (bA (c:=decide ((1:Int)≤((ps.map D.int).length:Int))=true) (fun c=>?_) (fun c=>?_))
  ·show q (.bl (decide (((ps.map D.int).length:Int)≤23))) []
   rw [decide_eq_true (by omega)]; exact q0
  ·exact absurd (decide_eq_true (by omega)) c
 ·exact absurd (decide_eq_true (by omega)) c
theorem pP (T:Txt K mg A) (hB:TabB base mg A.tc A.tP tqS):FnOk P w K mg base CX0 3 A.f_q9 A.d_q9 ["thing"] (aQ [false] false (w6)):=by
 have S:=sc_q9
 refine fnD T.t_q9.F S ⟨[false],[false,false,false,false,false,false],false⟩ _ ?hl rfl rfl fun cdv Ar outer s H E hr=>⟨_,(ad (aU (aT (aX (ag (ok_q5 T hB) hr T.t_q5 (am (aa 0) ai)))) (af bf) aB)
  (ad (du (aa 0) (b_ rfl (aD (az (i:=1) S.nd rfl (Or.inl rfl)) (aD (az (i:=2) S.nd rfl (Or.inl rfl)) bB)) (ao (ao aY))))
  (ad (ca PassesOwn.never rfl (gb rfl T.z_enumerate (ae (aa 1) aj)) (b_ rfl (aD (az (i:=3) S.nd rfl (Or.inl rfl)) (aD (az (i:=4) S.nd rfl (Or.inl rfl)) bB)) (ao (ao aY))) (af (aU (aT (aX (ag (gB T hB) hr T.t_q19 (am (aa 4) (am ac (am (aa 3) ai)))))) (af bf) aB)))
  (af (ca PassesOwn.never rfl (gb rfl T.z_enumerate (ae (aa 2) aj)) (b_ rfl (aD (az (i:=3) S.nd rfl (Or.inl rfl)) (aD (az (i:=5) S.nd rfl (Or.inl rfl)) bB)) (ao (ao aY))) (af (aU (aT (aX (ag (gB T hB) hr T.t_q19 (am (aa 5) (am ac (am (cT (i:=1000000) rfl T.c_MOST_ROOM) ai)))))) (af bf) aB))))))),fun ds q h=>?_⟩
 case hl=>intro ds q h; obtain ⟨ps,rs,rfl,_⟩:=h; rfl
 obtain ⟨ps,rs,rfl,hT,q0⟩:=h
 refine ⟨ps,rs,rfl,hT,?_⟩
 refine ⟨fun _ ρ=>∃ v1 v2 v3,ρ=[some (a_ ps rs),some (au ps),some (au rs),v1,v2,v3],⟨_,_,_,rfl⟩,?_,?_⟩
 ·rintro i d ρ hd ⟨v1,v2,v3,rfl⟩
  obtain ⟨d',h1,rfl⟩:=eZ hd
  obtain ⟨z,hz,rfl⟩:=dE h1
  have hb:=hT.par i z hz
  refine ⟨.int z,0,(i:Int),rfl,rfl,?_⟩
  rw [eh hb.1 hb.2]
  exact ⟨_,_,_,rfl⟩
 ·rintro ρ ⟨v1,v2,v3,rfl⟩
  refine ⟨fun _ ρ=>∃ v1 v2 v3,ρ=[some (a_ ps rs),some (au ps),some (au rs),v1,v2,v3],⟨_,_,_,rfl⟩,?_,?_⟩
  ·rintro i d ρ hd ⟨v1,v2,v3,rfl⟩
   obtain ⟨d',h1,rfl⟩:=eZ hd
   obtain ⟨z,hz,rfl⟩:=dE h1
   have hb:=hT.room i z hz
   refine ⟨.int z,1,1000000,rfl,rfl,?_⟩
   rw [eh hb.1 hb.2]
   exact ⟨_,_,_,rfl⟩
  ·rintro ρ ⟨v1,v2,v3,rfl⟩
   exact q0
theorem we (T:Txt K mg A) (hB:TabB base mg A.tc A.tP tqS):FnOk P w K mg base CX0 4 A.f_q47 A.d_q47 ["tree"] (aQ [false] true (nN)):=by
 have S:=uT
 refine fnD T.t_q47.F S ⟨[false],[false,true,false],true⟩ _ ?hl rfl rfl fun cdv Ar outer s H E hr=>⟨_,(ad (cy (ag (pP T hB) hr T.t_q9 (am (aa 0) ai)))
  (ad (ci (i:=1) S.nd rfl (Or.inl rfl) (dO (ae ac aj)))
  (ad (ca PassesOwn.never rfl (bd (av ap dIx (aa 0) ac (fun _ _=>rfl))) (az (i:=2) S.nd rfl (Or.inl rfl)) (af (cM (i:=1) rfl (QF.bor [1] (QE.qf (ay cr dI (av ap dIx (aa 1) (aa 2) (fun _ _=>rfl)) ac))))))
  (af (bh (cz 1)))))),fun ds q h=>?_⟩
 case hl=>intro ds q h; obtain ⟨ps,rs,rfl,_⟩:=h; rfl
 obtain ⟨ps,rs,rfl,hT,q0⟩:=h
 have hi:=hT.hi
 refine ⟨ps,rs,rfl,hT,?_⟩
 refine ⟨rfl,?_⟩
 refine ⟨fun i ρ=>∃ (e:List Int) (v:Option D),ρ=[some (a_ ps rs),some (au e),v]∧DepOk ps e i,⟨[0],_,rfl,dep0 ps⟩,?_,?_⟩
 ·rintro i d ρ hd ⟨e,v,rfl,he⟩
  obtain ⟨z,hz,rfl⟩:=dE hd
  have hb:=hT.par i z hz
  have hl:=he.len
  have hil:i<ps.length:=(List.getElem?_eq_some_iff.mp hz).1
  refine bn (cA hb.1 (by omega)) ?_
  refine ⟨rfl,by rw [aL]; omega,?_⟩
  refine ⟨_,some (.int z),?_,rJ hT hz he⟩
  rw [← d5]; rfl
 ·rintro ρ ⟨e,v,rfl,he⟩
  rw [aL] at he
  exact q0 e he
theorem qI (T:Txt K mg A) (hB:TabB base mg A.tc A.tP tqS):FnOk P w K mg base CX0 3 A.f_q34 A.d_q34 ["tree","thing"] (aQ [false,false] false (r6)):=by
 have S:=w_
 refine fnD T.t_q34.F S ⟨[false,false],[false,false],false⟩ _ ?hl rfl rfl fun cdv Ar outer s H E hr=>⟨_,(af (ax (ag (gB T hB) hr T.t_q19 (am (aa 1) (am ac (am (aM aI eG rfl T.z_len bF (ae (av ap dIx (aa 0) ac (fun _ _=>rfl)) aj)) ai)))))),fun ds q h=>?_⟩
 case hl=>intro ds q h; obtain ⟨ps,rs,d,rfl,_⟩:=h; rfl
 obtain ⟨ps,rs,d,rfl,hs,q0⟩:=h
 refine ⟨d,0,((ps.map D.int).length:Int),rfl,hs,?_⟩
 rw [List.length_map]; exact q0
theorem oC (T:Txt K mg A) (hB:TabB base mg A.tc A.tP tqS):FnOk P w K mg base CX0 4 A.f_q32 A.d_q32 ["tree","one","other"] (aQ [false,false,false] false (wm)):=by
 have S:=vU
 refine fnD T.t_q32.F S ⟨[false,false,false],[false,false,false],false⟩ _ ?hl rfl rfl fun cdv Ar outer s H E hr=>⟨_,(af (ax (dG (ag (qI T hB) hr T.t_q34 (am (aa 0) (am (aa 1) ai))) (dG (ag (qI T hB) hr T.t_q34 (am (aa 0) (am (aa 2) ai))) (eM (cF (bU hr.units) dNe (aa 1) (aa 2) (aE _))))))),fun ds q h=>?_⟩
 case hl=>intro ds q h; obtain ⟨ps,rs,a,b,rfl,_⟩:=h; rfl
 obtain ⟨ps,rs,a,b,rfl,he,q0⟩:=h
 refine ⟨ps,rs,.int a,rfl,rfl,?_⟩
 rw [eh he.a0 he.a1]
 refine ⟨ps,rs,.int b,rfl,rfl,?_⟩
 rw [eh he.b0 he.b1]
 have:(!decide (a=b))=true:=by simp [he.ne]
 show q (.bl (!decide (a=b))) []
 rw [this]; exact q0
theorem pI (T:Txt K mg A) (hB:TabB base mg A.tc A.tP tqS):FnOk P w K mg base CX0 5 A.f_q7 A.d_q7 ["tree","one","other"] (aQ [false,false,false] false (kZ)):=by
 have S:=sc_q7
 refine fnD T.t_q7.F S ⟨[false,false,false],[false,false,false],false⟩ _ ?hl rfl rfl fun cdv Ar outer s H E hr=>⟨_,(ad (cy (ag (pP T hB) hr T.t_q9 (am (aa 0) ai)))
  (af (aU (aT (aX (ag (oC T hB) hr T.t_q32 (am (aa 0) (am (aa 1) (am (aa 2) ai)))))) (af bf) aB))),fun ds q h=>?_⟩
 case hl=>intro ds q h; obtain ⟨ps,rs,a,b,rfl,_⟩:=h; rfl
 obtain ⟨ps,rs,a,b,rfl,hT,he,q0⟩:=h
 refine ⟨ps,rs,rfl,hT,?_⟩
 exact ⟨ps,rs,a,b,rfl,he,q0⟩
theorem kU (T:Txt K mg A) (hB:TabB base mg A.tc A.tP tqS):FnOk P w K mg base CX0 1 A.f_q56 A.d_q56 ["tree","one","other"] (aQ [false,false,false] true (sX)):=by
 have S:=uU
 refine fnD T.t_q56.F S ⟨[false,false,false],[false,false,false,true,false],true⟩ _ ?hl rfl rfl fun cdv Ar outer s H E hr=>⟨_,(ad (ci (i:=3) S.nd rfl (Or.inl rfl) (dO aj))
  (ad (gI PassesOwn.never (aP (bU hr.units) dNe (aa 1) (aa 2) (aE _)) (ad (aS (i:=4) S.nd rfl (Or.inl rfl) (aM (ir rfl) dMax rfl T.z_max qy (ae (aa 1) (ae (aa 2) aj))))
  (ad (cM (i:=3) rfl (QE.qf (aa 4)))
  (af (iC (i:=1) (j:=2) rfl S.nd rfl rfl (by decide) rfl rfl (aM (ie rfl) dMin rfl T.z_min nR (ae (aa 1) (ae (aa 2) aj))) (av ap dIx (av ap dIx (aa 0) ac (fun _ _=>rfl)) (ay dc dI (aa 4) ac) (fun _ _=>rfl)) rfl)))))
  (af (bh (k7 (cC (QF.qm (QF.bor [3] (j7 eQ nO rfl T.z_sorted fD (ae (aa 3) aj)))) (cC (QF.qm (QE.qf (aa 1))) iM))))))),fun ds q h=>?_⟩
 case hl=>intro ds q h; obtain ⟨ps,rs,a,b,rfl,_⟩:=h; rfl
 obtain ⟨ps,rs,a,b,rfl,hT,a0,a1,b0,b1,q0⟩:=h
 refine ⟨rfl,?_⟩
 refine ⟨fun k ρ=>∃ a' b' acc v,ρ=[some (a_ ps rs),some (.int a'),some (.int b'),some (au acc),v]∧0≤a'∧a'≤ps.length∧0≤b'∧b'≤ps.length∧k=(a' + b').toNat∧acc.length + (a' + b').toNat≤46∧(∀ w m,Climb ps a' b' w m→Climb ps a b (acc++w) m),⟨_,a,b,[],_,rfl,a0,a1,b0,b1,rfl,by have:=hT.hi; simp; omega,fun w m h=>h⟩,?_⟩
 rintro k ρ ⟨a',b',acc,v,rfl,a0',a1',b0',b1',rfl,hl,hc⟩
 have hi:=hT.hi
 refine (bA (c:=(!decide (a'=b'))=true) (fun c=>?_) (fun c=>?_))
 ·have hne:a'≠b':=by simpa using c
  have key:∀ (low hig:Int),low=(if b' > a' then b' else a')→hig=(if b'<a' then b' else a')→0<low∧low≤ps.length∧0≤hig∧hig≤ps.length∧low + hig=a' + b'∧(∀ w m,Climb ps hig (cY ps low) w m→Climb ps a' b' (low :: w) m):=by
   intro low hig e1 e2
   by_cases hlt:b'<a'
   ·rw [if_neg (by omega)] at e1; rw [if_pos hlt] at e2; subst e1; subst e2
    exact ⟨by omega,a1',b0',b1',by omega,fun w m h=>.left hlt h⟩
   ·rw [if_pos (by omega)] at e1; rw [if_neg hlt] at e2; subst e1; subst e2
    exact ⟨by omega,b1',a0',a1',by omega,fun w m h=>.right (by omega) h⟩
  obtain ⟨L,hL⟩:∃ L,L=(if b' > a' then b' else a'):=⟨_,rfl⟩
  obtain ⟨J,hJ⟩:∃ J,J=(if b'<a' then b' else a'):=⟨_,rfl⟩
  obtain ⟨k1,k2,k3,k4,k5,k6⟩:=key L J hL hJ
  have hp:=hT.up k1 k2
  refine ⟨rfl,?_⟩
  refine ⟨by show (acc.map D.int).length<1000; rw [List.length_map]; omega,?_⟩
  refine bn (cA (by rw [← hL]; omega) (by rw [← hL]; omega)) ?_
  refine ⟨(J + cY ps L).toNat,by omega,J,cY ps L,acc++[L],some (.int L),?_,k3,k4,hp.1,by omega,rfl,by rw [List.length_append]; show acc.length + 1 + _≤46; omega,fun w m h=>by rw [List.append_assoc]; exact hc _ _ (k6 _ _ h)⟩
  show [some (a_ ps rs),some (.int (if b'<a' then b' else a')),some (.int (cY ps (if b' > a' then b' else a'))),some (D.lst (acc.map D.int++[D.int (if b' > a' then b' else a')])),some (.int (if b' > a' then b' else a'))]=_
  rw [← hL,← hJ,au,List.map_append]; rfl
 ·have:a'=b':=by simpa using c
  subst this
  have hw:=hc [] a' (.same a')
  rw [List.append_nil] at hw
  have hln:=hw.len hT a0 b0 a1 b1
  refine ⟨acc,rfl,by omega,cN _,rfl,?_⟩
  exact q0 acc a' hw
theorem wZ (T:Txt K mg A) (hB:TabB base mg A.tc A.tP tqS):FnOk P w K mg base CX0 6 A.f_q18 A.d_q18 ["tree","one","other"] (aQ [false,false,false] true (sdWay)):=by
 have S:=vA
 refine fnD T.t_q18.F S ⟨[false,false,false],[false,false,false,true,false],true⟩ _ ?hl rfl rfl fun cdv Ar outer s H E hr=>⟨_,(ad (cy (ag (pI T hB) hr T.t_q7 (am (aa 0) (am (aa 1) (am (aa 2) ai)))))
  (ad (lN rfl (QF.qm (aO (kU T hB) hr T.t_q56 (am (aa 0) (am (aa 1) (am (aa 2) ai))))) (iJ (i:=3) S.nd rfl (Or.inl rfl) (rd (i:=4) S.nd rfl (Or.inl rfl) lL)) (ao (ao aY)))
  (af (bh (cz 3))))),fun ds q h=>?_⟩
 case hl=>intro ds q h; obtain ⟨ps,rs,a,b,rfl,_⟩:=h; rfl
 obtain ⟨ps,rs,a,b,rfl,hT,he,q0⟩:=h
 refine ⟨ps,rs,a,b,rfl,hT,he,?_⟩
 refine ⟨ps,rs,a,b,rfl,hT,he.a0,he.a1,he.b0,he.b1,fun w m hw=>?_⟩
 exact q0 w m hw
theorem uW (T:Txt K mg A) (hB:TabB base mg A.tc A.tP tqS):FnOk P w K mg base CX0 6 A.f_q21 A.d_q21 ["tree","one","other"] (aQ [false,false,false] false (vv)):=by
 have S:=u5
 refine fnD T.t_q21.F S ⟨[false,false,false],[false,false,false,false,false],false⟩ _ ?hl rfl rfl fun cdv Ar outer s H E hr=>⟨_,(ad (cy (ag (pI T hB) hr T.t_q7 (am (aa 0) (am (aa 1) (am (aa 2) ai)))))
  (ad (du (QF.qe (aO (kU T hB) hr T.t_q56 (am (aa 0) (am (aa 1) (am (aa 2) ai))))) (b_ rfl (aD (az (i:=3) S.nd rfl (Or.inl rfl)) (aD (az (i:=4) S.nd rfl (Or.inl rfl)) bB)) (ao (ao aY))))
  (af (ax (aa 4))))),fun ds q h=>?_⟩
 case hl=>intro ds q h; obtain ⟨ps,rs,a,b,rfl,_⟩:=h; rfl
 obtain ⟨ps,rs,a,b,rfl,hT,he,q0⟩:=h
 refine ⟨ps,rs,a,b,rfl,hT,he,?_⟩
 refine ⟨ps,rs,a,b,rfl,hT,he.a0,he.a1,he.b0,he.b1,fun w m hw=>?_⟩
 exact q0 w m hw
theorem um (T:Txt K mg A) (hB:TabB base mg A.tc A.tP tqS):FnOk P w K mg base CX0 6 A.f_q12 A.d_q12 ["tree","one","other"] (aQ [false,false,false] true (w5)):=by
 have S:=ug
 refine fnD T.t_q12.F S ⟨[false,false,false],[false,false,false,false,false],true⟩ _ ?hl rfl rfl fun cdv Ar outer s H E hr=>⟨_,(ad (cy (ag (pI T hB) hr T.t_q7 (am (aa 0) (am (aa 1) (am (aa 2) ai)))))
  (ad (du (QF.qe (aO (kU T hB) hr T.t_q56 (am (aa 0) (am (aa 1) (am (aa 2) ai))))) (b_ rfl (aD (az (i:=3) S.nd rfl (Or.inl rfl)) (aD (az (i:=4) S.nd rfl (Or.inr rfl)) bB)) (ao (ao aY))))
  (af (bh (QF.qm (iE ["tie"] [4,0] ⟨rfl,rfl,by decide +kernel,rfl,rfl,(by first | exact trivial | exact ⟨rfl,trivial⟩ | exact ⟨rfl,rfl,trivial⟩ | exact ⟨rfl,rfl,rfl,trivial⟩ | exact ⟨rfl,rfl,rfl,rfl,trivial⟩),rfl⟩ rfl (bd (aa 3)) (bE 0) (fun _ _ _ _=>⟨(bc (i:=0) (show List.Nodup (["tie","meeting","tree"]:List Str) by decide +kernel) rfl (Or.inl rfl)),(jc (aP (cV hr.units) dEq (av ap dIx (av ap dIx (aa 2) ac (fun _ _=>rfl)) (ay dc dI (aa 0) ac) (fun _ _=>rfl)) (aa 1) (aE _))),(aa 0)⟩))))))),fun ds q h=>?_⟩
 case hl=>intro ds q h; obtain ⟨ps,rs,a,b,rfl,_⟩:=h; rfl
 obtain ⟨ps,rs,a,b,rfl,hT,he,q0⟩:=h
 refine ⟨ps,rs,a,b,rfl,hT,he,?_⟩
 refine ⟨ps,rs,a,b,rfl,hT,he.a0,he.a1,he.b0,he.b1,fun w m hw=>?_⟩
 have hln:=hw.len hT he.a0 he.b0 he.a1 he.b1
 have hi:=hT.hi
 have a1:=he.a1
 have b1:=he.b1
 refine ⟨by show ((cf w).map D.int).length≤1000; rw [List.length_map,g_]; omega,?_⟩
 refine gy (filD fun x=>decide (cY ps x=m)) ?_ ?_
 ·intro d hd k hk
  obtain ⟨x,hx,rfl⟩:=gj hd
  have hx':=hw.mem hT he.a0 he.b0 he.a1 he.b1 x ((cq w).mem_iff.mp hx)
  refine bn (cA (by omega) (by omega)) ?_
  change k (if decide (cY ps x=m)=true then some (.int x) else none) at hk
  show if decide (cY ps x=m)=true then k (some (.int x)) else k none
  cases e:decide (cY ps x=m) with
  | true=>rw [e] at hk; exact hk
  | false=>rw [e] at hk; exact hk
 ·rw [hR]
  exact ⟨cN _,q0 w m hw⟩
theorem kf (T:Txt K mg A) (hB:TabB base mg A.tc A.tP tqS):FnOk P w K mg base CX0 7 A.f_q55 A.d_q55 ["tree","ask"] (aQ [false,false] true (rR)):=by
 have S:=uA
 refine fnD T.t_q55.F S ⟨[false,false],[false,false],true⟩ _ ?hl rfl rfl fun cdv Ar outer s H E hr=>⟨_,(af (bh (QF.qm (aO (wZ T hB) hr T.t_q18 (am (aa 0) (am (av ap dIx (aa 1) ac (fun _ _=>rfl)) (am (av ap dIx (aa 1) ac (fun _ _=>rfl)) ai))))))),fun ds q h=>?_⟩
 case hl=>intro ds q h; obtain ⟨ps,rs,a,rfl,_⟩:=h; rfl
 obtain ⟨ps,rs,a,rfl,hT,he,q0⟩:=h
 refine ⟨ps,rs,a.one,a.other,rfl,hT,he,fun w m hw=>?_⟩
 rw [(hw.way hT he.a0 he.b0 he.a1 he.b1).1]
 exact q0
theorem vE (T:Txt K mg A) (hB:TabB base mg A.tc A.tP tqS):FnOk P w K mg base CX0 5 A.f_q48 A.d_q48 ["tree","thing"] (aQ [false,false] false (tG)):=by
 have S:=vV
 refine fnD T.t_q48.F S ⟨[false,false],[false,false,false,false,false,false],false⟩ _ ?hl rfl rfl fun cdv Ar outer s H E hr=>⟨_,(ad (aU (QW.qt (cn (aT (aX (cm rfl T.z_isinstance aK (aa 1) (bD (v:=.ty "tuple") rfl T.z_tuple fj rfl)))) (bz (aP (bU hr.units) dNe (aM aI eG rfl T.z_len bF (ae (aa 1) aj)) ac (aE _))))) (af (ax c_)) aB)
  (ad (du (aa 1) (b_ rfl (aD (az (i:=2) S.nd rfl (Or.inl rfl)) (aD (az (i:=3) S.nd rfl (Or.inl rfl)) (aD (az (i:=4) S.nd rfl (Or.inl rfl)) (aD (az (i:=5) S.nd rfl (Or.inl rfl)) bB)))) (ao (ao (ao (ao aY))))))
  (af (ax (dG (ag (oC T hB) hr T.t_q32 (am (aa 0) (am (aa 2) (am (aa 3) ai)))) (dG (ag (gB T hB) hr T.t_q19 (am (aa 4) (am ac (am (cT (i:=1000000) rfl T.c_MOST_SIZE) ai)))) (eM (ag (gB T hB) hr T.t_q19 (am (aa 5) (am ac (am (cT (i:=1000000000000) rfl T.c_MOST_WORTH) ai))))))))))),fun ds q h=>?_⟩
 case hl=>intro ds q h; obtain ⟨ps,rs,a,rfl,_⟩:=h; rfl
 obtain ⟨ps,rs,a,rfl,ha,q0⟩:=h
 refine ⟨ps,rs,a.one,a.other,rfl,ha.ends,?_⟩
 refine ⟨.int a.size,1,1000000,rfl,rfl,?_⟩
 rw [eh ha.s0 ha.s1]
 refine ⟨.int a.worth,1,1000000000000,rfl,rfl,?_⟩
 rw [eh ha.w0 ha.w1]
 exact q0
theorem ok_q6 (T:Txt K mg A) (hB:TabB base mg A.tc A.tP tqS):FnOk P w K mg base CX0 6 A.f_q6 A.d_q6 ["tree","thing"] (aQ [false,false] false (kM)):=by
 have S:=sc_q6
 refine fnD T.t_q6.F S ⟨[false,false],[false,false,false,false],false⟩ _ ?hl rfl rfl fun cdv Ar outer s H E hr=>⟨_,(ad (cy (ag (pP T hB) hr T.t_q9 (am (aa 0) ai)))
  (ad (aU (QW.qt (cn (aT (aX (cm rfl T.z_isinstance aK (aa 1) (bD (v:=.ty "list") rfl T.z_list c9 rfl)))) (bz (aP jG dB (aM aI eG rfl T.z_len bF (ae (aa 1) aj)) (cT (i:=30) rfl T.c_MOST_ASKS) (aE _))))) (af bf) aB)
  (af (ca PassesOwn.never rfl (gb rfl T.z_enumerate (ae (aa 1) aj)) (b_ rfl (aD (az (i:=2) S.nd rfl (Or.inl rfl)) (aD (az (i:=3) S.nd rfl (Or.inl rfl)) bB)) (ao (ao aY))) (af (aU (aT (aX (ag (vE T hB) hr T.t_q48 (am (aa 0) (am (aa 3) ai))))) (af bf) aB)))))),fun ds q h=>?_⟩
 case hl=>intro ds q h; obtain ⟨ps,rs,as,rfl,_⟩:=h; rfl
 obtain ⟨ps,rs,as,rfl,hT,ha,q0⟩:=h
 refine ⟨ps,rs,rfl,hT,?_⟩
 refine (bA (c:=decide ((30:Int)<((as.map dn).length:Int))=true) (fun c=>?_) (fun c=>?_))
 ·have:=ha.len; rw [be] at c; simp at c; omega
 refine ⟨fun _ ρ=>∃ v1 v2,ρ=[some (a_ ps rs),some (dR as),v1,v2],⟨_,_,rfl⟩,?_,?_⟩
 ·rintro i d ρ hd ⟨v1,v2,rfl⟩
  obtain ⟨d',h1,rfl⟩:=eZ hd
  obtain ⟨z,hz,rfl⟩:=lY h1
  refine ⟨ps,rs,z,rfl,ha.ok z (List.mem_of_getElem? hz),?_⟩
  exact ⟨_,_,rfl⟩
 ·rintro ρ ⟨v1,v2,rfl⟩
  exact q0
end
end K80
namespace K80
open PySem L2
section
variable {P:Program} {w:World} {K:PySem.W.Frag} {mg:Str→Option Value} {base:Heap} {A:Adr}
theorem rc (T:Txt K mg A) (hB:TabB base mg A.tc A.tP tqS):FnOk P w K mg base CX0 1 A.f_q0 A.d_q0 ["number","bottom"] (aQ [false,false] false (sdGcd)):=by
 have S:=sc_q0
 refine fnD T.t_q0.F S ⟨[false,false],[false,false],false⟩ _ ?hl rfl rfl fun cdv Ar outer s H E hr=>⟨_,(ad (gI PassesOwn.never (aP (bU hr.units) dNe (aa 1) ac (aE _)) (af (iC (i:=0) (j:=1) rfl S.nd rfl rfl (by decide) rfl rfl (aa 1) (ay dL dIC (aa 0) (aa 1)) rfl)))
  (af (ax (aa 0)))),fun ds q h=>?_⟩
 case hl=>intro ds q h; obtain ⟨n,b,rfl,_⟩:=h; rfl
 obtain ⟨n,b,rfl,hb,q0⟩:=h
 refine ⟨fun k ρ=>∃ n' b':Int,ρ=[some (.int n'),some (.int b')]∧0≤b'∧b'.toNat=k∧bL n' b'=bL n b,⟨_,n,b,rfl,hb,rfl,rfl⟩,?_⟩
 rintro k ρ ⟨n',b',rfl,hb',hk,hg⟩
 refine (bA (c:=(!decide (b'=0))=true) (fun c=>?_) (fun c=>?_))
 ·have c':b'≠0:=by simpa using c
  have hp : 0<b':=by omega
  refine ⟨hp,?_⟩
  have:=Int.emod_lt_of_pos n' hp
  have:=Int.emod_nonneg n' (show b'≠0 by omega)
  exact ⟨_,by omega,b',n' % b',rfl,by omega,rfl,by rw [ic hp]; exact hg⟩
 ·have c':b'=0:=by simpa using c
  subst c'
  have e:bL n b=n':=by rw [← hg]; unfold bL; rw [if_pos rfl]
  rw [e] at q0; exact q0
theorem gA (T:Txt K mg A) (hB:TabB base mg A.tc A.tP tqS):FnOk P w K mg base CX0 2 A.f_q33 A.d_q33 ["top","bottom"] (aQ [false,false] false (wX)):=by
 have S:=wT
 refine fnD T.t_q33.F S ⟨[false,false],[false,false,false],false⟩ _ ?hl rfl rfl fun cdv Ar outer s H E hr=>⟨_,(ad (aU (QW.qt (cn (aT (aX (ag (gW T hB) hr T.t_q35 (am (aa 0) ai)))) (bz (aT (aX (ag (gW T hB) hr T.t_q35 (am (aa 1) ai))))))) (af bf) aB)
  (ad (aU (aP (cV hr.units) dEq (aa 1) ac (aE _)) (af bf) aB)
  (ad (pv (aU (aP lu dB (aa 1) ac (aE _)) (af (iC (i:=0) (j:=1) rfl S.nd rfl rfl (by decide) rfl rfl (qN (aa 0)) (qN (aa 1)) rfl)) aB))
  (ad (aS (i:=2) S.nd rfl (Or.inl rfl) (ag (rc T hB) hr T.t_q0 (am (aa 0) (am (aa 1) ai))))
  (af (ax (bq (ae (ay cU dIC (aa 0) (aa 2)) (ae (ay cU dIC (aa 1) (aa 2)) aj))))))))),fun ds q h=>?_⟩
 case hl=>intro ds q h; obtain ⟨t,b,rfl,_⟩:=h; rfl
 obtain ⟨t,b,rfl,hb,hs,q0⟩:=h
 refine ⟨.int t,rfl,rfl,?_⟩
 refine ⟨.int b,rfl,rfl,?_⟩
 refine (bA (c:=decide (b=0)=true) (fun c=>absurd (of_decide_eq_true c) hb) (fun _=>?_))
 refine ⟨fun ρ=>∃ t' b':Int,ρ=[some (.int t'),some (.int b'),none]∧0<b'∧Sm b'∧Rat.divInt t' b'=Rat.divInt t b,?_,?_⟩
 ·refine (bA (c:=decide (b<0)=true) (fun c=>?_) (fun c=>?_))
  ·have c':b<0:=by simpa using c
   exact ⟨-t,-b,rfl,by omega,by show (-b).natAbs<_; rw [Int.natAbs_neg]; exact hs,Rat.neg_divInt_neg t b⟩
  ·have c' : ¬ b<0:=by simpa using c
   exact ⟨t,b,rfl,by omega,hs,rfl⟩
 ·rintro ρ ⟨t',b',rfl,hp,hs',he⟩
  refine ⟨t',b',rfl,Int.le_of_lt hp,?_⟩
  have g:=dq (n:=t') hp
  have gl:=i6 (n:=t') hp
  have gs:Sm (bL t' b'):=by show (bL t' b').natAbs<_; exact Nat.lt_of_le_of_lt (by omega) hs'
  refine ⟨⟨g,gs⟩,⟨g,gs⟩,?_⟩
  rw [i3 hp,iB hp,he]
  exact q0
theorem wl (T:Txt K mg A) (hB:TabB base mg A.tc A.tP tqS):FnOk P w K mg base CX0 3 A.f_q61 A.d_q61 ["one","other"] (aQ [false,false] false (vB)):=by
 have S:=vi
 refine fnD T.t_q61.F S ⟨[false,false],[false,false],false⟩ _ ?hl rfl rfl fun cdv Ar outer s H E hr=>⟨_,(af (ax (ag (gA T hB) hr T.t_q33 (am (ay cr dI (ay bC dIC (av ap dIx (aa 0) ac (fun _ _=>rfl)) (av ap dIx (aa 1) ac (fun _ _=>rfl))) (ay bC dIC (av ap dIx (aa 1) ac (fun _ _=>rfl)) (av ap dIx (aa 0) ac (fun _ _=>rfl)))) (am (ay bC dIC (av ap dIx (aa 0) ac (fun _ _=>rfl)) (av ap dIx (aa 1) ac (fun _ _=>rfl))) ai))))),fun ds q h=>?_⟩
 case hl=>intro ds q h; obtain ⟨r,s,rfl,_⟩:=h; rfl
 obtain ⟨r,s,rfl,hr,hs,q0⟩:=h
 refine ⟨⟨hr.smN (by decide),hs.smD (by decide)⟩,⟨hs.smN (by decide),hr.smD (by decide)⟩,⟨hr.smD (by decide),hs.smD (by decide)⟩,?_⟩
 refine ⟨_,_,rfl,Int.ne_of_gt (bW r s),Sm.of (n:=7900) (by rw [br,Int.natAbs_natCast,Int.natAbs_natCast]; exact a9 (m:=3950) (n:=3950) hr.den hs.den) (by decide),?_⟩
 rw [← pY]; exact q0
theorem vd (T:Txt K mg A) (hB:TabB base mg A.tc A.tP tqS):FnOk P w K mg base CX0 3 A.f_q58 A.d_q58 ["one","other"] (aQ [false,false] false (rW)):=by
 have S:=uy
 refine fnD T.t_q58.F S ⟨[false,false],[false,false],false⟩ _ ?hl rfl rfl fun cdv Ar outer s H E hr=>⟨_,(af (ax (ag (gA T hB) hr T.t_q33 (am (ay dc dI (ay bC dIC (av ap dIx (aa 0) ac (fun _ _=>rfl)) (av ap dIx (aa 1) ac (fun _ _=>rfl))) (ay bC dIC (av ap dIx (aa 1) ac (fun _ _=>rfl)) (av ap dIx (aa 0) ac (fun _ _=>rfl)))) (am (ay bC dIC (av ap dIx (aa 0) ac (fun _ _=>rfl)) (av ap dIx (aa 1) ac (fun _ _=>rfl))) ai))))),fun ds q h=>?_⟩
 case hl=>intro ds q h; obtain ⟨r,s,rfl,_⟩:=h; rfl
 obtain ⟨r,s,rfl,hr,hs,q0⟩:=h
 refine ⟨⟨hr.smN (by decide),hs.smD (by decide)⟩,⟨hs.smN (by decide),hr.smD (by decide)⟩,⟨hr.smD (by decide),hs.smD (by decide)⟩,?_⟩
 refine ⟨_,_,rfl,Int.ne_of_gt (bW r s),Sm.of (n:=7900) (by rw [br,Int.natAbs_natCast,Int.natAbs_natCast]; exact a9 (m:=3950) (n:=3950) hr.den hs.den) (by decide),?_⟩
 rw [← nJ]; exact q0
theorem w9 (T:Txt K mg A) (hB:TabB base mg A.tc A.tP tqS):FnOk P w K mg base CX0 3 A.f_q59 A.d_q59 ["one","other"] (aQ [false,false] false (tJ)):=by
 have S:=xi
 refine fnD T.t_q59.F S ⟨[false,false],[false,false],false⟩ _ ?hl rfl rfl fun cdv Ar outer s H E hr=>⟨_,(af (ax (ag (gA T hB) hr T.t_q33 (am (ay bC dIC (av ap dIx (aa 0) ac (fun _ _=>rfl)) (av ap dIx (aa 1) ac (fun _ _=>rfl))) (am (ay bC dIC (av ap dIx (aa 0) ac (fun _ _=>rfl)) (av ap dIx (aa 1) ac (fun _ _=>rfl))) ai))))),fun ds q h=>?_⟩
 case hl=>intro ds q h; obtain ⟨r,s,rfl,_⟩:=h; rfl
 obtain ⟨r,s,rfl,hr,hs,q0⟩:=h
 refine ⟨⟨hr.smN (by decide),hs.smN (by decide)⟩,⟨hr.smD (by decide),hs.smD (by decide)⟩,?_⟩
 refine ⟨_,_,rfl,Int.ne_of_gt (bW r s),Sm.of (n:=7900) (by rw [br,Int.natAbs_natCast,Int.natAbs_natCast]; exact a9 (m:=3950) (n:=3950) hr.den hs.den) (by decide),?_⟩
 rw [← qG]; exact q0
theorem vX (T:Txt K mg A) (hB:TabB base mg A.tc A.tP tqS):FnOk P w K mg base CX0 3 A.f_q53 A.d_q53 ["one","other"] (aQ [false,false] false (tM)):=by
 have S:=vo
 refine fnD T.t_q53.F S ⟨[false,false],[false,false],false⟩ _ ?hl rfl rfl fun cdv Ar outer s H E hr=>⟨_,(af (ax (ag (gA T hB) hr T.t_q33 (am (ay bC dIC (av ap dIx (aa 0) ac (fun _ _=>rfl)) (av ap dIx (aa 1) ac (fun _ _=>rfl))) (am (ay bC dIC (av ap dIx (aa 0) ac (fun _ _=>rfl)) (av ap dIx (aa 1) ac (fun _ _=>rfl))) ai))))),fun ds q h=>?_⟩
 case hl=>intro ds q h; obtain ⟨r,s,rfl,_⟩:=h; rfl
 obtain ⟨r,s,rfl,hr,hs,hz,q0⟩:=h
 refine ⟨⟨hr.smN (by decide),hs.smD (by decide)⟩,⟨hr.smD (by decide),hs.smN (by decide)⟩,?_⟩
 refine ⟨_,_,rfl,Int.mul_ne_zero (Int.ne_of_gt (bi r)) (vk hz),Sm.of (n:=7900) (by rw [br,Int.natAbs_natCast]; exact a9 (m:=3950) (n:=3950) hr.den hs.num) (by decide),?_⟩
 rw [← wF]; exact q0
theorem vw (T:Txt K mg A) (hB:TabB base mg A.tc A.tP tqS):FnOk P w K mg base CX0 3 A.f_q54 A.d_q54 ["some"] (aQ [false] false (vN)):=by
 have S:=wO
 refine fnD T.t_q54.F S ⟨[false],[false,false,false],false⟩ _ ?hl rfl rfl fun cdv Ar outer s H E hr=>⟨_,(ad (aS (i:=1) S.nd rfl (Or.inr rfl) ac)
  (ad (ca PassesOwn.never rfl (bd (aa 0)) (az (i:=2) S.nd rfl (Or.inl rfl)) (af (aS (i:=1) S.nd rfl (Or.inr rfl) (ay bC dIC (ay cU dIC (aa 1) (ag (rc T hB) hr T.t_q0 (am (aa 1) (am (av ap dIx (aa 2) ac (fun _ _=>rfl)) ai)))) (av ap dIx (aa 2) ac (fun _ _=>rfl))))))
  (af (ax (ag (gA T hB) hr T.t_q33 (am (aM (mT rfl) dSum rfl T.z_sum u7 (ae (cx ["one"] [1] ⟨rfl,rfl,by decide +kernel,rfl,rfl,(by first | exact trivial | exact ⟨rfl,trivial⟩ | exact ⟨rfl,rfl,trivial⟩ | exact ⟨rfl,rfl,rfl,trivial⟩ | exact ⟨rfl,rfl,rfl,rfl,trivial⟩),rfl⟩ rfl (bd (aa 0)) (bE 0) (fun _ _ _ _=>⟨(bc (i:=0) (show List.Nodup (["one","bottom"]:List Str) by decide +kernel) rfl (Or.inl rfl)),bS,(ay bC dIC (av ap dIx (aa 0) ac (fun _ _=>rfl)) (ay cU dIC (aa 1) (av ap dIx (aa 0) ac (fun _ _=>rfl))))⟩)) aj)) (am (aa 1) ai))))))),fun ds q h=>?_⟩
 case hl=>intro ds q h; obtain ⟨rs,M,rfl,_⟩:=h; rfl
 obtain ⟨rs,M,rfl,hl,hn,hM,hp,q0⟩:=h
 refine ⟨fun i ρ=>∃ (B:Int) (v:Option D),ρ=[some (dQs rs),some (.int B),v]∧Com (rs.take i) M B,⟨1,_,rfl,sw M⟩,?_,?_⟩
 ·rintro i d ρ hd ⟨B,v,rfl,hB⟩
  obtain ⟨r,hr,rfl⟩:∃ r,rs[i]? = some r∧dQ r=d:=by rw [List.getElem?_map,Option.map_eq_some_iff] at hd; exact hd
  have hd:=bi r
  have hmem:=List.mem_of_getElem? hr
  have hdp:=Nat.le_of_dvd hM (hn r hmem).2
  have hle:=hB.le hM
  have hB0:=hB.pos
  have g:=dq (n:=B) hd
  have gl:=i6 (n:=B) hd
  refine ⟨B,r.den,rfl,Int.le_of_lt hd,?_⟩
  refine ⟨⟨g,Sm.of (n:=3900) (by omega) (by decide)⟩,⟨Sm.of (n:=3900) (Nat.lt_of_le_of_lt (eP g) (by omega)) (by decide),Sm.of (n:=3900) (by omega) (by decide)⟩,?_⟩
  refine ⟨_,_,rfl,?_⟩
  rw [List.take_add_one,hr]
  exact rF hB (hn r hmem).2
 ·rintro ρ ⟨B,v,rfl,hB⟩
  have el:(rs.map dQ).length=rs.length:=List.length_map _
  rw [el,List.take_length] at hB
  have hle:=hB.le hM
  have hB0:=hB.pos
  refine ⟨by rw [el]; omega,?_⟩
  refine eA (sumF B) ?_ ?_
  ·intro d hd k hk
   obtain ⟨r,hr,rfl⟩:=List.mem_map.mp hd
   have hd:=bi r
   have hdp:=Nat.le_of_dvd hM (hn r hr).2
   refine ⟨⟨hd,Sm.of (n:=3900) (by omega) (by decide)⟩,⟨Sm.of (hn r hr).1 (by decide),Sm.of (n:=3900) (Nat.lt_of_le_of_lt (eP hd) (by omega)) (by decide)⟩,?_⟩
   exact hk
  ·rw [oG]
   refine ⟨_,rfl,?_⟩
   refine ⟨_,B,rfl,by omega,Sm.of (n:=3900) (by omega) (by decide),?_⟩
   rw [jO hB0 hB.dv]
   exact q0
theorem v9 (T:Txt K mg A) (hB:TabB base mg A.tc A.tP tqS):FnOk P w K mg base CX0 1 A.f_q60 A.d_q60 ["one","other"] (aQ [false,false] false (rX)):=by
 have S:=wn
 refine fnD T.t_q60.F S ⟨[false,false],[false,false],false⟩ _ ?hl rfl rfl fun cdv Ar outer s H E hr=>⟨_,(af (ax (cF lu dB (ay bC dIC (av ap dIx (aa 0) ac (fun _ _=>rfl)) (av ap dIx (aa 1) ac (fun _ _=>rfl))) (ay bC dIC (av ap dIx (aa 1) ac (fun _ _=>rfl)) (av ap dIx (aa 0) ac (fun _ _=>rfl))) (aE _)))),fun ds q h=>?_⟩
 case hl=>intro ds q h; obtain ⟨r,s,rfl,_⟩:=h; rfl
 obtain ⟨r,s,rfl,hr,hs,q0⟩:=h
 refine ⟨⟨hr.smN (by decide),hs.smD (by decide)⟩,⟨hs.smN (by decide),hr.smD (by decide)⟩,?_⟩
 have e:decide (r<s)=decide (r.num * (s.den:Int)<s.num * (r.den:Int)):=decide_eq_decide.mpr (Rat.lt_iff r s)
 rw [e] at q0; exact q0
def sm:SpD:=fun ds q=>∃ a w l,ds=[dn a,au w,au l]∧(∀ t∈w,0<t∧t≤(l.length:Int))∧q .non [some (au (fF l w a.size))]
theorem wC (T:Txt K mg A) (hB:TabB base mg A.tc A.tP tqS):FnOk P w K mg base CX0 1 A.f_q52 A.d_q52 ["ask","way","load"] (aQ [false,false,true] false (sm)):=by
 have S:=wI
 refine fnD T.t_q52.F S ⟨[false,false,true],[false,false,true,false],false⟩ _ ?hl rfl rfl fun cdv Ar outer s H E hr=>⟨_,(af (ca PassesOwn.never rfl (bd (aa 1)) (az (i:=3) S.nd rfl (Or.inl rfl)) (af (sS (i:=2) rfl (av ap dIx (aa 0) ac (fun _ _=>rfl)) (ay dc dI (aa 3) ac))))),fun ds q h=>?_⟩
 case hl=>intro ds q h; obtain ⟨a,w,l,rfl,_⟩:=h; rfl
 obtain ⟨a,w,l,rfl,hw,q0⟩:=h
 refine ⟨fun i ρ=>∃ v,ρ=[some (dn a),some (au w),some (au (fF l (w.take i) a.size)),v],⟨_,rfl⟩,?_,?_⟩
 ·rintro i d ρ hd ⟨v,rfl⟩
  obtain ⟨z,hz,rfl⟩:=dE hd
  have hm:=hw z (List.mem_of_getElem? hz)
  have hlen:(fF l (w.take i) a.size).length=l.length:=gT _ _ _
  refine ⟨by omega,?_⟩
  rw [cA (by omega) (by omega)]
  show (match ixN ((fF l (w.take i) a.size).map D.int).length (z - 1) with | some _=>_ | none=>False)
  rw [aL,gg (by omega) (by omega)]
  refine ⟨some (.int z),?_⟩
  rw [List.take_add_one,hz]
  show _=[_,_,some (au (fF l (_++[z]) a.size)),_]
  rw [nb,mR,← ny]; rfl
 ·rintro ρ ⟨v,rfl⟩
  rw [aL,List.take_length]
  exact q0
theorem wc (T:Txt K mg A) (hB:TabB base mg A.tc A.tP tqS):FnOk P w K mg base CX0 8 A.f_q28 A.d_q28 ["tree","ask","load"] (aQ [false,false,false] true (ld)):=by
 have S:=uV
 refine fnD T.t_q28.F S ⟨[false,false,false],[false,false,false,true],true⟩ _ ?hl rfl rfl fun cdv Ar outer s H E hr=>⟨_,(ad (ci (i:=3) S.nd rfl (Or.inl rfl) (g8 dA pK rfl T.z_list c9 (ae (aa 2) aj)))
  (ad (cy (ag (wC T hB) hr T.t_q52 (am (aa 1) (am (QF.qe (aO (kf T hB) hr T.t_q55 (am (aa 0) (am (aa 1) ai)))) (fE 3 ai)))))
  (af (bh (cz 3))))),fun ds q h=>?_⟩
 case hl=>intro ds q h; obtain ⟨ps,rs,a,l,rfl,_⟩:=h; rfl
 obtain ⟨ps,rs,a,l,rfl,hT,he,hl,q0⟩:=h
 refine ⟨cN _,?_⟩
 refine ⟨ps,rs,a,rfl,hT,he,?_⟩
 refine ⟨a,bG ps a,l,rfl,fun t ht=>?_,q0⟩
 have hm:=eW hT he ht
 rw [hl]; exact ⟨by omega,by omega⟩
end
end K80
namespace K80
open PySem L2
section
variable {P:Program} {w:World} {K:PySem.W.Frag} {mg:Str→Option Value} {base:Heap} {A:Adr}
theorem uN (T:Txt K mg A) (hB:TabB base mg A.tc A.tP tqS):FnOk P w K mg base CX0 8 A.f_q36 A.d_q36 ["tree","ask","weight","prices"] (aQ [false,false,false,false] false (pe)):=by
 have S:=uJ
 refine fnD T.t_q36.F S ⟨[false,false,false,false],[false,false,false,false,false,false],false⟩ _ ?hl rfl rfl fun cdv Ar outer s H E hr=>⟨_,(ad (aS (i:=4) S.nd rfl (Or.inl rfl) (ag (vw T hB) hr T.t_q54 (am (cx ["tie"] [3] ⟨rfl,rfl,by decide +kernel,rfl,rfl,(by first | exact trivial | exact ⟨rfl,trivial⟩ | exact ⟨rfl,rfl,trivial⟩ | exact ⟨rfl,rfl,rfl,trivial⟩ | exact ⟨rfl,rfl,rfl,rfl,trivial⟩),rfl⟩ rfl (bd (QF.qe (aO (kf T hB) hr T.t_q55 (am (aa 0) (am (aa 1) ai))))) (bE 0) (fun _ _ _ _=>⟨(bc (i:=0) (show List.Nodup (["tie","prices"]:List Str) by decide +kernel) rfl (Or.inl rfl)),bS,(av ap dIx (aa 1) (ay dc dI (aa 0) ac) (fun _ _=>rfl))⟩)) ai)))
  (ad (aS (i:=5) S.nd rfl (Or.inl rfl) (ag (vd T hB) hr T.t_q58 (am (bq (ae (av ap dIx (aa 1) ac (fun _ _=>rfl)) (ae ac aj))) (am (ag (w9 T hB) hr T.t_q59 (am (bq (ae (aa 2) (ae ac aj))) (am (aa 4) ai))) ai))))
  (af (ax (ff (aX (ag (v9 T hB) hr T.t_q60 (am (bq (ae ac (ae ac aj))) (am (aa 5) ai)))) (aa 5) (bq (ae ac (ae ac aj)))))))),fun ds q h=>?_⟩
 case hl=>intro ds q h; obtain ⟨ps,rs,a,w,prs,M,b,rfl,_⟩:=h; rfl
 obtain ⟨ps,rs,a,w,prs,M,b,rfl,hT,ha,hw0,hw1,hp,M0,hM,hb,q0⟩:=h
 have hwl:=eu hT ha.ends
 have hpl:=hp.len
 obtain ⟨hpa,p0,p1,pd⟩:=rq hT ha.ends hp
 have hpb:Bt (cZ ps a prs) (400 + 66):=jY p0 p1 pd M0 hM (Nat.le_trans (Nat.mul_le_mul_left _ hb) (by decide))
 refine ⟨ps,rs,a,rfl,hT,ha.ends,?_⟩
 refine ⟨by rw [aL]; exact Nat.le_trans hwl (by decide),?_⟩
 refine eA (pR prs) ?_ ?_
 ·intro d hd k hk
  obtain ⟨t,ht,rfl⟩:=gj hd
  have hm:=eW hT ha.ends ht
  refine bn (kI (by omega) (by omega)) ?_
  exact hk
 ·rw [kD]
  refine ⟨_,M,rfl,by rw [List.length_map]; exact Nat.le_trans hwl (by decide),fun r hr=>?_,M0,Nat.lt_of_lt_of_le hM (fM (by decide)),?_⟩
  ·obtain ⟨r0,r1,r2⟩:=hp.ok r (hpa r hr)
   exact ⟨(Bt.mono (jY r0 r1 r2 M0 hM hb) (by decide)).num,r2.den M0⟩
  have e1:D.tup [.int w,.int 1]=dQ (w:Rat):=kH w
  have e2:D.tup [.int a.worth,.int 1]=dQ (a.worth:Rat):=kH a.worth
  have bw:Bt (w:Rat) 20:=o5 1000000 (by omega) (by decide) (by decide)
  have ba:Bt (a.worth:Rat) 40:=o5 1000000000000 (by have:=ha.w0; have:=ha.w1; omega) (by decide) (by decide)
  have bt:Bt ((w:Rat) * cZ ps a prs) 500:=(bw.mul hpb).mono (by decide)
  have bm:Bt ((a.worth:Rat) - (w:Rat) * cZ ps a prs) 600:=(ba.sub bt).mono (by decide)
  refine ⟨(w:Rat),cZ ps a prs,by rw [← e1]; rfl,bw.mono (by decide),hpb.mono (by decide),?_⟩
  refine ⟨(a.worth:Rat),(w:Rat) * cZ ps a prs,by rw [← e2],ba.mono (by decide),bt.mono (by decide),?_⟩
  refine ⟨0,(a.worth:Rat) - (w:Rat) * cZ ps a prs,rfl,bt0 (by decide),bm.mono (by decide),?_⟩
  have eq:a6 ps a w prs=jE ((a.worth:Rat) - (w:Rat) * cZ ps a prs):=rfl
  rw [eq] at q0
  unfold jE at q0
  refine (bA (c:=decide ((0:Rat)<(a.worth:Rat) - (w:Rat) * cZ ps a prs)=true) (fun c=>?_) (fun c=>?_))
  ·rw [if_pos (of_decide_eq_true c)] at q0; exact q0
  ·rw [if_neg (fun z=>c (decide_eq_true z))] at q0; exact q0
theorem ok_q4 (T:Txt K mg A) (hB:TabB base mg A.tc A.tP tqS):FnOk P w K mg base CX0 7 A.f_q4 A.d_q4 ["tree","asks"] (aQ [false,false] false (wz)):=by
 have S:=sc_q4
 refine fnDc T.t_q4.F T.hc S ⟨[false,false],[false,false,false,false],false⟩ _ ?hl rfl rfl fun Ar outer s H E hr=>⟨_,(ad (aS (i:=2) S.nd rfl (Or.inr rfl) (QF.qe (aO (we T hB) hr T.t_q47 (am (aa 0) ai))))
  (ad (aS (i:=3) S.nd rfl (Or.inr rfl) (cx ["ask"] [2,0] ⟨rfl,rfl,by decide +kernel,rfl,rfl,(by first | exact trivial | exact ⟨rfl,trivial⟩ | exact ⟨rfl,rfl,trivial⟩ | exact ⟨rfl,rfl,rfl,trivial⟩ | exact ⟨rfl,rfl,rfl,rfl,trivial⟩),rfl⟩ rfl (bd (aa 1)) (bE 0) (fun _ _ _ _=>⟨(bc (i:=0) (show List.Nodup (["ask","deep","tree"]:List Str) by decide +kernel) rfl (Or.inl rfl)),bS,(av ap dIx (aa 1) (ag (uW T hB) hr T.t_q21 (am (aa 2) (am (av ap dIx (aa 0) ac (fun _ _=>rfl)) (am (av ap dIx (aa 0) ac (fun _ _=>rfl)) ai)))) (fun _ _=>rfl))⟩)))
  (af (ax (pG (j:=3) hr rfl T.z_sorted rfl T.z_range (aM aI eG rfl T.z_len bF (ae (aa 1) aj)) rfl rfl rfl hB))))),fun ds q h=>?_⟩
 case hl=>intro ds q h; obtain ⟨ps,rs,as,rfl,_⟩:=h; rfl
 obtain ⟨ps,rs,as,rfl,hT,ha,q0⟩:=h
 have hal:=ha.len
 refine ⟨ps,rs,rfl,hT,fun e he=>?_⟩
 have hel:=he.len
 refine ⟨by rw [be]; omega,?_⟩
 refine eA (metF ps e) ?_ ?_
 ·intro d hd k hk
  obtain ⟨a,hm,rfl⟩:=List.mem_map.mp hd
  have hok:=(ha.ok a hm).ends
  refine ⟨ps,rs,a.one,a.other,rfl,hT,hok,fun w m hw=>?_⟩
  have hmm:=hw.way hT hok.a0 hok.b0 hok.a1 hok.b1
  have hb:=hw.low hT hok.a0 hok.b0 hok.a1 hok.b1
  have ha1:=hok.a1
  refine bn (cA (by omega) (by omega)) ?_
  rw [hmm.2]
  exact hk
 ·rw [oZ]
  refine ⟨by rw [be]; omega,by rw [be]; omega,pC ps e as,rfl,by rw [be]; unfold pC; rw [List.length_map]; omega,fun o ho=>?_⟩
  rw [be] at ho
  exact q0 o ⟨e,he,ho⟩
theorem wa (T:Txt K mg A) (hB:TabB base mg A.tc A.tP tqS):FnOk P w K mg base CX0 7 A.f_q22 A.d_q22 ["tree","ask","prices","step"] (aQ [false,false,true,false] false (sD)):=by
 have S:=uL
 refine fnD T.t_q22.F S ⟨[false,false,true,false],[false,false,true,false,false],false⟩ _ ?hl rfl rfl fun cdv Ar outer s H E hr=>⟨_,(af (ca PassesOwn.never rfl (bd (QF.qe (aO (um T hB) hr T.t_q12 (am (aa 0) (am (av ap dIx (aa 1) ac (fun _ _=>rfl)) (am (av ap dIx (aa 1) ac (fun _ _=>rfl)) ai)))))) (az (i:=4) S.nd rfl (Or.inl rfl)) (af (e7 (i:=2) rfl (QF.bor [2] (QE.qf (ag (wl T hB) hr T.t_q61 (am (av ap dIx (aa 2) (ay dc dI (aa 4) ac) (fun _ _=>rfl)) (am (aa 3) ai))))) (ay dc dI (aa 4) ac))))),fun ds q h=>?_⟩
 case hl=>intro ds q h; obtain ⟨ps,rs,a,prs,st,M,b,X,rfl,_⟩:=h; rfl
 obtain ⟨ps,rs,a,prs,st,M,b,X,rfl,hT,he,hp,s0,s1,sd,M0,hM,hb,q0⟩:=h
 have hpl:=hp.len
 obtain ⟨t1,t2⟩:=jD hT he
 refine ⟨ps,rs,a.one,a.other,rfl,hT,he,fun w m hw=>?_⟩
 have hcw:=hw.way hT he.a0 he.b0 he.a1 he.b1
 have et:pF ps w m=bN ps a:=by unfold pF bN bG; rw [hcw.1,hcw.2]
 rw [et]
 have hbs:Bt st 460:=jY s0 s1 sd M0 hM (x:=60) (Nat.le_trans (show X≤b + 46 * X by omega) hb)
 refine ⟨fun i ρ=>∃ v,ρ=[some (a_ ps rs),some (dn a),some (dQs (cG st prs ((bN ps a).take i))),some (dQ st),v],⟨_,rfl⟩,?_,?_⟩
 ·rintro i d ρ hd ⟨v,rfl⟩
  obtain ⟨z,hz,rfl⟩:=dE hd
  have hm:=t1 z (List.mem_of_getElem? hz)
  have hP:=PrM.raise s0 s1 sd (w:=(bN ps a).take i) (fun t ht=>t1 t (List.mem_of_mem_take ht)) hp
  have hlen:=hP.len
  have hbb:b + ((bN ps a).take i).length * X≤2 ^ 60:=Nat.le_trans (Nat.add_le_add_left (Nat.mul_le_mul_right _ (by rw [List.length_take]; omega)) _) hb
  obtain ⟨o0,o1,o2⟩:=hP.ok _ (fA (rs:=cG st prs ((bN ps a).take i)) (k:=(z - 1).toNat) (by omega))
  refine bn (kI (by omega) (by omega)) ?_
  refine ⟨_,st,rfl,(jY o0 o1 o2 M0 hM hbb).mono (by decide),hbs.mono (by decide),?_⟩
  refine ⟨rfl,?_⟩
  show (match ixN ((cG st prs ((bN ps a).take i)).map dQ).length (z - 1) with | some _=>_ | none=>False)
  rw [List.length_map,gg (by omega) (by omega)]
  refine ⟨some (.int z),?_⟩
  rw [List.take_add_one,hz]
  show _=[_,_,some (dQs (cG st prs (_++[z]))),_,_]
  rw [jI,← lH]; rfl
 ·rintro ρ ⟨v,rfl⟩
  rw [aL,List.take_length]
  exact q0
theorem wQ (T:Txt K mg A) (hB:TabB base mg A.tc A.tP tqS):FnOk P w K mg base CX0 1 A.f_q42 A.d_q42 ["tree","ask","way","load"] (aQ [false,false,false,false] true (nP)):=by
 have S:=w4
 refine fnD T.t_q42.F S ⟨[false,false,false,false],[false,false,false,false],true⟩ _ ?hl rfl rfl fun cdv Ar outer s H E hr=>⟨_,(af (bh (QF.qm (iE ["tie"] [3,1,0] ⟨rfl,rfl,by decide +kernel,rfl,rfl,(by first | exact trivial | exact ⟨rfl,trivial⟩ | exact ⟨rfl,rfl,trivial⟩ | exact ⟨rfl,rfl,rfl,trivial⟩ | exact ⟨rfl,rfl,rfl,rfl,trivial⟩),rfl⟩ rfl (bd (aa 2)) (bE 0) (fun _ _ _ _=>⟨(bc (i:=0) (show List.Nodup (["tie","load","ask","tree"]:List Str) by decide +kernel) rfl (Or.inl rfl)),(jc (aP jG dB (ay cr dI (av ap dIx (aa 1) (ay dc dI (aa 0) ac) (fun _ _=>rfl)) (av ap dIx (aa 2) ac (fun _ _=>rfl))) (av ap dIx (av ap dIx (aa 3) ac (fun _ _=>rfl)) (ay dc dI (aa 0) ac) (fun _ _=>rfl)) (aE _))),(aa 0)⟩))))),fun ds q h=>?_⟩
 case hl=>intro ds q h; obtain ⟨ps,rs,a,w,l,rfl,_⟩:=h; rfl
 obtain ⟨ps,rs,a,w,l,rfl,hT,hw,hwl,hl,q0⟩:=h
 have hlr:=hT.len
 refine ⟨by rw [aL]; omega,?_⟩
 refine gy (iu rs a.size l) ?_ ?_
 ·intro d hd k hk
  obtain ⟨t,ht,rfl⟩:=gj hd
  have hm:=hw t ht
  refine bn (cA (by omega) (by omega)) ?_
  refine bn (cA (by omega) (by omega)) ?_
  have e:iu rs a.size l (.int t)=if decide (rs.getD (t - 1).toNat 0<l.getD (t - 1).toNat 0 + a.size)=true then some (.int t) else none:=rfl
  rw [e] at hk
  show if decide (rs.getD (t - 1).toNat 0<l.getD (t - 1).toNat 0 + a.size)=true then k (some (.int t)) else k none
  by_cases h:decide (rs.getD (t - 1).toNat 0<l.getD (t - 1).toNat 0 + a.size)=true
  ·rw [if_pos h] at hk ⊢; exact hk
  ·rw [if_neg h] at hk ⊢; exact hk
 ·rw [gu]
  exact ⟨cN _,q0⟩
theorem xl (T:Txt K mg A) (hB:TabB base mg A.tc A.tP tqS):FnOk P w K mg base CX0 8 A.f_q29 A.d_q29 ["tree","ask","load"] (aQ [false,false,false] true (k8)):=by
 have S:=vf
 refine fnD T.t_q29.F S ⟨[false,false,false],[false,false,false],true⟩ _ ?hl rfl rfl fun cdv Ar outer s H E hr=>⟨_,(af (bh (QF.qm (aO (wQ T hB) hr T.t_q42 (am (aa 0) (am (aa 1) (am (QF.qe (aO (kf T hB) hr T.t_q55 (am (aa 0) (am (aa 1) ai)))) (am (aa 2) ai)))))))),fun ds q h=>?_⟩
 case hl=>intro ds q h; obtain ⟨ps,rs,a,l,rfl,_⟩:=h; rfl
 obtain ⟨ps,rs,a,l,rfl,hT,he,hl,q0⟩:=h
 refine ⟨ps,rs,a,rfl,hT,he,?_⟩
 exact ⟨ps,rs,a,bG ps a,l,rfl,hT,fun t ht=>eW hT he ht,Nat.le_trans (eu hT he) (by decide),hl,q0⟩
theorem wy (T:Txt K mg A) (hB:TabB base mg A.tc A.tP tqS):FnOk P w K mg base CX0 9 A.f_q43 A.d_q43 ["tree","asks","terms"] (aQ [false,false,false] true (wg)):=by
 have S:=vt
 refine fnD T.t_q43.F S ⟨[false,false,false],[false,false,false,true,true,true,false,false,false],true⟩ _ ?hl rfl rfl fun cdv Ar outer s H E hr=>⟨_,(ad (ci (i:=3) S.nd rfl (Or.inl rfl) (t3 fJ mj (bI (ae (bq (ae ac (ae ac aj))) aj)) (aM aI eG rfl T.z_len bF (ae (av ap dIx (aa 0) ac (fun _ _=>rfl)) aj))))
  (ad (ci (i:=4) S.nd rfl (Or.inl rfl) (t3 fJ mj (bI (ae (bq (ae ac (ae ac aj))) aj)) (aM aI eG rfl T.z_len bF (ae (aa 1) aj))))
  (ad (ci (i:=5) S.nd rfl (Or.inl rfl) (dO aj))
  (ad (ca PassesOwn.never rfl (bd (ag (ok_q4 T hB) hr T.t_q4 (am (aa 0) (am (aa 1) ai)))) (az (i:=6) S.nd rfl (Or.inl rfl)) (af (aU (aP sj dNotN (av ap dIx (aa 2) (aa 6) (fun _ _=>rfl)) gR (aE _)) (ad (du (av ap dIx (aa 2) (aa 6) (fun _ _=>rfl)) (b_ rfl (aD (az (i:=7) S.nd rfl (Or.inl rfl)) (aD (az (i:=8) S.nd rfl (Or.inl rfl)) bB)) (ao (ao aY))))
  (ad (pv (e7 (i:=4) rfl (QF.bor [3] (QE.qf (ag (uN T hB) hr T.t_q36 (am (aa 0) (am (av ap dIx (aa 1) (aa 6) (fun _ _=>rfl)) (am (aa 7) (am (aa 3) ai))))))) (aa 6)))
  (af (aU (QT.bor [4] (aP (bU hr.units) dNe (av ap dIx (aa 4) (aa 6) (fun _ _=>rfl)) (bq (ae ac (ae ac aj))) (aE _))) (ad (cM (i:=5) rfl (QE.qf (aa 6)))
  (af (cy (QE.bor [4] (ag (wa T hB) hr T.t_q22 (am (aa 0) (am (av ap dIx (aa 1) (aa 6) (fun _ _=>rfl)) (fE 3 (am (ag (vX T hB) hr T.t_q53 (am (av ap dIx (aa 4) (aa 6) (fun _ _=>rfl)) (am (bq (ae (aa 8) (ae ac aj))) ai))) ai))))))))) aB)))) aB)))
  (af (bh (k7 (cC (cz 5) (cC (cz 3) (cC (cz 4) iM)))))))))),fun ds q h=>?_⟩
 case hl=>intro ds q h; obtain ⟨ps,rs,as,ts,rfl,_⟩:=h; rfl
 obtain ⟨ps,rs,as,ts,rfl,hT,ha,htl,hts,q0⟩:=h
 have hal:=ha.len
 have hti:=hT.hi
 refine ⟨⟨by rw [aL]; omega,by rw [aL]; omega,by rw [aL]; simp; omega⟩,?_⟩
 rw [aL,dM,Int.toNat_natCast]
 have ez:∀ n:Nat,List.replicate n (D.tup [.int 0,.int 1])=(List.replicate n (0:Rat)).map dQ:=fun n=>by rw [List.map_replicate]; rfl
 rw [ez]
 refine ⟨cP _,?_⟩
 refine ⟨⟨by rw [be]; omega,by rw [be]; omega,by rw [be]; simp; omega⟩,?_⟩
 rw [be,dM,Int.toNat_natCast,ez]
 refine ⟨cP _,?_⟩
 refine ⟨rfl,?_⟩
 refine ⟨ps,rs,as,rfl,hT,ha,fun o ho=>?_⟩
 obtain ⟨hol,hor⟩:=ho.mem
 refine ⟨fun i ρ=>∃ v6 v7 v8,ρ=[some (a_ ps rs),some (dR as),some (kl ts),some (dQs (cB ps as ts (o.take i)).prs),some (dQs (cB ps as ts (o.take i)).rests),some (au (cB ps as ts (o.take i)).pile),v6,v7,v8],⟨_,_,_,rfl⟩,?_,?_⟩
 ·rintro i d ρ hd ⟨v6,v7,v8,rfl⟩
  obtain ⟨z,hz,rfl⟩:=dE hd
  have hz1:=hor z (List.mem_of_getElem? hz)
  have hil:i<o.length:=(List.getElem?_eq_some_iff.mp hz).1
  have hP:=iO hT ha hts hor i (Nat.le_of_lt hil)
  have es:cB ps as ts (o.take (i + 1))=e8 ps as ts (cB ps as ts (o.take i)) z:=by rw [List.take_add_one,hz]; exact gv ..
  generalize hS:cB ps as ts (o.take i)=S at hP es
  obtain ⟨rl,pl,pm,M,M0,hM,hM2⟩:=hP
  have hM':M<2 ^ 400:=Nat.lt_of_le_of_lt hM (Nat.lt_of_le_of_lt (Nat.pow_le_pow_right (n:=64) (by decide) (show i≤30 by omega)) (by decide))
  have hb':i * 46000000000000≤2 ^ 60:=Nat.le_trans (Nat.mul_le_mul_right _ (show i≤30 by omega)) (by decide)
  have htm:atI (ts.map jH) z=some (jH (ts.getD z.toNat none)):=by
   refine ji (f:=jH) ?_
   have e:z=((z.toNat:Nat):Int):=by omega
   have h:atI ts ((z.toNat:Nat):Int)=some (ts.getD z.toNat none):=d4 (by rw [List.getD_eq_getElem?_getD,List.getElem?_eq_getElem (by omega)]; rfl)
   rw [← e] at h; exact h
  refine bn htm ?_
  have hat:=j8 (as:=as) hz1.1 hz1.2
  cases htz:ts.getD z.toNat none with
  | none =>
   have es':e8 ps as ts S z=S:=by unfold e8; rw [htz]
   rw [es'] at es
   refine ⟨some (.int z),v7,v8,?_⟩
   rw [es]; rfl
  | some wp =>
   obtain ⟨w,p⟩:=wp
   rw [htz] at htm
   have es':e8 ps as ts S z=fV ps as S z w p:=by unfold e8; rw [htz]
   rw [es'] at es
   have hok:=iH ha hz1.1 hz1.2
   have hwp:=hts w p (by
    rw [List.getD_eq_getElem?_getD] at htz
    cases q:ts[z.toNat]? with
    | none=>rw [q] at htz; cases htz
    | some x=>rw [q] at htz; cases htz; exact List.mem_of_getElem? q)
   have hpl:=hM2.len
   obtain ⟨x0,x1,x2⟩:=lS hT hok hwp.1 hM2
   have hrs:(S.rests.set z.toNat (a6 ps (bp as z) w S.prs)).getD z.toNat 0=a6 ps (bp as z) w S.prs:=by rw [List.getD_eq_getElem?_getD,List.getElem?_set_self (by omega)]; rfl
   have hra:atI ((S.rests.set z.toNat (a6 ps (bp as z) w S.prs)).map dQ) z=some (dQ (a6 ps (bp as z) w S.prs)):=by
    have:=kI (rs:=S.rests.set z.toNat (a6 ps (bp as z) w S.prs)) (i:=z) hz1.1 (by rw [List.length_set]; omega)
    rw [hrs] at this; exact this
   refine bn htm ?_
   refine ⟨fun ρ=>ρ=[some (a_ ps rs),some (dR as),some (kl ts),some (dQs S.prs),some (dQs (S.rests.set z.toNat (a6 ps (bp as z) w S.prs))),some (au S.pile),some (.int z),some (.int w),some (.int p)],?_,?_⟩
   ·refine bn hat ?_
    refine ⟨ps,rs,bp as z,w,S.prs,M,_,rfl,hT,hok,hwp.1,hwp.2.1,hM2,M0,hM',hb',?_⟩
    refine ⟨rfl,?_⟩
    show (match ixN (S.rests.map dQ).length z with | some _=>_ | none=>False)
    rw [List.length_map,gg (by omega) (by omega)]
    show _=_
    rw [← lH]; rfl
   ·rintro ρ rfl
    refine bn hra ?_
    refine ⟨rk _,rk 0,?_⟩
    have e0:(!eqD (dQ (a6 ps (bp as z) w S.prs)) (dQ 0)) = !decide (a6 ps (bp as z) w S.prs=0):=by rw [eqDq]
    refine (bA (c:=(!eqD (dQ (a6 ps (bp as z) w S.prs)) (dQ 0))=true) (fun c=>?_) (fun c=>?_))
    ·rw [e0] at c
     have c':a6 ps (bp as z) w S.prs≠0:=by simpa using c
     have ep:fV ps as S z w p=⟨S.pile++[z],cG (a6 ps (bp as z) w S.prs / (p:Rat)) S.prs (bN ps (bp as z)),S.rests.set z.toNat (a6 ps (bp as z) w S.prs)⟩:=by unfold fV; rw [if_neg c']
     rw [ep] at es
     have hp1:D.tup [.int p,.int 1]=dQ (p:Rat):=kH p
     have hp0:(p:Rat)≠0:=fun h=>by have:=Rat.intCast_eq_zero_iff.mp h; omega
     have bs:=jY x0 x1 x2 M0 hM' (x:=60) (by decide)
     obtain ⟨d0,d1⟩:=qJ x0 x1 hwp.2.2.1
     have hd:DvM (a6 ps (bp as z) w S.prs / (p:Rat)) (M * p.toNat):=by
      have:=x2.div (n:=p.toNat) (by omega)
      rw [show ((p.toNat:Nat):Int)=p by omega] at this
      exact this
     have hi2:i + 1≤31:=by omega
     have hMp:M * p.toNat<2 ^ 400:=Nat.lt_of_le_of_lt (Nat.mul_le_mul hM (show p.toNat≤64 by omega)) (Nat.lt_of_le_of_lt (show 64 ^ i * 64≤64 ^ 31 by rw [← Nat.pow_succ]; exact Nat.pow_le_pow_right (by decide) hi2) (by decide))
     refine ⟨rfl,by rw [aL]; omega,?_⟩
     refine bn hat ?_
     refine bn hra ?_
     refine ⟨a6 ps (bp as z) w S.prs,(p:Rat),by rw [← hp1],bs.mono (by decide),(o5 (n:=10) 64 (by omega) (by decide) (by decide)).mono (by decide),hp0,?_⟩
     refine ⟨ps,rs,bp as z,S.prs,_,M * p.toNat,i * 46000000000000,1000000000000,rfl,hT,hok.ends,hM2.up _,d0,d1,hd,Nat.mul_pos M0 (by omega),hMp,Nat.le_trans (Nat.add_le_add_right (Nat.mul_le_mul_right _ (show i≤30 by omega)) _) (by decide),?_⟩
     refine ⟨rfl,some (.int z),some (.int w),some (.int p),?_⟩
     rw [es]
     show _=[_,_,_,_,_,some (au (S.pile++[z])),_,_,_]
     rw [← d5]; rfl
    ·rw [e0] at c
     have c':a6 ps (bp as z) w S.prs=0:=by simpa using c
     have ep:fV ps as S z w p=⟨S.pile,S.prs,S.rests.set z.toNat (a6 ps (bp as z) w S.prs)⟩:=by unfold fV; rw [if_pos c']
     rw [ep] at es
     refine ⟨some (.int z),some (.int w),some (.int p),?_⟩
     rw [es]
 ·rintro ρ ⟨v6,v7,v8,rfl⟩
  rw [aL,List.take_length]
  exact q0 o ho
theorem ok_q2 (T:Txt K mg A) (hB:TabB base mg A.tc A.tP tqS):FnOk P w K mg base CX0 9 A.f_q2 A.d_q2 ["tree","asks","pile"] (aQ [false,false,false] true (uK)):=by
 have S:=sc_q2
 refine fnD T.t_q2.F S ⟨[false,false,false],[false,false,false,false,true,false],true⟩ _ ?hl rfl rfl fun cdv Ar outer s H E hr=>⟨_,(ad (aS (i:=3) S.nd rfl (Or.inl rfl) (l8 fJ mj (bI (ae ac aj)) (aM aI eG rfl T.z_len bF (ae (av ap dIx (aa 0) ac (fun _ _=>rfl)) aj))))
  (ad (ci (i:=4) S.nd rfl (Or.inl rfl) (dO aj))
  (ad (ca PassesOwn.never rfl (xg rfl T.z_reversed (ae (aa 2) aj)) (az (i:=5) S.nd rfl (Or.inl rfl)) (af (aU (aT (jy (QF.qe (aO (xl T hB) hr T.t_q29 (am (aa 0) (am (av ap dIx (aa 1) (aa 5) (fun _ _=>rfl)) (am (aa 3) ai))))))) (ad (cM (i:=4) rfl (QE.qf (aa 5)))
  (af (aS (i:=3) S.nd rfl (Or.inl rfl) (QF.qe (aO (wc T hB) hr T.t_q28 (am (aa 0) (am (av ap dIx (aa 1) (aa 5) (fun _ _=>rfl)) (am (aa 3) ai)))))))) aB)))
  (af (bh (QF.qm (QF.bor [4] (j7 eQ nO rfl T.z_sorted fD (ae (aa 4) aj))))))))),fun ds q h=>?_⟩
 case hl=>intro ds q h; obtain ⟨ps,rs,as,p,rfl,_⟩:=h; rfl
 obtain ⟨ps,rs,as,p,rfl,hT,ha,hpl,hpm,q0⟩:=h
 have hal:=ha.len
 have hti:=hT.hi
 refine ⟨⟨by rw [aL]; omega,by rw [aL]; omega,by rw [aL]; simp; omega⟩,?_⟩
 rw [aL,dM,Int.toNat_natCast,mQ]
 refine ⟨rfl,?_⟩
 refine ⟨fun i ρ=>∃ v5,ρ=[some (a_ ps rs),some (dR as),some (au p),some (au (de ps rs as (p.reverse.take i)).load),some (au (de ps rs as (p.reverse.take i)).keep),v5],⟨_,rfl⟩,?_,?_⟩
 ·rintro i d ρ hd ⟨v5,rfl⟩
  obtain ⟨z,hz,rfl⟩:=dE (ns:=p.reverse) (by rw [List.map_reverse]; exact hd)
  have hil:i<p.reverse.length:=(List.getElem?_eq_some_iff.mp hz).1
  have hz1:=hpm z (List.mem_reverse.mp (List.mem_of_getElem? hz))
  obtain ⟨l1,l2,l3⟩:=gD ps rs as p.reverse i (Nat.le_of_lt hil)
  have es:de ps rs as (p.reverse.take (i + 1))=jL ps rs as (de ps rs as (p.reverse.take i)) z:=by rw [List.take_add_one,hz]; exact gx ..
  generalize hS:de ps rs as (p.reverse.take i)=S at l1 l2 l3 es
  rw [List.length_reverse] at hil
  have hat:=j8 (as:=as) hz1.1 hz1.2
  have hok:=iH ha hz1.1 hz1.2
  refine bn hat ?_
  refine ⟨ps,rs,bp as z,S.load,rfl,hT,hok.ends,l1,?_⟩
  have ef:jL ps rs as S z=if gG rs (bp as z).size (bG ps (bp as z)) S.load=[] then ⟨fF S.load (bG ps (bp as z)) (bp as z).size,S.keep++[z]⟩ else S:=rfl
  rw [ef] at es
  cases ho:gG rs (bp as z).size (bG ps (bp as z)) S.load with
  | nil =>
   rw [ho,if_pos rfl] at es
   refine ⟨rfl,by rw [aL]; omega,?_⟩
   refine bn hat ?_
   refine ⟨ps,rs,bp as z,S.load,rfl,hT,hok.ends,l1,?_⟩
   refine ⟨some (.int z),?_⟩
   rw [es]
   show _=[_,_,_,_,some (au (S.keep++[z])),_]
   rw [← d5]; rfl
  | cons t ts =>
   rw [ho,if_neg (by simp)] at es
   refine ⟨some (.int z),?_⟩
   rw [es]; rfl
 ·rintro ρ ⟨v5,rfl⟩
  obtain ⟨l1,l2,l3⟩:=gD ps rs as p.reverse p.reverse.length (Nat.le_refl _)
  rw [show ((p.map D.int).reverse).length=p.reverse.length by simp]
  rw [List.take_length] at l1 l2 l3 ⊢
  rw [List.length_reverse] at l2
  refine ⟨_,rfl,by omega,?_⟩
  exact ⟨cN _,q0⟩
end
end K80
namespace K80
open PySem L2
section
variable {P:Program} {w:World} {K:PySem.W.Frag} {mg:Str→Option Value} {base:Heap} {A:Adr}
def tI:SpD:=fun ds q=>∃ (ps:List Int) (k:Int),ds=[a_ ps (List.replicate ps.length k)]∧Tree ps (List.replicate ps.length k)∧k≤60∧q (.int k) []
theorem wB (T:Txt K mg A) (hB:TabB base mg A.tc A.tP tqS):FnOk P w K mg base CX0 3 A.f_q13 A.d_q13 ["tree"] (aQ [false] false (tI)):=by
 have S:=uQ
 refine fnD T.t_q13.F S ⟨[false],[false,false],false⟩ _ ?hl rfl rfl fun cdv Ar outer s H E hr=>⟨_,(ad (aS (i:=1) S.nd rfl (Or.inl rfl) (av ap dIx (av ap dIx (aa 0) ac (fun _ _=>rfl)) ac (fun _ _=>rfl)))
  (ad (aU (QW.qt (cn (aP jG dB (aa 1) (cT (i:=60) rfl T.c_MOST_COMMON_ROOM) (aE _)) (bz (aP (bU hr.units) dNe (av ap dIx (aa 0) ac (fun _ _=>rfl)) (l8 fJ mj (bI (ae (aa 1) aj)) (aM aI eG rfl T.z_len bF (ae (av ap dIx (aa 0) ac (fun _ _=>rfl)) aj))) (aE _))))) (af bf) aB)
  (af (ax (aa 1))))),fun ds q h=>?_⟩
 case hl=>intro ds q h; obtain ⟨ps,k,rfl,_⟩:=h; rfl
 obtain ⟨ps,k,rfl,hT,h60,q0⟩:=h
 have h1:=hT.lo
 have h2:=hT.hi
 have e:(List.replicate ps.length k).getD (0:Int).toNat 0=k:=by rw [List.getD_eq_getElem?_getD,List.getElem?_replicate,if_pos (by omega)]; rfl
 have hat:=cA (ns:=List.replicate ps.length k) (k:=0) (by decide) (by rw [List.length_replicate]; omega)
 rw [e] at hat
 refine bn hat ?_
 refine (bA (c:=decide (60<k)=true) (fun c=>absurd (of_decide_eq_true c) (by omega)) (fun c=>?_))
 refine ⟨⟨by rw [aL,List.length_replicate]; omega,by rw [aL,List.length_replicate]; omega,by rw [aL,List.length_replicate]; simp; omega⟩,?_⟩
 rw [aL,dM,Int.toNat_natCast,List.length_replicate]
 rw [show List.replicate ps.length (D.int k)=(List.replicate ps.length k).map D.int by rw [List.map_replicate]]
 refine ⟨bu _,bu _,?_⟩
 refine (bA (c:=(!eqD (au (List.replicate ps.length k)) (au (List.replicate ps.length k)))=true) (fun c=>?_) (fun c=>q0))
 rw [eqDi,decide_eq_true rfl] at c; cases c
def tD:SpD:=fun ds q=>∃ (as:List Ask),ds=[dR as]∧(∀ a∈as,a.size=1)∧q .non []
theorem ok_q8 (T:Txt K mg A) (hB:TabB base mg A.tc A.tP tqS):FnOk P w K mg base CX0 3 A.f_q8 A.d_q8 ["asks"] (aQ [false] false (tD)):=by
 have S:=sc_q8
 refine fnD T.t_q8.F S ⟨[false],[false,false,false],false⟩ _ ?hl rfl rfl fun cdv Ar outer s H E hr=>⟨_,(af (ca PassesOwn.never rfl (gb rfl T.z_enumerate (ae (aa 0) aj)) (b_ rfl (aD (az (i:=1) S.nd rfl (Or.inl rfl)) (aD (az (i:=2) S.nd rfl (Or.inl rfl)) bB)) (ao (ao aY))) (af (aU (aP (bU hr.units) dNe (av ap dIx (aa 2) ac (fun _ _=>rfl)) ac (aE _)) (af bf) aB)))),fun ds q h=>?_⟩
 case hl=>intro ds q h; obtain ⟨as,rfl,_⟩:=h; rfl
 obtain ⟨as,rfl,ha,q0⟩:=h
 refine ⟨fun _ ρ=>∃ v1 v2,ρ=[some (dR as),v1,v2],⟨_,_,rfl⟩,?_,?_⟩
 ·rintro i d ρ hd ⟨v1,v2,rfl⟩
  obtain ⟨d',hd',rfl⟩:=eZ hd
  obtain ⟨a,hr,rfl⟩:=lY hd'
  have:=ha a (List.mem_of_getElem? hr)
  refine (bA (c:=(!decide (a.size=1))=true) (fun c=>absurd c (by rw [this]; decide)) (fun c=>?_))
  exact ⟨_,_,rfl⟩
 ·rintro ρ ⟨v1,v2,rfl⟩
  exact q0
theorem kL {k:Int} {as:List Ask} (k1 : 1≤k) (k60:k≤60):ge (alT k as):=fun w p hm=>by
 have:=List.eq_of_mem_replicate hm
 cases this
 exact ⟨by decide,by decide,k1,by omega⟩
structure AlK (ps:List Int) (k:Int) (as:List Ask):Prop where
 t:Tree ps (List.replicate ps.length k)
 k0 : 1≤k
 k60:k≤60
 a:AsksOk ps as
 s:∀ a∈as,a.size=1
def qa:SpD:=fun ds q=>∃ (ps:List Int) (k:Int) (as:List Ask),ds=[a_ ps (List.replicate ps.length k),dR as]∧AlK ps k as∧∀ o,ka ps as o →
 q (.tup [au (cf (de ps (List.replicate ps.length k) as (cB ps as (alT k as) o).pile.reverse).keep),dQs (cB ps as (alT k as) o).prs,dQs (cB ps as (alT k as) o).rests]) []
theorem vn (T:Txt K mg A) (hB:TabB base mg A.tc A.tP tqS):FnOk P w K mg base CX0 10 A.f_q20 A.d_q20 ["tree","asks"] (aQ [false,false] true (qa)):=by
 have S:=uM
 refine fnD T.t_q20.F S ⟨[false,false],[false,false,false,false,true,true],true⟩ _ ?hl rfl rfl fun cdv Ar outer s H E hr=>⟨_,(ad (cy (ag (ok_q6 T hB) hr T.t_q6 (am (aa 0) (am (aa 1) ai))))
  (ad (aS (i:=2) S.nd rfl (Or.inl rfl) (ag (wB T hB) hr T.t_q13 (am (aa 0) ai)))
  (ad (cy (ag (ok_q8 T hB) hr T.t_q8 (am (aa 1) ai)))
  (ad (lN rfl (QF.qm (aO (wy T hB) hr T.t_q43 (am (aa 0) (am (aa 1) (am (l8 fJ mj (bI (ae (bq (ae ac (ae (aa 2) aj))) aj)) (aM aI eG rfl T.z_len bF (ae (aa 1) aj))) ai))))) (rd (i:=3) S.nd rfl (Or.inl rfl) (iJ (i:=4) S.nd rfl (Or.inl rfl) (iJ (i:=5) S.nd rfl (Or.inl rfl) lL))) (ao (ao (ao aY))))
  (af (bh (k7 (cC (QF.qm (aO (ok_q2 T hB) hr T.t_q2 (am (aa 0) (am (aa 1) (am (aa 3) ai))))) (cC (cz 4) (cC (cz 5) iM)))))))))),fun ds q h=>?_⟩
 case hl=>intro ds q h; obtain ⟨ps,k,as,rfl,_⟩:=h; rfl
 obtain ⟨ps,k,as,rfl,hk,q0⟩:=h
 have hal:=hk.a.len
 have hk0:=hk.k0
 refine ⟨ps,_,as,rfl,hk.t,hk.a,?_⟩
 refine ⟨ps,k,rfl,hk.t,hk.k60,?_⟩
 refine ⟨as,rfl,hk.s,?_⟩
 refine ⟨⟨by rw [be]; omega,by rw [be]; omega,by rw [be]; simp; omega⟩,?_⟩
 rw [be,dM,Int.toNat_natCast]
 have et:List.replicate as.length (D.tup [.int 1,.int k])=(alT k as).map jH:=by unfold alT; rw [List.map_replicate]; rfl
 rw [et]
 refine ⟨ps,_,as,alT k as,rfl,hk.t,hk.a,by unfold alT; rw [List.length_replicate],kL hk.k0 hk.k60,fun o ho=>?_⟩
 have q1:=q0 o ho
 obtain ⟨hol,hor⟩:=ho.mem
 have hP:=iO hk.t hk.a (kL (as:=as) hk.k0 hk.k60) hor o.length (Nat.le_refl _)
 rw [List.take_length] at hP
 have hpl:=hP.pl
 refine ⟨ps,_,as,_,rfl,hk.t,hk.a,by omega,hP.pm,?_⟩
 exact q1
end
end K80
namespace K80
open PySem L2
section
variable {P:Program} {w:World} {K:PySem.W.Frag} {mg:Str→Option Value} {base:Heap} {A:Adr}
theorem uE (T:Txt K mg A) (hB:TabB base mg A.tc A.tP tqS):FnOk P w K mg base CX0 1 A.f_q25 A.d_q25 ["_law_script","_law_k"] (aQ [false,false] false (uP K)):=by
 have S:=xn
 refine fnD T.t_q25.F S ⟨[false,false],[false,false],false⟩ _ ?hl rfl rfl fun cdv Ar outer s H E hr=>⟨_,(ad (aU (aP lu dB (aa 1) (aM aI eG rfl T.z_len bF (ae (aa 0) aj)) (aE _)) (af (ax (av ap dIx (aa 0) (aa 1) (fun _ _=>rfl)))) aB)
  (af (ax ac))),fun ds q h=>?_⟩
 case hl=>intro ds q h; obtain ⟨φ,ns,k,rfl,_⟩:=h; rfl
 obtain ⟨φ,ns,k,rfl,hφ,h0,q0⟩:=h
 refine ⟨hφ,?_⟩
 refine (bA (c:=decide (k<(ns.length:Int))=true) (fun c=>?_) (fun c=>?_))
 ·have c':k<ns.length:=by simpa using c
  refine ⟨hφ,?_⟩
  show (match atI ns k with | some n=>q (.int n) [] | none=>False)
  rw [uB h0 c']; exact q0
 ·have c':ns.length≤k.toNat:=by simp at c; omega
  have e:lA ns k=0:=by unfold lA; rw [List.getD_eq_getElem?_getD,List.getElem?_eq_none c']; rfl
  rw [e] at q0; exact q0
theorem wA (T:Txt K mg A) (hB:TabB base mg A.tc A.tP tqS):FnOk P w K mg base CX0 2 A.f_q49 A.d_q49 ["_law_script","_law_k"] (aQ [false,false] true (vh K)):=by
 have S:=uG
 refine fnD T.t_q49.F S ⟨[false,false],[false,false,false,false],true⟩ _ ?hl rfl rfl fun cdv Ar outer s H E hr=>⟨_,(ad (aS (i:=2) S.nd rfl (Or.inl rfl) (ag (uE T hB) hr T.t_q25 (am (aa 0) (am (aa 1) ai))))
  (ad (aS (i:=3) S.nd rfl (Or.inl rfl) (ay cr dI (ay cr dI (ay cr dI (ay dY dIC (ay dL dIC (aa 2) ac) ac) (ay dY dIC (ay dY dIC ac (aa 1)) (aa 1))) (ay dY dIC ac (aa 1))) ac))
  (ad (aU (aP lu dB (aa 2) (ay eN dIC ac ac) (aE _)) (af (aS (i:=2) S.nd rfl (Or.inl rfl) ac)) aB)
  (af (bh (QF.qm (dO (ae (aa 2) (ae (ay dL dIC (aa 3) ac) aj))))))))),fun ds q h=>?_⟩
 case hl=>intro ds q h; obtain ⟨φ,ns,k,rfl,_⟩:=h; rfl
 obtain ⟨φ,ns,k,rfl,hφ,h0,h1,q0⟩:=h
 refine ⟨φ,ns,k,rfl,hφ,h0,?_⟩
 generalize lA ns k=z
 refine ⟨(show (0:Int)<2147483629 by decide),Or.inr ⟨by decide,by decide⟩,Or.inl ⟨by decide,by decide⟩,Or.inr ⟨by omega,by omega⟩,Or.inl ⟨by decide,by decide⟩,?_⟩
 refine ⟨⟨by decide,by decide,by decide⟩,?_⟩
 refine (bA (c:=decide (z<10 ^ 18)=true) (fun c=>?_) (fun c=>?_))
 ·exact ⟨(show (0:Int)<2147483647 by decide),rfl,q0 _ _ (Int.le_refl 0)⟩
 ·have c':(10:Int) ^ 18≤z:=by simpa using c
  exact ⟨(show (0:Int)<2147483647 by decide),rfl,q0 _ _ (by omega)⟩
theorem dP (T:Txt K mg A) (hB:TabB base mg A.tc A.tP tqS):FnOk P w K mg base CX0 1 A.f_q50 A.d_q50 ["_law_pool_here","_law_many"] (aQ [true,false] false (uS)):=by
 have S:=wU
 refine fnD T.t_q50.F S ⟨[true,false],[true,false,false,false,false],false⟩ _ ?hl rfl rfl fun cdv Ar outer s H E hr=>⟨_,(ad (aU (QT.bor [0] (aP jG dB (av ap dIx (aa 0) ac (fun _ _=>rfl)) ac (aE _))) (ad (aS (i:=2) S.nd rfl (Or.inl rfl) (QE.bor [0] (ay dL dIC (av ap dIx (aa 0) ac (fun _ _=>rfl)) (aa 1))))
  (ad (e7 (i:=0) rfl (QF.bor [0] (QE.qf (ay cU dIC (av ap dIx (aa 0) ac (fun _ _=>rfl)) (aa 1)))) ac)
  (af (ax (aa 2))))) aB)
  (ad (aS (i:=3) S.nd rfl (Or.inl rfl) ac)
  (ad (ca PassesOwn.never rfl (em rfl T.z_range (ae (ay cr dI ac (ay dY dIC ac (bO ik tQ rfl T.z_int iT (ae (cF jG dB (aa 1) (ay eN dIC ac ac) (aE _)) aj)))) aj)) (az (i:=4) S.nd rfl (Or.inl rfl)) (ad (e7 (i:=0) rfl (QF.bor [0] (QE.qf (ay dL dIC (ay cr dI (ay dY dIC (av ap dIx (aa 0) ac (fun _ _=>rfl)) ac) ac) ac))) ac)
  (af (aS (i:=3) S.nd rfl (Or.inl rfl) (QE.bor [0] (ay cr dI (ay dY dIC (aa 3) ac) (ay dL dIC (ay dY dIC (av ap dIx (aa 0) ac (fun _ _=>rfl)) ac) ac)))))))
  (af (ax (ay dL dIC (ay su dIC (aa 3) ac) (aa 1))))))),fun ds q h=>?_⟩
 case hl=>intro ds q h; obtain ⟨c,m,many,rfl,_⟩:=h; rfl
 obtain ⟨c,m,many,rfl,h0,hm,hs,q0⟩:=h
 refine (bA (c:=decide (0<c)=true) (fun c1=>?_) (fun c1=>?_))
 ·refine ⟨hm,rfl,?_⟩
  refine ⟨⟨hm,hs⟩,rfl,?_⟩
  exact q0 _ (c / many) m (Int.emod_nonneg _ (Int.ne_of_gt hm)) (Int.emod_lt_of_pos _ hm) (Int.ediv_nonneg h0 (Int.le_of_lt hm))
 ·refine ⟨⟨by decide,by decide,by decide⟩,Or.inl ⟨by decide,by decide⟩,⟨by split <;> decide,by split <;> decide⟩,?_⟩
  refine ⟨fun i ρ=>∃ (v:Option D) (m' made:Int),ρ=[some (au [c,m']),some (.int many),none,some (.int made),v],⟨_,m,0,rfl⟩,?_,?_⟩
  ·rintro i d ρ hd ⟨v,m',made,rfl⟩
   obtain ⟨_,rfl⟩:=f9 hd
   refine ⟨Or.inr ⟨by decide,by decide⟩,(show (0:Int)<2147483587 by decide),rfl,?_⟩
   refine ⟨Or.inr ⟨by decide,by decide⟩,⟨Or.inr ⟨by decide,by decide⟩,(show (0:Int)<2147483629 by decide),?_⟩⟩
   exact ⟨rfl,_,_,_,rfl⟩
  ·rintro ρ ⟨v,m',made,rfl⟩
   refine ⟨⟨by decide,by decide⟩,hm,?_⟩
   exact q0 _ c m' (Int.emod_nonneg _ (Int.ne_of_gt hm)) (Int.emod_lt_of_pos _ hm) h0
def vg:SpD:=fun ds q=>∃ n b,ds=[.int n,.int b]∧0<b∧q (.int (bL n b)) []
theorem uF (T:Txt K mg A) (hB:TabB base mg A.tc A.tP tqS):FnOk P w K mg base CX0 1 A.f_q26 A.d_q26 ["_law_one","_law_other"] (aQ [false,false] false (vg)):=by
 have S:=uC
 refine fnD T.t_q26.F S ⟨[false,false],[false,false],false⟩ _ ?hl rfl rfl fun cdv Ar outer s H E hr=>⟨_,(ad (gI PassesOwn.never (aP (bU hr.units) dNe (aa 1) ac (aE _)) (af (iC (i:=0) (j:=1) rfl S.nd rfl rfl (by decide) rfl rfl (aa 1) (ay dL dIC (aa 0) (aa 1)) rfl)))
  (af (ax (aM oI dAbs rfl T.z_abs uO (ae (aa 0) aj))))),fun ds q h=>?_⟩
 case hl=>intro ds q h; obtain ⟨n,b,rfl,_⟩:=h; rfl
 obtain ⟨n,b,rfl,hb,q0⟩:=h
 refine ⟨fun k ρ=>∃ n' b':Int,ρ=[some (.int n'),some (.int b')]∧0≤b'∧b'.toNat=k∧bL n' b'=bL n b,⟨_,n,b,rfl,by omega,rfl,rfl⟩,?_⟩
 rintro k ρ ⟨n',b',rfl,hb',hk,hg⟩
 refine (bA (c:=(!decide (b'=0))=true) (fun c=>?_) (fun c=>?_))
 ·have c':b'≠0:=by simpa using c
  have hp : 0<b':=by omega
  refine ⟨hp,?_⟩
  have:=Int.emod_lt_of_pos n' hp
  have:=Int.emod_nonneg n' (show b'≠0 by omega)
  exact ⟨_,by omega,b',n' % b',rfl,by omega,rfl,by rw [ic hp]; exact hg⟩
 ·have c':b'=0:=by simpa using c
  subst c'
  have e:bL n b=n':=by rw [← hg]; unfold bL; rw [if_pos rfl]
  have g:=dq (n:=n) hb
  rw [e] at q0 g
  have ea:(if n'<0 then -n' else n')=n':=if_neg (by omega)
  show q (.int (if n'<0 then -n' else n')) []
  rw [ea]; exact q0
theorem uh (T:Txt K mg A) (hB:TabB base mg A.tc A.tP tqS):FnOk P w K mg base CX0 2 A.f_q57 A.d_q57 ["_law_top","_law_bottom"] (aQ [false,false] false (rC)):=by
 have S:=uR
 refine fnD T.t_q57.F S ⟨[false,false],[false,false,false],false⟩ _ ?hl rfl rfl fun cdv Ar outer s H E hr=>⟨_,(ad (aS (i:=2) S.nd rfl (Or.inl rfl) (ag (uF T hB) hr T.t_q26 (am (aa 0) (am (aa 1) ai))))
  (af (ax (bq (ae (ay cU dIC (aa 0) (aa 2)) (ae (ay cU dIC (aa 1) (aa 2)) aj)))))),fun ds q h=>?_⟩
 case hl=>intro ds q h; obtain ⟨t,b,rfl,_⟩:=h; rfl
 obtain ⟨t,b,rfl,hb,hs,q0⟩:=h
 refine ⟨t,b,rfl,hb,?_⟩
 have g:=dq (n:=t) hb
 have gl:=i6 (n:=t) hb
 have gs:Sm (bL t b):=by show (bL t b).natAbs<_; exact Nat.lt_of_le_of_lt (by omega) hs
 refine ⟨⟨g,gs⟩,⟨g,gs⟩,?_⟩
 rw [i3 hb,iB hb]
 exact q0
def mE:SpD:=fun ds q=>∃ (x:Str) (m:Int),ds=[.str x,.int m]∧m≤600∧x.length≤100000∧q (oD (qT m x)) []
theorem wG (T:Txt K mg A) (hB:TabB base mg A.tc A.tP tqS):FnOk P w K mg base CX0 1 A.f_q37 A.d_q37 ["text","most_figures"] (aQ [false,false] false (mE)):=by
 have S:=wo
 refine fnD T.t_q37.F S ⟨[false,false],[false,false],false⟩ _ ?hl rfl rfl fun cdv Ar outer s H E hr=>⟨_,(ad (aU (QW.qt (cn (aT (o8 gF gF dB dB ac (aM mK dLenS rfl T.z_len bF (ae (aa 0) aj)) (aa 1))) (bz (aT (aX (aM (md rfl) dAll rfl T.z_all vR (ae (cx ["sign"] [] ⟨rfl,rfl,by decide +kernel,rfl,rfl,(by first | exact trivial | exact ⟨rfl,trivial⟩ | exact ⟨rfl,rfl,trivial⟩ | exact ⟨rfl,rfl,rfl,trivial⟩ | exact ⟨rfl,rfl,rfl,rfl,trivial⟩),rfl⟩ rfl (wK (aa 0)) (bE 0) (fun _ _ _ _=>⟨(bc (i:=0) (show List.Nodup (["sign"]:List Str) by decide +kernel) rfl (Or.inl rfl)),bS,(cF wq dInS (aa 0) (nE (i:="0123456789") rfl T.c_FIGURES) rfl)⟩)) aj))))))) (af (ax gR)) aB)
  (af (ax (ff (QW.qt (cn (aP lO dEqT (aa 0) bT (aE _)) (bz (aP pV dNeS (av rK dIxS (aa 0) ac (fun _ _=>rfl)) bT (aE _))))) (bO mH dIntS rfl T.z_int iT (ae (aa 0) aj)) gR)))),fun ds q h=>?_⟩
 case hl=>intro ds q h; obtain ⟨x,m,rfl,_⟩:=h; rfl
 obtain ⟨x,m,rfl,hm,hl,q0⟩:=h
 have no : ¬ gN m x→q .non []:=fun z=>by unfold qT at q0; rw [if_neg z] at q0; exact q0
 refine ⟨by omega,?_⟩
 refine (bA (c:=decide ((1:Int)≤(x.length:Int))=true) (fun c1=>?_) (fun c1=>?_))
 ·refine (bA (c:=(!decide ((x.length:Int)≤m))=true) (fun c2=>?_) (fun c2=>?_))
  ·refine no fun z=>?_
   have:=z.2.1
   simp at c2; omega
  ·refine ⟨by rw [qc]; show x.length≤1000; simp at c2; omega,?_⟩
   refine eA figD ?_ ?_
   ·intro d hd k hk
    obtain ⟨i,hi⟩:=List.getElem?_of_mem hd
    obtain ⟨c,_,rfl⟩:=tW hi
    exact hk
   rw [qS]
   refine ⟨_,rfl,?_⟩
   rw [o9]
   refine (bA (c:=(!decide (j6 x))=true) (fun c3=>?_) (fun c3=>?_))
   ·exact no fun z=>by simp at c3; exact c3 z.2.2.1
   ·have hd:j6 x:=by simpa using c3
    have x1 : 1≤x.length:=by simp at c1; omega
    have x2:(x.length:Int)≤m:=by simpa using c2
    have yes:gN m x→∃ n,intText? x=some n∧x.length≤640∧q (.int n) []:=fun z=>by
     unfold qT at q0; rw [if_pos z] at q0
     exact ⟨_,wL z hm,by omega,q0⟩
    refine (bA (c:=decide (x = "0")=true) (fun c4=>?_) (fun c4=>?_))
    ·exact yes ⟨x1,x2,hd,.inl (of_decide_eq_true c4)⟩
    ·obtain ⟨a,l,hal⟩:∃ a l,x.cps.toList=a :: l:=by
      cases hz:x.cps.toList with
      | nil=>unfold Str.length at x1; rw [← Array.length_toList,hz] at x1; exact absurd x1 (by decide)
      | cons a l=>exact ⟨a,l,rfl⟩
     refine ⟨by omega,a,by rw [hal]; exact d4 (xs:=a :: l) (j:=0) rfl,?_⟩
     refine (bA (c:=(!decide ((⟨#[a]⟩:Str) = "0"))=true) (fun c5=>?_) (fun c5=>?_))
     ·refine yes ⟨x1,x2,hd,.inr ?_⟩
      rw [hal]
      intro z
      have:a=48:=Option.some.inj z
      subst this
      exact absurd c5 (by decide +kernel)
     ·refine no fun z=>?_
      rcases z.2.2.2 with z | z
      ·exact c4 (decide_eq_true z)
      ·rw [hal] at z
       refine z (congrArg some ?_)
       have e:(⟨#[a]⟩:Str) = "0":=by simpa using c5
       exact (uZ a 48).mp e
 ·refine no fun z=>?_
  have:=z.1
  simp at c1; omega
theorem xj (T:Txt K mg A) (hB:TabB base mg A.tc A.tP tqS):FnOk P w K mg base CX0 2 A.f_q14 A.d_q14 ["thing"] (aQ [false] false (wN)):=by
 have S:=wd
 refine fnD T.t_q14.F S ⟨[false],[false,false,false],false⟩ _ ?hl rfl rfl fun cdv Ar outer s H E hr=>⟨_,(ad (aU (QW.qt (cn (aT (aX (cm rfl T.z_isinstance aK (aa 0) (bD (v:=.ty "tuple") rfl T.z_tuple fj rfl)))) (bz (aP (bU hr.units) dNe (aM aI eG rfl T.z_len bF (ae (aa 0) aj)) ac (aE _))))) (af (ax c_)) aB)
  (ad (du (aa 0) (b_ rfl (aD (az (i:=1) S.nd rfl (Or.inl rfl)) (aD (az (i:=2) S.nd rfl (Or.inl rfl)) bB)) (ao (ao aY))))
  (ad (aU (QW.qt (cn (aT (aX (ag (gW T hB) hr T.t_q35 (am (aa 1) ai)))) (bz (aT (aX (ag (gW T hB) hr T.t_q35 (am (aa 2) ai))))))) (af (ax c_)) aB)
  (af (ax (dG (cF op_ge dB (aa 2) ac (aE _)) (eM (cF (cV hr.units) dEq (ag (rc T hB) hr T.t_q0 (am (aa 1) (am (aa 2) ai))) ac (aE _))))))))),fun ds q h=>?_⟩
 case hl=>intro ds q h; obtain ⟨r,rfl,_⟩:=h; rfl
 obtain ⟨r,rfl,q0⟩:=h
 refine ⟨.int r.num,rfl,rfl,?_⟩
 refine ⟨.int r.den,rfl,rfl,?_⟩
 have hd:=bi r
 refine (bA (c:=decide ((1:Int)≤(r.den:Int))=true) (fun _=>?_) (fun c=>absurd (decide_eq_true (by omega)) c))
 refine ⟨r.num,r.den,rfl,Int.le_of_lt hd,?_⟩
 rw [sY r]
 exact q0
theorem eBl:Str.ofString " " = sBl:=by decide +kernel
theorem eSl:Str.ofString "/" = sSl:=by decide +kernel
theorem eNil:Str.ofString "" = Str.empty:=by decide +kernel
def mS:SpD:=fun ds q=>∃ x:Str,ds=[.str x]∧x.length≤100000∧q (.lst ((Txt.split x sBl).map D.str)) []
theorem qE (T:Txt K mg A) (hB:TabB base mg A.tc A.tP tqS):FnOk P w K mg base CX0 3 A.f_q38 A.d_q38 ["text"] (aQ [false] true (mS)):=by
 have S:=u9
 refine fnD T.t_q38.F S ⟨[false],[false],true⟩ _ ?hl rfl rfl fun cdv Ar outer s H E hr=>⟨_,(ad (aU (aT (aX (cm rfl T.z_isinstance aK (aa 0) (bD (v:=.ty "str") rfl T.z_str dz rfl)))) (af bf) aB)
  (af (bh (QF.qm (oR (aa 0) bT))))),fun ds q h=>?_⟩
 case hl=>intro ds q h; obtain ⟨x,rfl,_⟩:=h; rfl
 obtain ⟨x,rfl,hl,q0⟩:=h
 rw [← eBl] at q0
 exact ⟨⟨by decide +kernel,hl⟩,q0⟩
def nr:SpD:=fun ds q=>∃ n:Int,ds=[.str (shN n)]∧0≤n∧n<10 ^ 70∧q (.int n) []
theorem iN (T:Txt K mg A) (hB:TabB base mg A.tc A.tP tqS):FnOk P w K mg base CX0 3 A.f_q15 A.d_q15 ["word"] (aQ [false] false (nr)):=by
 have S:=uD
 refine fnD T.t_q15.F S ⟨[false],[false,false],false⟩ _ ?hl rfl rfl fun cdv Ar outer s H E hr=>⟨_,(ad (aS (i:=1) S.nd rfl (Or.inl rfl) (ag (wG T hB) hr T.t_q37 (am (aa 0) (am (cT (i:=70) rfl T.c_MOST_FIGURES) ai))))
  (ad (aU (aP uI dIsN (aa 1) gR (aE _)) (af bf) aB)
  (af (ax (aa 1))))),fun ds q h=>?_⟩
 case hl=>intro ds q h; obtain ⟨n,rfl,_⟩:=h; rfl
 obtain ⟨n,rfl,h0,h1,q0⟩:=h
 have hl:=dt h0 (k:=70) (by decide) h1
 refine ⟨shN n,70,rfl,by decide,by omega,?_⟩
 rw [sr h0 (by omega)]
 exact q0
def nD:SpD:=fun ds q=>∃ r:Rat,ds=[.str (prW r)]∧PrT r∧q (dQ r) []
theorem xf (T:Txt K mg A) (hB:TabB base mg A.tc A.tP tqS):FnOk P w K mg base CX0 4 A.f_q23 A.d_q23 ["word"] (aQ [false] false (nD)):=by
 have S:=uX
 refine fnD T.t_q23.F S ⟨[false],[false,false,false,false,false],false⟩ _ ?hl rfl rfl fun cdv Ar outer s H E hr=>⟨_,(ad (du (sB (aa 0) bT) (b_ rfl (aD (az (i:=1) S.nd rfl (Or.inl rfl)) (aD (az (i:=2) S.nd rfl (Or.inl rfl)) (aD (az (i:=3) S.nd rfl (Or.inl rfl)) bB))) (ao (ao (ao aY)))))
  (ad (aU (aP lO dEqT (aa 2) bT (aE _)) (af (ax (bq (ae (ag (iN T hB) hr T.t_q15 (am (aa 1) ai)) (ae ac aj))))) aB)
  (ad (aS (i:=4) S.nd rfl (Or.inl rfl) (bq (ae (ag (iN T hB) hr T.t_q15 (am (aa 1) ai)) (ae (ag (iN T hB) hr T.t_q15 (am (aa 3) ai)) aj))))
  (ad (aU (QW.qt (cn (aP (cV hr.units) dEq (av ap dIx (aa 4) ac (fun _ _=>rfl)) ac (aE _)) (bz (aT (aX (ag (xj T hB) hr T.t_q14 (am (aa 4) ai))))))) (af bf) aB)
  (af (ax (aa 4))))))),fun ds q h=>?_⟩
 case hl=>intro ds q h; obtain ⟨r,rfl,_⟩:=h; rfl
 obtain ⟨r,rfl,h,q0⟩:=h
 have hl:=iw h
 have hp:=rN h
 have hd:=bi r
 refine ⟨⟨by decide +kernel,by omega⟩,?_⟩
 rw [eSl,hp]
 by_cases c:r.den=1
 ·rw [if_pos c]
  refine ⟨r.num,rfl,h.n0,h.num,?_⟩
  have e:dQ r = .tup [.int r.num,.int 1]:=by unfold dQ; rw [c]; rfl
  rw [e] at q0
  exact q0
 ·rw [if_neg c]
  refine ⟨r.num,rfl,h.n0,h.num,?_⟩
  refine ⟨(r.den:Int),rfl,by omega,h.den,?_⟩
  refine (bA (c:=decide ((r.den:Int)=1)=true) (fun c2=>absurd (of_decide_eq_true c2) (by omega)) (fun _=>?_))
  refine ⟨r,rfl,?_⟩
  exact q0
structure PrsT (l:List Rat):Prop where
 ne:l≠[]
 len:l.length≤60
 ok:∀ r∈l,PrT r
abbrev jC (l:List Rat):Str:=Txt.join sBl (l.map prW)
def mw:SpD:=fun ds q=>∃ l:List Rat,ds=[.str (jC l)]∧PrsT l∧q (dQs l) []
theorem oz (T:Txt K mg A) (hB:TabB base mg A.tc A.tP tqS):FnOk P w K mg base CX0 5 A.f_q16 A.d_q16 ["text"] (aQ [false] true (mw)):=by
 have S:=vG
 refine fnD T.t_q16.F S ⟨[false],[false],true⟩ _ ?hl rfl rfl fun cdv Ar outer s H E hr=>⟨_,(af (bh (QF.qm (iE ["word"] [] ⟨rfl,rfl,by decide +kernel,rfl,rfl,(by first | exact trivial | exact ⟨rfl,trivial⟩ | exact ⟨rfl,rfl,trivial⟩ | exact ⟨rfl,rfl,rfl,trivial⟩ | exact ⟨rfl,rfl,rfl,rfl,trivial⟩),rfl⟩ rfl (bd (QF.qe (aO (qE T hB) hr T.t_q38 (am (aa 0) ai)))) (bE 0) (fun _ _ _ _=>⟨(bc (i:=0) (show List.Nodup (["word"]:List Str) by decide +kernel) rfl (Or.inl rfl)),bS,(ag (xf T hB) hr T.t_q23 (am (aa 0) ai))⟩))))),fun ds q h=>?_⟩
 case hl=>intro ds q h; obtain ⟨l,rfl,_⟩:=h; rfl
 obtain ⟨l,rfl,h,q0⟩:=h
 have hl:=h.len
 refine ⟨_,rfl,Nat.le_trans (tz h.len h.ok) (by decide),?_⟩
 rw [ng h.ne h.ok,List.map_map]
 refine ⟨by rw [List.length_map]; omega,?_⟩
 refine cR (l:=l) (fun r=>D.str (prW r)) dQ ?_ ?_
 ·intro r hr k hk
  exact ⟨r,rfl,h.ok r hr,hk⟩
 exact ⟨cP _,q0⟩
structure NnsT (l:List Int):Prop where
 len:l.length≤60
 ok:∀ n∈l,0≤n∧n<10 ^ 70
 up:l.Pairwise (· < ·)
def f7 (l:List Int):Str:=if l=[] then Str.ofString "-" else Txt.join sBl (l.map shN)
def mx:SpD:=fun ds q=>∃ l:List Int,ds=[.str (f7 l)]∧NnsT l∧q (au l) []
theorem rH (T:Txt K mg A) (hB:TabB base mg A.tc A.tP tqS):FnOk P w K mg base CX0 4 A.f_q10 A.d_q10 ["text"] (aQ [false] true (mx)):=by
 have S:=wj
 refine fnD T.t_q10.F S ⟨[false],[false,false,true,false,false],true⟩ _ ?hl rfl rfl fun cdv Ar outer s H E hr=>⟨_,(ad (aS (i:=1) S.nd rfl (Or.inl rfl) (QF.qe (aO (qE T hB) hr T.t_q38 (am (aa 0) ai))))
  (ad (aU (aP (cV hr.units) dEq (aa 1) (bI (ae bT aj)) (aE _)) (af (bh (QF.qm (dO aj)))) aB)
  (ad (jl (i:=2) ["word"] [] ⟨rfl,rfl,by decide +kernel,rfl,rfl,(by first | exact trivial | exact ⟨rfl,trivial⟩ | exact ⟨rfl,rfl,trivial⟩ | exact ⟨rfl,rfl,rfl,trivial⟩ | exact ⟨rfl,rfl,rfl,rfl,trivial⟩),rfl⟩ rfl S.nd rfl (Or.inl rfl) (bd (aa 1)) (bE 0) (fun _ _ _ _=>⟨(bc (i:=0) (show List.Nodup (["word"]:List Str) by decide +kernel) rfl (Or.inl rfl)),bS,(ag (iN T hB) hr T.t_q15 (am (aa 0) ai))⟩))
  (ad (ur [2] [true,true,true,false,false] (ca PassesOwn.never rfl (xb rfl T.z_zip (ae (aa 2) (ae (rz (aa 2) (r9 ac) tj) aj))) (b_ rfl (aD (az (i:=3) S.nd rfl (Or.inl rfl)) (aD (az (i:=4) S.nd rfl (Or.inl rfl)) bB)) (ao (ao aY))) (af (aU (aP gF dB (aa 4) (aa 3) (aE _)) (af bf) aB))))
  (af (bh (cz 2))))))),fun ds q h=>?_⟩
 case hl=>intro ds q h; obtain ⟨l,rfl,_⟩:=h; rfl
 obtain ⟨l,rfl,h,q0⟩:=h
 have hl:=h.len
 have htl:(f7 l).length≤100000:=by
  unfold f7
  split
  ·exact (by decide +kernel:(Str.ofString "-").length≤100000)
  ·exact Nat.le_trans (tu h.len h.ok) (by decide)
 refine ⟨_,rfl,htl,?_⟩
 obtain ⟨ws,hws⟩:∃ ws,ws=Txt.split (f7 l) sBl:=⟨_,rfl⟩
 have e1:l=[]→ws=[Str.ofString "-"]:=fun e=>by
  rw [hws,e]
  show Txt.split (Str.ofString "-") sBl=_
  have:=eJ (c:=32) (p:=[Str.ofString "-"]) (by decide) (fun x hx=>by rw [List.mem_singleton.mp hx]; decide +kernel)
  exact this
 have e2:l≠[]→ws=l.map shN:=fun e=>by
  rw [hws]
  unfold f7
  rw [if_neg e]
  exact nq e fun n hn=>(h.ok n hn).1
 have hok:∀ x∈ws,lT x:=by
  by_cases e:l=[]
  ·rw [e1 e]; intro x hx; rw [List.mem_singleton.mp hx]; exact fun c hc=>(by revert c; decide +kernel)
  ·rw [e2 e]
   intro x hx
   obtain ⟨n,hn,rfl⟩:=List.mem_map.mp hx
   exact tN (cW (h.ok n hn).1)
 rw [← hws]
 clear hws
 refine ⟨jM hok,jM (l:=[Str.ofString "-"]) (fun x hx=>by rw [List.mem_singleton.mp hx]; exact fun c hc=>(by revert c; decide +kernel)),?_⟩
 have ee:eqD (.lst (ws.map D.str)) (.lst [.str (Str.ofString "-")])=decide (ws=[Str.ofString "-"]):=ra ws [Str.ofString "-"]
 refine (bA (c:=eqD (.lst (ws.map D.str)) (.lst [.str (Str.ofString "-")])=true) (fun c=>?_) (fun c=>?_))
 ·rw [ee,decide_eq_true_iff] at c
  have hn:l=[]:=by
   by_cases e:l=[]
   ·exact e
   ·exfalso
    rw [e2 e] at c
    obtain ⟨n,r,e3⟩:=List.exists_cons_of_ne_nil e
    rw [e3,List.map_cons] at c
    have c1:=(List.cons.inj c).1
    have hd:=cW (h.ok n (by rw [e3]; exact .head _)).1
    rw [c1] at hd
    have:=hd 45 (by decide +kernel)
    omega
  rw [hn] at q0
  exact ⟨rfl,q0⟩
 ·have hn:l≠[]:=fun e=>by rw [ee,e1 e] at c; exact c (decide_eq_true rfl)
  rw [e2 hn]
  refine ⟨by rw [List.length_map,List.length_map]; omega,?_⟩
  rw [List.map_map]
  refine cR (l:=l) (fun n=>D.str (shN n)) D.int ?_ ?_
  ·intro n hn k hk
   exact ⟨n,rfl,(h.ok n hn).1,(h.ok n hn).2,hk⟩
  refine ⟨cN _,?_⟩
  have ec:gX (l.map D.int) (some 1) none=(l.drop 1).map D.int:=by rw [mP (by decide),List.map_drop]; rfl
  refine ⟨trivial,?_⟩
  refine ⟨fun j ρ=>∃ v3 v4,ρ=[some (.str (f7 l)),some (.lst (l.map (D.str ∘ shN))),some (au l),v3,v4]∧(∀ d,v3=some d→imm d=true)∧(∀ d,v4=some d→imm d=true),⟨_,_,rfl,(by intro d e; cases e),(by intro d e; cases e)⟩,?_,?_⟩
  ·rintro j d ρ hd ⟨v3,v4,rfl,_,_⟩
   rw [ec] at hd
   obtain ⟨x',y',hx,hy,rfl⟩:=lI hd
   obtain ⟨x,hx1,rfl⟩:=dE hx
   obtain ⟨y,hy1,rfl⟩:=dE hy
   have hlt:x<y:=by
    rw [List.getElem?_drop] at hy1
    obtain ⟨hx2,hx3⟩:=List.getElem?_eq_some_iff.mp hx1
    obtain ⟨hy2,hy3⟩:=List.getElem?_eq_some_iff.mp hy1
    have:=List.pairwise_iff_getElem.mp h.up j (1 + j) hx2 hy2 (by omega)
    rw [hx3,hy3] at this; exact this
   refine (bA (c:=decide (y≤x)=true) (fun c=>absurd (of_decide_eq_true c) (by omega)) (fun c=>?_))
   exact ⟨_,_,rfl,(by intro d e; cases e; rfl),(by intro d e; cases e; rfl)⟩
  ·rintro ρ ⟨v3,v4,rfl,h3,h4⟩
   exact ⟨⟨rfl,rfl,rfl,h3,h4,trivial⟩,q0⟩
def rm:SpD:=fun ds q=>∃ r:Rat,ds=[dQ r]∧PrT r∧q (.str (prW r)) []
theorem vC (T:Txt K mg A) (hB:TabB base mg A.tc A.tP tqS):FnOk P w K mg base CX0 1 A.f_q24 A.d_q24 ["price"] (aQ [false] false (rm)):=by
 have S:=vx
 refine fnD T.t_q24.F S ⟨[false],[false,false,false],false⟩ _ ?hl rfl rfl fun cdv Ar outer s H E hr=>⟨_,(ad (du (aa 0) (b_ rfl (aD (az (i:=1) S.nd rfl (Or.inl rfl)) (aD (az (i:=2) S.nd rfl (Or.inl rfl)) bB)) (ao (ao aY))))
  (af (ax (ff (aP (cV hr.units) dEq (aa 2) ac (aE _)) (bO bQ hZ rfl T.z_str dz (ae (aa 1) aj)) (qe_fs (lW 1 (sH (lW 2 sN)))))))),fun ds q h=>?_⟩
 case hl=>intro ds q h; obtain ⟨r,rfl,_⟩:=h; rfl
 obtain ⟨r,rfl,h,q0⟩:=h
 have hl:=fL h.n0 h.num
 have hl2:=fL (n:=(r.den:Int)) (by omega) h.den
 unfold prW at q0
 refine (bA (c:=decide ((r.den:Int)=1)=true) (fun c=>?_) (fun c=>?_))
 ·have c:=of_decide_eq_true c
  rw [if_pos (by omega)] at q0
  exact ⟨hl,q0⟩
 ·have c : ¬ (r.den:Int)=1:=fun z=>c (decide_eq_true z)
  rw [if_neg (by omega)] at q0
  refine ⟨_,jF rfl hl (oO (jF rfl hl2 pZ)),?_⟩
  rw [db,eSl,← Str.append_assoc]
  exact q0
def l9:SpD:=fun ds q=>∃ l:List Rat,ds=[dQs l]∧PrsT l∧q (.str (jC l)) []
theorem kJ (T:Txt K mg A) (hB:TabB base mg A.tc A.tP tqS):FnOk P w K mg base CX0 2 A.f_q17 A.d_q17 ["prices"] (aQ [false] false (l9)):=by
 have S:=xh
 refine fnD T.t_q17.F S ⟨[false],[false],false⟩ _ ?hl rfl rfl fun cdv Ar outer s H E hr=>⟨_,(af (ax (fk bT (cx ["price"] [] ⟨rfl,rfl,by decide +kernel,rfl,rfl,(by first | exact trivial | exact ⟨rfl,trivial⟩ | exact ⟨rfl,rfl,trivial⟩ | exact ⟨rfl,rfl,rfl,trivial⟩ | exact ⟨rfl,rfl,rfl,rfl,trivial⟩),rfl⟩ rfl (bd (aa 0)) (bE 0) (fun _ _ _ _=>⟨(bc (i:=0) (show List.Nodup (["price"]:List Str) by decide +kernel) rfl (Or.inl rfl)),bS,(ag (vC T hB) hr T.t_q24 (am (aa 0) ai))⟩))))),fun ds q h=>?_⟩
 case hl=>intro ds q h; obtain ⟨l,rfl,_⟩:=h; rfl
 obtain ⟨l,rfl,h,q0⟩:=h
 have hl:=h.len
 refine ⟨by rw [List.length_map]; omega,?_⟩
 refine cR (l:=l) dQ (fun r=>D.str (prW r)) ?_ ?_
 ·intro r hr k hk
  exact ⟨r,rfl,h.ok r hr,hk⟩
 rw [eBl]
 exact ⟨l.map prW,by rw [List.map_map]; rfl,kS h.len h.ok,q0⟩
def mG:SpD:=fun ds q=>∃ l:List Int,ds=[au l]∧NnsT l∧q (.str (f7 l)) []
theorem vb (T:Txt K mg A) (hB:TabB base mg A.tc A.tP tqS):FnOk P w K mg base CX0 1 A.f_q11 A.d_q11 ["numbers"] (aQ [false] false (mG)):=by
 have S:=uu
 refine fnD T.t_q11.F S ⟨[false],[false],false⟩ _ ?hl rfl rfl fun cdv Ar outer s H E hr=>⟨_,(af (ax (ff (jy (aa 0)) (fk bT (cx ["number"] [] ⟨rfl,rfl,by decide +kernel,rfl,rfl,(by first | exact trivial | exact ⟨rfl,trivial⟩ | exact ⟨rfl,rfl,trivial⟩ | exact ⟨rfl,rfl,rfl,trivial⟩ | exact ⟨rfl,rfl,rfl,rfl,trivial⟩),rfl⟩ rfl (bd (aa 0)) (bE 0) (fun _ _ _ _=>⟨(bc (i:=0) (show List.Nodup (["number"]:List Str) by decide +kernel) rfl (Or.inl rfl)),bS,(bO bQ hZ rfl T.z_str dz (ae (aa 0) aj))⟩))) bT))),fun ds q h=>?_⟩
 case hl=>intro ds q h; obtain ⟨l,rfl,_⟩:=h; rfl
 obtain ⟨l,rfl,h,q0⟩:=h
 have hl:=h.len
 unfold f7 at q0
 by_cases e:l=[]
 ·subst e
  exact q0
 ·rw [if_neg e] at q0
  obtain ⟨n,r,e3⟩:=List.exists_cons_of_ne_nil e
  refine (bA (c:=(!(l.map D.int).isEmpty)=true) (fun _=>?_) (fun c=>absurd (by rw [e3]; rfl) c))
  refine ⟨by rw [List.length_map]; omega,?_⟩
  refine cR (l:=l) D.int (fun n=>D.str (shN n)) ?_ ?_
  ·intro n hn k hk
   exact ⟨fL (h.ok n hn).1 (h.ok n hn).2,hk⟩
  rw [eBl]
  exact ⟨l.map shN,by rw [List.map_map]; rfl,rA h.len h.ok,q0⟩
end
end K80
namespace K80
open PySem L2
section
variable {P:Program} {w:World} {K:PySem.W.Frag} {mg:Str→Option Value} {base:Heap} {A:Adr}
theorem sL {t b:Int} (t0 : 0≤t) (t1:t<10 ^ 55) (b0 : 0<b) (b1:b≤10 ^ 55):PrT (Rat.divInt t b):=by
 obtain ⟨h1,h2⟩:=ip (t:=t) b0
 have hp : 0≤Rat.divInt t b:=Rat.divInt_nonneg t0 (Int.le_of_lt b0)
 have hn:=Rat.num_nonneg.mpr hp
 have e1:(10:Int) ^ 55<10 ^ 70:=by decide
 exact ⟨hp,by omega,by omega⟩
def mW:SpD:=fun ds q=>∃ c m,ds=[au [c,m]]∧0≤c∧∀ r c' m',PrT r→0≤c'→q (dQ r) [some (au [c',m'])]
theorem vq (T:Txt K mg A) (hB:TabB base mg A.tc A.tP tqS):FnOk P w K mg base CX0 3 A.f_q41 A.d_q41 ["_law_pool_here"] (aQ [true] false (mW)):=by
 have S:=wE
 refine fnD T.t_q41.F S ⟨[true],[true,false],false⟩ _ ?hl rfl rfl fun cdv Ar outer s H E hr=>⟨_,(ad (aS (i:=1) S.nd rfl (Or.inl rfl) (ag (dP T hB) hr T.t_q50 (fE 0 (am (av ap dIx (bI (ae ac (ae ac (ae (ay eN dIC ac ac) (ae (ay eN dIC ac ac) aj))))) (ag (dP T hB) hr T.t_q50 (fE 0 (am ac ai))) (fun _ _=>rfl)) ai))))
  (af (ax (ag (uh T hB) hr T.t_q57 (am (aa 1) (am (ay cr dI ac (ag (dP T hB) hr T.t_q50 (fE 0 (am (av ap dIx (bI (ae ac (ae ac (ae ac (ae (ay eN dIC ac ac) aj))))) (ag (dP T hB) hr T.t_q50 (fE 0 (am ac ai))) (fun _ _=>rfl)) ai)))) ai)))))),fun ds q h=>?_⟩
 case hl=>intro ds q h; obtain ⟨c,m,rfl,_⟩:=h; rfl
 obtain ⟨c,m,rfl,h0,q0⟩:=h
 refine ⟨⟨by decide,by decide,by decide⟩,⟨by decide,by decide,by decide⟩,?_⟩
 refine ⟨c,m,4,rfl,h0,by decide,eT (n:=4) (by decide) (by decide +kernel),fun r1 c1 m1 a0 a1 h1=>?_⟩
 have s1:∃ z:Int,atI [D.int 1,.int 10,.int (10 ^ 6),.int (10 ^ 55)] r1=some (.int z)∧0<z∧z≤10 ^ 55:=by
  rcases (by omega:r1=0∨r1=1∨r1=2∨r1=3) with rfl | rfl | rfl | rfl
  ·exact ⟨_,rfl,by decide,by decide⟩
  ·exact ⟨_,rfl,by decide,by decide⟩
  ·exact ⟨_,rfl,by decide,by decide⟩
  ·exact ⟨_,rfl,by decide,by decide⟩
 obtain ⟨z,ez,z0,z1⟩:=s1
 refine bn ez ?_
 refine ⟨c1,m1,z,rfl,h1,z0,eT (n:=10 ^ 55) (by omega) (by decide +kernel),fun t c2 m2 t0 t1 h2=>?_⟩
 refine ⟨⟨by decide,by decide,by decide⟩,?_⟩
 refine ⟨c2,m2,4,rfl,h2,by decide,eT (n:=4) (by decide) (by decide +kernel),fun r2 c3 m3 b0 b1 h3=>?_⟩
 have s2:∃ z:Int,atI [D.int 1,.int 4,.int 60,.int (10 ^ 55)] r2=some (.int z)∧0<z∧z≤10 ^ 55:=by
  rcases (by omega:r2=0∨r2=1∨r2=2∨r2=3) with rfl | rfl | rfl | rfl
  ·exact ⟨_,rfl,by decide,by decide⟩
  ·exact ⟨_,rfl,by decide,by decide⟩
  ·exact ⟨_,rfl,by decide,by decide⟩
  ·exact ⟨_,rfl,by decide,by decide⟩
 obtain ⟨z',ez',z0',z1'⟩:=s2
 refine bn ez' ?_
 refine ⟨c3,m3,z',rfl,h3,z0',eT (n:=10 ^ 55) (by omega) (by decide +kernel),fun b c4 m4 b0 b1 h4=>?_⟩
 refine ⟨t,1 + b,rfl,by omega,eT (n:=10 ^ 55) (by omega) (by decide +kernel),?_⟩
 exact q0 _ c4 m4 (sL t0 (by omega) (by omega) (by omega)) h4
def oA:SpD:=fun ds q=>∃ r:Rat,ds=[dQ r]∧PrT r∧q (.str (prW r)) []
theorem o6 (T:Txt K mg A) (hB:TabB base mg A.tc A.tP tqS):FnOk P w K mg base CX0 1 A.f_q51 A.d_q51 ["_law_one"] (aQ [false] false (oA)):=by
 have S:=vW
 refine fnD T.t_q51.F S ⟨[false],[false],false⟩ _ ?hl rfl rfl fun cdv Ar outer s H E hr=>⟨_,(ad (aU (aP (cV hr.units) dEq (av ap dIx (aa 0) ac (fun _ _=>rfl)) ac (aE _)) (af (ax (bO bQ hZ rfl T.z_str dz (ae (av ap dIx (aa 0) ac (fun _ _=>rfl)) aj)))) aB)
  (af (ax (ay ly tX (ay ly tX (bO bQ hZ rfl T.z_str dz (ae (av ap dIx (aa 0) ac (fun _ _=>rfl)) aj)) bT) (bO bQ hZ rfl T.z_str dz (ae (av ap dIx (aa 0) ac (fun _ _=>rfl)) aj)))))),fun ds q h=>?_⟩
 case hl=>intro ds q h; obtain ⟨r,rfl,_⟩:=h; rfl
 obtain ⟨r,rfl,h,q0⟩:=h
 have hl:=fL h.n0 h.num
 have hl2:=fL (n:=(r.den:Int)) (by omega) h.den
 unfold prW at q0
 refine (bA (c:=decide ((r.den:Int)=1)=true) (fun c=>?_) (fun c=>?_))
 ·have c:=of_decide_eq_true c
  rw [if_pos (by omega)] at q0
  exact ⟨hl,q0⟩
 ·have c : ¬ (r.den:Int)=1:=fun z=>c (decide_eq_true z)
  rw [if_neg (by omega)] at q0
  refine ⟨hl,?_⟩
  have n1:=dt h.n0 (k:=70) (by decide) h.num
  have n2:=dt (n:=(r.den:Int)) (by omega) (k:=70) (by decide) h.den
  rw [← eSl] at q0
  have n3:(Str.ofString "/").length=1:=by decide +kernel
  refine ⟨by show (shN r.num).length + _≤_; omega,?_⟩
  refine ⟨hl2,?_⟩
  refine ⟨by show (shN r.num++Str.ofString "/").length + (shN (r.den:Int)).length≤_; rw [d3]; omega,?_⟩
  exact q0
def ph:SpD:=fun ds q=>∃ c m,ds=[au [c,m]]∧0≤c∧∀ l c' m',NnsT l→0≤c'→q (au l) [some (au [c',m'])]
theorem wf (T:Txt K mg A) (hB:TabB base mg A.tc A.tP tqS):FnOk P w K mg base CX0 2 A.f_q27 A.d_q27 ["_law_pool_here"] (aQ [true] true (ph)):=by
 have S:=wk
 refine fnD T.t_q27.F S ⟨[true],[true,true,false,false,false],true⟩ _ ?hl rfl rfl fun cdv Ar outer s H E hr=>⟨_,(ad (ci (i:=1) S.nd rfl (Or.inl rfl) (dO aj))
  (ad (aS (i:=2) S.nd rfl (Or.inl rfl) ac)
  (ad (aS (i:=3) S.nd rfl (Or.inl rfl) (av ap dIx (bI (ae ac (ae ac (ae (ay eN dIC ac ac) aj)))) (ag (dP T hB) hr T.t_q50 (fE 0 (am ac ai))) (fun _ _=>rfl)))
  (ad (ca PassesOwn.never rfl (em rfl T.z_range (ae (ag (dP T hB) hr T.t_q50 (fE 0 (am ac ai))) aj)) (az (i:=4) S.nd rfl (Or.inl rfl)) (ad (aS (i:=2) S.nd rfl (Or.inl rfl) (ay cr dI (ay cr dI (aa 2) ac) (ag (dP T hB) hr T.t_q50 (fE 0 (am (aa 3) ai)))))
  (af (cM (i:=1) rfl (QE.qf (ay dc dI (aa 2) ac))))))
  (af (bh (cz 1))))))),fun ds q h=>?_⟩
 case hl=>intro ds q h; obtain ⟨c,m,rfl,_⟩:=h; rfl
 obtain ⟨c,m,rfl,h0,q0⟩:=h
 refine ⟨rfl,?_⟩
 refine ⟨⟨by decide,by decide,by decide⟩,?_⟩
 refine ⟨c,m,3,rfl,h0,by decide,eT (n:=4) (by decide) (by decide +kernel),fun r1 c1 m1 a0 a1 h1=>?_⟩
 have s1:∃ z:Int,atI [D.int 1,.int 30,.int (10 ^ 18)] r1=some (.int z)∧0<z∧z≤10 ^ 18:=by
  rcases (by omega:r1=0∨r1=1∨r1=2) with rfl | rfl | rfl
  ·exact ⟨_,rfl,by decide,by decide⟩
  ·exact ⟨_,rfl,by decide,by decide⟩
  ·exact ⟨_,rfl,by decide,by decide⟩
 obtain ⟨z,ez,z0,z1⟩:=s1
 refine bn ez ?_
 refine ⟨c1,m1,31,rfl,h1,by decide,eT (n:=31) (by decide) (by decide +kernel),fun r2 c2 m2 b0 b1 h2=>?_⟩
 refine ⟨⟨by omega,by omega⟩,?_⟩
 refine ⟨fun i ρ=>∃ (c m n:Int) (l:List Int) (v4:Option D),ρ=[some (au [c,m]),some (au l),some (.int n),some (.int z),v4]∧0≤c∧l.length=i∧0≤n∧n≤(i:Int) * 10 ^ 18∧(∀ x∈l,0≤x∧x<n)∧l.Pairwise (· < ·),⟨c2,m2,0,[],_,rfl,h2,rfl,by decide,by decide,fun x hx=>(by cases hx),List.Pairwise.nil⟩,?_,?_⟩
 ·rintro i d ρ hd ⟨c,m,n,l,v4,rfl,h0,hl,n0,n1,hb,hp⟩
  obtain ⟨hi2,rfl⟩:=f9 hd
  have hi3:i<31:=by omega
  refine ⟨c,m,z,rfl,h0,z0,eT (n:=10 ^ 18) (by omega) (by decide +kernel),fun r c3 m3 r0 r1 h3=>?_⟩
  refine ⟨rfl,by rw [aL]; omega,?_⟩
  refine ⟨c3,m3,n + 1 + r,l++[n + 1 + r - 1],_,by rw [← d5]; rfl,h3,by rw [List.length_append,hl]; rfl,by omega,?_,fun x hx=>?_,?_⟩
  ·have e:(((i + 1:Nat):Int)) * 10 ^ 18=(i:Int) * 10 ^ 18 + 10 ^ 18:=by rw [Int.natCast_add,Int.add_mul]; rfl
   omega
  ·rcases List.mem_append.mp hx with hx | hx
   ·have:=hb x hx; omega
   ·rw [List.mem_singleton.mp hx]; omega
  ·rw [List.pairwise_append]
   exact ⟨hp,List.pairwise_singleton _ _,fun x hx y hy=>by rw [List.mem_singleton.mp hy]; have:=hb x hx; omega⟩
 ·rintro ρ ⟨c,m,n,l,v4,rfl,h0,hl,n0,n1,hb,hp⟩
  rw [eX] at hl n1
  refine q0 l c m ⟨by omega,fun x hx=>?_,hp⟩ h0
  have:=hb x hx
  have e:(10:Int) ^ 18 * 31<10 ^ 70:=by decide
  omega
theorem wY (ds:List D) {f:D→Option D} (h:∀ d∈ds,f d=none):ds.filterMap f=[]:=by
 rw [List.filterMap_eq_nil_iff]; exact h
theorem kA (l:List Rat):eqD (dQs l) (dQs l)=true:=gH 2 _ (l4 l)
def r53:Rat:=⟨5,3,by decide,by decide⟩
theorem vp:PrT r53:=⟨by decide,by decide,by decide⟩
def lf:SpD:=fun ds q=>∃ l:List Rat,ds=[dQs l]∧PrsT l∧∀ o,q (.bl true) [o]
theorem q_ (T:Txt K mg A) (hB:TabB base mg A.tc A.tP tqS):FnOk P w K mg base CX0 6 A.f_q3 A.d_q3 ["_law_prices"] (aQ [true] false (lf)):=by
 have S:=sc_q3
 refine fnD T.t_q3.F S ⟨[true],[true,false,false,true],false⟩ _ ?hl rfl rfl fun cdv Ar outer s H E hr=>⟨_,(ad (aS (i:=1) S.nd rfl (Or.inl rfl) (QF.qe (QF.bor [0] (g8 dA pK rfl T.z_list c9 (ae (aa 0) aj)))))
  (ad (aS (i:=2) S.nd rfl (Or.inl rfl) (QE.bor [0] (ag (kJ T hB) hr T.t_q17 (am (aa 0) ai))))
  (ad (aU (QT.bor [0] (QW.qt (cn (aT (aX (cm rfl T.z_isinstance aK (aa 2) (bD (v:=.ty "str") rfl T.z_str dz rfl)))) (bz (aP pV dNeS (aa 2) (fk bT (cx ["_law_one"] [] ⟨rfl,rfl,by decide +kernel,rfl,rfl,(by first | exact trivial | exact ⟨rfl,trivial⟩ | exact ⟨rfl,rfl,trivial⟩ | exact ⟨rfl,rfl,rfl,trivial⟩ | exact ⟨rfl,rfl,rfl,rfl,trivial⟩),rfl⟩ rfl (bd (aa 0)) (bE 0) (fun _ _ _ _=>⟨(bc (i:=0) (show List.Nodup (["_law_one"]:List Str) by decide +kernel) rfl (Or.inl rfl)),bS,(ag (o6 T hB) hr T.t_q51 (am (aa 0) ai))⟩))) (aE _)))))) (af (ax c_)) aB)
  (ad (ci (i:=3) S.nd rfl (Or.inl rfl) (aO (oz T hB) hr T.t_q16 (am (aa 2) ai)))
  (ad (aU (QT.bor [3] (QW.qt (cn (aT (aX (cm rfl T.z_isinstance aK (aa 3) (bD (v:=.ty "list") rfl T.z_list c9 rfl)))) (bz (aP (bU hr.units) dNe (aa 3) (aa 1) (aE _)))))) (af (ax c_)) aB)
  (ad (aU (QT.bor [3] (aP (bU hr.units) dNe (cx ["_law_one"] [] ⟨rfl,rfl,by decide +kernel,rfl,rfl,(by first | exact trivial | exact ⟨rfl,trivial⟩ | exact ⟨rfl,rfl,trivial⟩ | exact ⟨rfl,rfl,rfl,trivial⟩ | exact ⟨rfl,rfl,rfl,rfl,trivial⟩),rfl⟩ rfl (bd (aa 3)) (bE 0) (fun _ _ _ _=>⟨(bc (i:=0) (show List.Nodup (["_law_one"]:List Str) by decide +kernel) rfl (Or.inl rfl)),(jc (aT (aX (cm rfl T.z_isinstance aK (aa 0) (bD (v:=.ty "tuple") rfl T.z_tuple fj rfl))))),(aa 0)⟩)) (bI aj) (aE _))) (af (ax c_)) aB)
  (ad (qk (i:=3) rfl)
  (ad (aU (QT.bor [0] (QW.qt (cn (aP (bU hr.units) dNe (QF.qe (aO (oz T hB) hr T.t_q16 (am (aa 2) ai))) (aa 1) (aE _)) (bz (aP (bU hr.units) dNe (aa 0) (aa 1) (aE _)))))) (af (ax c_)) aB)
  (ad (e7 (i:=0) rfl (QE.qf (bq (ae ac (ae ac aj)))) ac)
  (af (ax (QE.bor [0] (cF lO dEqT (ag (kJ T hB) hr T.t_q17 (am (aa 0) ai)) (fk bT (cx ["_law_one"] [] ⟨rfl,rfl,by decide +kernel,rfl,rfl,(by first | exact trivial | exact ⟨rfl,trivial⟩ | exact ⟨rfl,rfl,trivial⟩ | exact ⟨rfl,rfl,rfl,trivial⟩ | exact ⟨rfl,rfl,rfl,rfl,trivial⟩),rfl⟩ rfl (bd (aa 0)) (bE 0) (fun _ _ _ _=>⟨(bc (i:=0) (show List.Nodup (["_law_one"]:List Str) by decide +kernel) rfl (Or.inl rfl)),bS,(ag (o6 T hB) hr T.t_q51 (am (aa 0) ai))⟩))) (aE _)))))))))))))),fun ds q h=>?_⟩
 case hl=>intro ds q h; obtain ⟨l,rfl,_⟩:=h; rfl
 obtain ⟨l,rfl,h,q0⟩:=h
 have hl:=h.len
 have imq:∀ l:List Rat,imms (l.map dQ)=true:=cP
 refine ⟨cP _,?_⟩
 refine ⟨l,rfl,h,rfl,?_⟩
 refine ⟨by rw [List.length_map]; omega,?_⟩
 refine cR (l:=l) dQ (fun r=>D.str (prW r)) ?_ ?_
 ·intro r hr k hk
  exact ⟨r,rfl,h.ok r hr,hk⟩
 rw [eBl]
 refine ⟨l.map prW,by rw [List.map_map]; rfl,kS h.len h.ok,?_⟩
 refine (bA (c:=(!decide (jC l=jC l))=true) (fun c=>absurd c (by simp)) (fun _=>?_))
 refine ⟨l,rfl,h,?_⟩
 refine ⟨d6 l,d6 l,?_⟩
 refine (bA (c:=(!eqD (dQs l) (dQs l))=true) (fun c=>absurd c (by rw [kA]; decide)) (fun _=>?_))
 refine ⟨by rw [List.length_map]; omega,?_⟩
 refine gy (fun _=>none) ?_ ?_
 ·intro d hd k hk
  obtain ⟨r,hr,rfl⟩:=List.mem_map.mp hd
  exact hk
 rw [wY _ fun _ _=>rfl]
 refine ⟨bu [],bu [],?_⟩
 refine (bA (c:=(!eqD (au []) (au []))=true) (fun c=>absurd c (by rw [eqDi]; decide)) (fun _=>?_))
 refine ⟨l,rfl,h,?_⟩
 refine ⟨d6 l,d6 l,?_⟩
 refine (bA (c:=(!eqD (dQs l) (dQs l))=true) (fun c=>absurd c (by rw [kA]; decide)) (fun _=>?_))
 refine ⟨d6 l,d6 l,?_⟩
 refine (bA (c:=(!eqD (dQs l) (dQs l))=true) (fun c=>absurd c (by rw [kA]; decide)) (fun _=>?_))
 obtain ⟨r0,t,e⟩:=List.exists_cons_of_ne_nil h.ne
 have hp:PrsT (r53 :: t):=by
  rw [e] at h
  exact ⟨by simp,h.len,fun r hr=>by
   rcases List.mem_cons.mp hr with rfl | hr
   ·exact vp
   ·exact h.ok r (.tail _ hr)⟩
 subst e
 refine ⟨rfl,?_⟩
 show (match ixN ((r0 :: t).map dQ).length 0 with | some _=>_ | none=>False)
 rw [List.length_map,gg (by omega) (by simp)]
 refine ⟨r53 :: t,rfl,hp,?_⟩
 refine ⟨by rw [List.length_set,List.length_map]; exact Nat.le_trans hp.len (by decide),?_⟩
 refine cR (l:=r53 :: t) dQ (fun r=>D.str (prW r)) ?_ ?_
 ·intro r hr k hk
  exact ⟨r,rfl,hp.ok r hr,hk⟩
 refine ⟨(r53 :: t).map prW,by rw [List.map_map]; rfl,kS hp.len hp.ok,?_⟩
 refine ⟨rfl,?_⟩
 have key:∀ o,q (.bl (decide (jC (r53 :: t)=jC (r53 :: t)))) [o]:=fun o=>by rw [decide_eq_true rfl]; exact q0 o
 exact key _
def kg:SpD:=fun ds q=>∃ l:List Int,ds=[au l]∧NnsT l∧q (.bl true) []
theorem ue (T:Txt K mg A) (hB:TabB base mg A.tc A.tP tqS):FnOk P w K mg base CX0 5 A.f_q1 A.d_q1 ["_law_numbers_here"] (aQ [false] false (kg)):=by
 have S:=sc_q1
 refine fnD T.t_q1.F S ⟨[false],[false,false,false,false,true],false⟩ _ ?hl rfl rfl fun cdv Ar outer s H E hr=>⟨_,(ad (aS (i:=1) S.nd rfl (Or.inl rfl) (kQ dA pK rfl T.z_list c9 (ae (aa 0) aj)))
  (ad (aS (i:=2) S.nd rfl (Or.inl rfl) (ag (vb T hB) hr T.t_q11 (am (aa 0) ai)))
  (ad (aS (i:=3) S.nd rfl (Or.inl rfl) (fk bT (cx ["_law_number"] [] ⟨rfl,rfl,by decide +kernel,rfl,rfl,(by first | exact trivial | exact ⟨rfl,trivial⟩ | exact ⟨rfl,rfl,trivial⟩ | exact ⟨rfl,rfl,rfl,trivial⟩ | exact ⟨rfl,rfl,rfl,rfl,trivial⟩),rfl⟩ rfl (bd (aa 0)) (bE 0) (fun _ _ _ _=>⟨(bc (i:=0) (show List.Nodup (["_law_number"]:List Str) by decide +kernel) rfl (Or.inl rfl)),bS,(bO bQ hZ rfl T.z_str dz (ae (aa 0) aj))⟩))))
  (ad (aU (QW.qt (cn (aT (aX (cm rfl T.z_isinstance aK (aa 2) (bD (v:=.ty "str") rfl T.z_str dz rfl)))) (bz (aP pV dNeS (aa 2) (av ap dIx (bI (ae (aa 3) (ae bT aj))) (bO ik tQ rfl T.z_int iT (ae (cF (cV hr.units) dEq (aa 0) (bI aj) (aE _)) aj)) (fun _ _=>rfl)) (aE _))))) (af (ax c_)) aB)
  (ad (ci (i:=4) S.nd rfl (Or.inl rfl) (aO (rH T hB) hr T.t_q10 (am (aa 2) ai)))
  (ad (aU (QT.bor [4] (QW.qt (cn (aT (aX (cm rfl T.z_isinstance aK (aa 4) (bD (v:=.ty "list") rfl T.z_list c9 rfl)))) (bz (aP (bU hr.units) dNe (aa 4) (aa 1) (aE _)))))) (af (ax c_)) aB)
  (ad (cM (i:=4) rfl (QE.qf gR))
  (af (ax (dG (cF (cV hr.units) dEq (QF.qe (aO (rH T hB) hr T.t_q10 (am (aa 2) ai))) (aa 1) (aE _)) (eM (cF (cV hr.units) dEq (aa 0) (aa 1) (aE _))))))))))))),fun ds q h=>?_⟩
 case hl=>intro ds q h; obtain ⟨l,rfl,_⟩:=h; rfl
 obtain ⟨l,rfl,h,q0⟩:=h
 have hl:=h.len
 refine ⟨l,rfl,h,?_⟩
 refine ⟨by rw [List.length_map]; omega,?_⟩
 refine cR (l:=l) D.int (fun n=>D.str (shN n)) ?_ ?_
 ·intro n hn k hk
  exact ⟨fL (h.ok n hn).1 (h.ok n hn).2,hk⟩
 rw [eBl]
 refine ⟨l.map shN,by rw [List.map_map]; rfl,rA h.len h.ok,?_⟩
 refine ⟨bu l,bu [],?_⟩
 have ei:atI [D.str (Txt.join sBl (l.map shN)),D.str (Str.ofString "-")] (if eqD (au l) (au [])=true then 1 else 0)=some (.str (f7 l)):=by
  rw [eqDi]
  unfold f7
  by_cases e:l=[]
  ·rw [if_pos (decide_eq_true e),if_pos e]; rfl
  ·rw [if_neg (by simpa using e),if_neg e]; rfl
 refine bn ei ?_
 refine (bA (c:=(!decide (f7 l=f7 l))=true) (fun c=>absurd c (by simp)) (fun _=>?_))
 refine ⟨l,rfl,h,?_⟩
 have ee:eqD (au l) (au l)=true:=by rw [eqDi]; exact decide_eq_true rfl
 refine ⟨bu l,bu l,?_⟩
 refine (bA (c:=(!eqD (au l) (au l))=true) (fun c=>absurd c (by rw [ee]; decide)) (fun _=>?_))
 refine ⟨rfl,by rw [aL]; omega,?_⟩
 refine ⟨l,rfl,h,?_⟩
 refine ⟨bu l,bu l,?_⟩
 refine (bA (c:=eqD (au l) (au l)=true) (fun _=>?_) (fun c=>absurd ee c))
 refine ⟨bu l,bu l,?_⟩
 have key:q (.bl (eqD (au l) (au l))) []:=by rw [ee]; exact q0
 exact key
end
end K80
namespace K80
open PySem L2
section
variable {P:Program} {w:World} {K:PySem.W.Frag} {mg:Str→Option Value} {base:Heap} {A:Adr}
theorem vP {ps:List Int} {prs:List Rat} {M b:Nat} (h:PrM ps prs M b) (h0 : 0<M) (h1:b * M<10 ^ 70) (h2:M<10 ^ 70) {r:Rat} (hr:r∈prs):PrT r:=by
 obtain ⟨p,q,d⟩:=h.ok r hr
 have hn:=Rat.num_nonneg.mpr p
 have hd:r.den≤M:=Nat.le_of_dvd h0 (DvM.den h0 d)
 have hq:=(kX _ _).mpr q
 rw [Rat.num_intCast,Rat.den_intCast] at hq
 have e:((b:Int)) * (r.den:Int)≤((b * M:Nat):Int):=by
  rw [Int.natCast_mul]; exact Int.mul_le_mul_of_nonneg_left (by omega) (by omega)
 exact ⟨p,by omega,by omega⟩
def r12:Rat:=⟨1,2,by decide,by decide⟩
def r31:Rat:=⟨3,1,by decide,by decide⟩
theorem prs12:PrsT [r12,r31]:=⟨by decide,by decide,fun r hr=>by
 rcases List.mem_cons.mp hr with rfl | hr
 ·exact ⟨by decide,by decide,by decide⟩
 ·rw [List.mem_singleton.mp hr]; exact ⟨by decide,by decide,by decide⟩⟩
theorem kO:jC [r12,r31]=Str.ofString "1/2 3":=by decide +kernel
def j5:Ask:=⟨0,1,1,1000000000000⟩
theorem j9:AlK [0] 59 (List.replicate 30 j5):=by
 have hT:Tree [0] (List.replicate [(0:Int)].length 59):=⟨rfl,by decide,by decide,fun i x h=>by
  cases i with
  | zero=>cases h; decide
  | succ i=>simp at h,fun i x h=>by
  cases i with
  | zero=>cases h; decide
  | succ i=>simp at h⟩
 refine ⟨hT,by decide,by decide,⟨by rw [List.length_replicate]; decide,fun a ha=>?_⟩,fun a ha=>?_⟩
 ·rw [List.eq_of_mem_replicate ha]
  exact ⟨⟨by decide,by decide,by decide,by decide,by decide⟩,by decide,by decide,by decide,by decide⟩
 ·rw [List.eq_of_mem_replicate ha]; rfl
theorem uv (T:Txt K mg A) (hB:TabB base mg A.tc A.tP tqS):FnOk P w K mg base CX0 11 A.f_law A.d_law ["_law_script"] (aQ [false] false (o4 K)):=by
 have S:=vL
 refine fnD T.t_law.F S ⟨[false],[false,false,true,true],false⟩ _ ?hl rfl rfl fun cdv Ar outer s H E hr=>⟨_,(ad (ca PassesOwn.never rfl (em rfl T.z_range (ae (aM (ir rfl) dMax rfl T.z_max qy (ae ac (ae (aM (ie rfl) dMin rfl T.z_min nR (ae ac (ae (aM aI eG rfl T.z_len bF (ae (aa 0) aj)) aj))) aj))) aj)) (az (i:=1) S.nd rfl (Or.inl rfl)) (ad (ci (i:=2) S.nd rfl (Or.inr rfl) (aO (wA T hB) hr T.t_q49 (am (aa 0) (am (aa 1) ai))))
  (ad (ja (i:=3) ["_law_turn"] [2] 2 1 ⟨rfl,rfl,by decide +kernel,rfl,rfl,(by first | exact trivial | exact ⟨rfl,trivial⟩ | exact ⟨rfl,rfl,trivial⟩ | exact ⟨rfl,rfl,rfl,trivial⟩ | exact ⟨rfl,rfl,rfl,rfl,trivial⟩),rfl⟩ rfl S.nd rfl (Or.inl rfl) (em rfl T.z_range (ae (ay cr dI ac (ag (dP T hB) hr T.t_q50 (fE 2 (am ac ai)))) aj)) (nV 0) (fun _ _ _ _=>⟨(bc (i:=0) (show List.Nodup (["_law_turn","_law_pool_here"]:List Str) by decide +kernel) rfl (Or.inl rfl)),bS,(ag (vq T hB) hr T.t_q41 (fE 1 ai))⟩))
  (af (aU (QW.qt (cn (aT (aX (ag (q_ T hB) hr T.t_q3 (fE 3 ai)))) (bz (aT (aX (ag (ue T hB) hr T.t_q1 (am (QF.qe (aO (wf T hB) hr T.t_q27 (fE 2 ai))) ai))))))) (af (ax c_)) aB)))))
  (ad (aU (QW.qt (cn (aT (aX (ag (ue T hB) hr T.t_q1 (am (bI aj) ai)))) (bz (aT (aX (ag (q_ T hB) hr T.t_q3 (qk_t (dO (ae (bq (ae ac (ae ac aj))) aj)) ai))))))) (af (ax c_)) aB)
  (ad (aU (aT (aX (ag (q_ T hB) hr T.t_q3 (qk_t (nL (aO (vn T hB) hr T.t_q20 (am (bq (ae (bI (ae ac aj)) (ae (bI (ae ac aj)) aj))) (am (l8 fJ mj (bI (ae (bq (ae ac (ae ac (ae ac (ae (ay eN dIC ac ac) aj))))) aj)) ac) ai))) ac (fun _ _=>rfl)) ai)))) (af (ax c_)) aB)
  (af (ax (cF lO dEqT (ag (kJ T hB) hr T.t_q17 (am (bI (ae (bq (ae ac (ae ac aj))) (ae (bq (ae ac (ae ac aj))) aj))) ai)) bT (aE _))))))),fun ds q h=>?_⟩
 case hl=>intro ds q h; obtain ⟨φ,ns,rfl,_⟩:=h; rfl
 obtain ⟨φ,ns,rfl,hφ,hl,q0⟩:=h
 refine ⟨hφ,?_⟩
 refine ⟨⟨by split <;> split <;> omega,by split <;> split <;> omega⟩,?_⟩
 refine ⟨fun i ρ=>∃ v1 v2 v3,ρ=[some (.scr φ ns),v1,v2,v3],⟨_,_,_,rfl⟩,?_,?_⟩
 ·rintro i d ρ hd ⟨v1,v2,v3,rfl⟩
  obtain ⟨hi2,rfl⟩:=f9 hd
  have hi3:i<31:=by revert hi2; split <;> split <;> omega
  refine ⟨φ,ns,0 + (i:Int),rfl,hφ,by omega,by omega,fun c m h0=>?_⟩
  refine ⟨c,m,23,rfl,h0,by decide,eT (n:=23) (by decide) (by decide +kernel),fun r c1 m1 r0 r1 h1=>?_⟩
  refine ⟨⟨by omega,by omega⟩,?_⟩
  refine ⟨by rw [eX]; omega,?_⟩
  refine ⟨fun i es d=>∃ (l:List Rat) (c m:Int),es=l.map dQ∧d=au [c,m]∧0≤c∧l.length=i∧∀ r∈l,PrT r,⟨[],c1,m1,rfl,rfl,h1,rfl,(fun r h=>(by cases h))⟩,?_,?_⟩
  ·rintro j x es d hx ⟨l,c5,m5,rfl,rfl,h5,hl5,ok⟩
   refine ⟨c5,m5,rfl,h5,fun u c6 m6 hu h6=>?_⟩
   refine ⟨l++[u],c6,m6,by rw [List.map_append]; rfl,rfl,h6,by rw [List.length_append,hl5]; rfl,fun r hr=>?_⟩
   rcases List.mem_append.mp hr with hr | hr
   ·exact ok r hr
   ·rw [List.mem_singleton.mp hr]; exact hu
  rintro es d ⟨l,c5,m5,rfl,rfl,h5,hl5,ok⟩
  rw [eX] at hl5
  have hp:PrsT l:=⟨fun z=>by rw [z] at hl5; have:(0:Nat)=(1 + r).toNat:=hl5; omega,by omega,ok⟩
  refine ⟨cP _,?_⟩
  refine ⟨l,rfl,hp,fun o=>?_⟩
  refine ⟨c5,m5,rfl,h5,fun l2 c7 m7 hn h7=>?_⟩
  refine ⟨l2,rfl,hn,?_⟩
  exact ⟨_,_,_,rfl⟩
 ·rintro ρ ⟨v1,v2,v3,rfl⟩
  have n0:NnsT []:=⟨by decide,fun n h=>(by cases h),List.Pairwise.nil⟩
  refine ⟨[],rfl,n0,?_⟩
  have p0:PrsT [(0:Rat)]:=⟨by decide,by decide,fun r hr=>by rw [List.mem_singleton.mp hr]; exact ⟨by decide,by decide,by decide⟩⟩
  refine ⟨rfl,?_⟩
  refine ⟨[(0:Rat)],rfl,p0,fun o=>?_⟩
  refine ⟨⟨by decide,by decide,by decide⟩,?_⟩
  refine ⟨⟨by decide,by decide,by decide⟩,?_⟩
  refine ⟨[0],59,List.replicate 30 j5,rfl,j9,fun ord ho=>?_⟩
  obtain ⟨hol,hor⟩:=ho.mem
  rw [List.length_replicate] at hol
  have hP:=iO j9.t j9.a (kL (as:=List.replicate 30 j5) j9.k0 j9.k60) hor ord.length (Nat.le_refl _)
  rw [List.take_length,hol] at hP
  obtain ⟨M,M0,M1,hM⟩:=hP.pr
  have hprs:PrsT (cB [0] (List.replicate 30 j5) (alT 59 (List.replicate 30 j5)) ord).prs:=by
   have hlen:=hM.len
   refine ⟨(fun z=>by rw [z] at hlen; exact absurd hlen (by decide)),(by rw [hlen]; decide),fun r hr=>vP hM M0 ?_ (Nat.lt_of_le_of_lt M1 (by decide)) hr⟩
   exact Nat.lt_of_le_of_lt (Nat.mul_le_mul_left _ M1) (by decide)
  refine ⟨1,rfl,_,rfl,?_⟩
  refine ⟨_,rfl,hprs,fun o2=>?_⟩
  refine ⟨[r12,r31],rfl,prs12,?_⟩
  have key:q (.bl (decide (jC [r12,r31]=Str.ofString "1/2 3"))) []:=by rw [decide_eq_true kO]; exact q0
  exact key
end
end K80
namespace K80
open PySem L2
theorem gZ {us:List Value} {n:Nat} (h:us.length=n + 1):∃ a r,us=a :: r∧r.length=n:=by
 cases us with
 | nil=>cases h
 | cons a r=>exact ⟨a,r,rfl,Nat.succ.inj h⟩
theorem us1 {fd:FuncData} {ps:List Str} (h:∀ a0,bindArgs fd ⟨[a0],[]⟩=pure (ps.zip [a0])):∀ us:List Value,us.length=1→bindArgs fd ⟨us,[]⟩=pure (ps.zip us):=fun us hl=>by
 obtain ⟨a0,u0,rfl,h0⟩:=gZ hl
 cases List.eq_nil_of_length_eq_zero h0
 exact h a0
theorem us2 {fd:FuncData} {ps:List Str} (h:∀ a0 a1,bindArgs fd ⟨[a0,a1],[]⟩=pure (ps.zip [a0,a1])):∀ us:List Value,us.length=2→bindArgs fd ⟨us,[]⟩=pure (ps.zip us):=fun us hl=>by
 obtain ⟨a0,u0,rfl,h0⟩:=gZ hl
 obtain ⟨a1,u1,rfl,h1⟩:=gZ h0
 cases List.eq_nil_of_length_eq_zero h1
 exact h a0 a1
theorem us3 {fd:FuncData} {ps:List Str} (h:∀ a0 a1 a2,bindArgs fd ⟨[a0,a1,a2],[]⟩=pure (ps.zip [a0,a1,a2])):∀ us:List Value,us.length=3→bindArgs fd ⟨us,[]⟩=pure (ps.zip us):=fun us hl=>by
 obtain ⟨a0,u0,rfl,h0⟩:=gZ hl
 obtain ⟨a1,u1,rfl,h1⟩:=gZ h0
 obtain ⟨a2,u2,rfl,h2⟩:=gZ h1
 cases List.eq_nil_of_length_eq_zero h2
 exact h a0 a1 a2
theorem us4 {fd:FuncData} {ps:List Str} (h:∀ a0 a1 a2 a3,bindArgs fd ⟨[a0,a1,a2,a3],[]⟩=pure (ps.zip [a0,a1,a2,a3])):∀ us:List Value,us.length=4→bindArgs fd ⟨us,[]⟩=pure (ps.zip us):=fun us hl=>by
 obtain ⟨a0,u0,rfl,h0⟩:=gZ hl
 obtain ⟨a1,u1,rfl,h1⟩:=gZ h0
 obtain ⟨a2,u2,rfl,h2⟩:=gZ h1
 obtain ⟨a3,u3,rfl,h3⟩:=gZ h2
 cases List.eq_nil_of_length_eq_zero h3
 exact h a0 a1 a2 a3
theorem all_mk {l:PySem.W.OpenLaw} {w:World} {K:PySem.W.Frag} {h:Heap} {mg:Str→Option Value} {fa:Addr} (X:K.In h) (G:h.Ns mainGlobals mg) (hfa:mg "law" = some (.ref fa))
 {f_q35:Addr} {d_q35:FuncData} (h_q35:FH K "is_whole" qv f_q35 d_q35)
 {f_q19:Addr} {d_q19:FuncData} (h_q19:FH K "is_between" pz f_q19 d_q19)
 {f_q0:Addr} {d_q0:FuncData} (h_q0:FH K "greatest_common" s_q0 f_q0 d_q0)
 {f_q14:Addr} {d_q14:FuncData} (h_q14:FH K "is_fraction" pf f_q14 d_q14)
 {f_q37:Addr} {d_q37:FuncData} (h_q37:FH K "whole_in" p8 f_q37 d_q37)
 {f_q24:Addr} {d_q24:FuncData} (h_q24:FH K "show_price" p7 f_q24 d_q24)
 {f_q17:Addr} {d_q17:FuncData} (h_q17:FH K "show_prices" qp f_q17 d_q17)
 {f_q11:Addr} {d_q11:FuncData} (h_q11:FH K "show_numbers" qd f_q11 d_q11)
 {f_q38:Addr} {d_q38:FuncData} (h_q38:FH K "words_of" qP f_q38 d_q38)
 {f_q15:Addr} {d_q15:FuncData} (h_q15:FH K "read_number" pX f_q15 d_q15)
 {f_q23:Addr} {d_q23:FuncData} (h_q23:FH K "read_price" pT f_q23 d_q23)
 {f_q16:Addr} {d_q16:FuncData} (h_q16:FH K "read_prices" qU f_q16 d_q16)
 {f_q10:Addr} {d_q10:FuncData} (h_q10:FH K "read_numbers" qw f_q10 d_q10)
 {f_q5:Addr} {d_q5:FuncData} (h_q5:FH K "has_two_lists" s_q5 f_q5 d_q5)
 {f_q9:Addr} {d_q9:FuncData} (h_q9:FH K "look_at_tree" s_q9 f_q9 d_q9)
 {f_q47:Addr} {d_q47:FuncData} (h_q47:FH K "depths" ot f_q47 d_q47)
 {f_q34:Addr} {d_q34:FuncData} (h_q34:FH K "is_place" qQ f_q34 d_q34)
 {f_q32:Addr} {d_q32:FuncData} (h_q32:FH K "are_ends" qV f_q32 d_q32)
 {f_q48:Addr} {d_q48:FuncData} (h_q48:FH K "is_ask" oN f_q48 d_q48)
 {f_q6:Addr} {d_q6:FuncData} (h_q6:FH K "look_at_asks" s_q6 f_q6 d_q6)
 {f_q33:Addr} {d_q33:FuncData} (h_q33:FH K "fraction" rp f_q33 d_q33)
 {f_q61:Addr} {d_q61:FuncData} (h_q61:FH K "plus" qC f_q61 d_q61)
 {f_q58:Addr} {d_q58:FuncData} (h_q58:FH K "minus" nG f_q58 d_q58)
 {f_q59:Addr} {d_q59:FuncData} (h_q59:FH K "times" qL f_q59 d_q59)
 {f_q53:Addr} {d_q53:FuncData} (h_q53:FH K "parted" o7 f_q53 d_q53)
 {f_q54:Addr} {d_q54:FuncData} (h_q54:FH K "sum_of" qY f_q54 d_q54)
 {f_q60:Addr} {d_q60:FuncData} (h_q60:FH K "under" qK f_q60 d_q60)
 {f_q7:Addr} {d_q7:FuncData} (h_q7:FH K "look_at_ends" s_q7 f_q7 d_q7)
 {f_q56:Addr} {d_q56:FuncData} (h_q56:FH K "climb" pw f_q56 d_q56)
 {f_q18:Addr} {d_q18:FuncData} (h_q18:FH K "way_between" pQ f_q18 d_q18)
 {f_q55:Addr} {d_q55:FuncData} (h_q55:FH K "way_of" nH f_q55 d_q55)
 {f_q21:Addr} {d_q21:FuncData} (h_q21:FH K "meeting_of" qb f_q21 d_q21)
 {f_q12:Addr} {d_q12:FuncData} (h_q12:FH K "tops_between" qh f_q12 d_q12)
 {f_q52:Addr} {d_q52:FuncData} (h_q52:FH K "lay_on" pN f_q52 d_q52)
 {f_q28:Addr} {d_q28:FuncData} (h_q28:FH K "load_with" rD f_q28 d_q28)
 {f_q42:Addr} {d_q42:FuncData} (h_q42:FH K "over_on" qq f_q42 d_q42)
 {f_q29:Addr} {d_q29:FuncData} (h_q29:FH K "over_with" oS f_q29 d_q29)
 {f_q36:Addr} {d_q36:FuncData} (h_q36:FH K "spare_of" qz f_q36 d_q36)
 {f_q13:Addr} {d_q13:FuncData} (h_q13:FH K "common_room" p9 f_q13 d_q13)
 {f_q8:Addr} {d_q8:FuncData} (h_q8:FH K "look_at_ones" s_q8 f_q8 d_q8)
 {f_q4:Addr} {d_q4:FuncData} (h_q4:FH K "deepest_first" s_q4 f_q4 d_q4)
 {f_q22:Addr} {d_q22:FuncData} (h_q22:FH K "raise_tops" pk f_q22 d_q22)
 {f_q43:Addr} {d_q43:FuncData} (h_q43:FH K "pile_up" qZ f_q43 d_q43)
 {f_q2:Addr} {d_q2:FuncData} (h_q2:FH K "keep_from_last" s_q2 f_q2 d_q2)
 {f_q20:Addr} {d_q20:FuncData} (h_q20:FH K "keep_alike" qF f_q20 d_q20)
 {f_q25:Addr} {d_q25:FuncData} (h_q25:FH K "_law_cell_at" rg f_q25 d_q25)
 {f_q49:Addr} {d_q49:FuncData} (h_q49:FH K "_law_pool" pH f_q49 d_q49)
 {f_q50:Addr} {d_q50:FuncData} (h_q50:FH K "_law_take" rP f_q50 d_q50)
 {f_q26:Addr} {d_q26:FuncData} (h_q26:FH K "_law_divisor" qO f_q26 d_q26)
 {f_q57:Addr} {d_q57:FuncData} (h_q57:FH K "_law_low" nC f_q57 d_q57)
 {f_q41:Addr} {d_q41:FuncData} (h_q41:FH K "_law_price" oB f_q41 d_q41)
 {f_q27:Addr} {d_q27:FuncData} (h_q27:FH K "_law_numbers" rQ f_q27 d_q27)
 {f_q51:Addr} {d_q51:FuncData} (h_q51:FH K "_law_word" oT f_q51 d_q51)
 {f_q3:Addr} {d_q3:FuncData} (h_q3:FH K "_law_prices_right" s_q3 f_q3 d_q3)
 {f_q1:Addr} {d_q1:FuncData} (h_q1:FH K "_law_numbers_right" s_q1 f_q1 d_q1)
 {f_law:Addr} {d_law:FuncData} (h_law:FH K "law" q8 f_law d_law)
 {t_FIGURES:Tok} (c_FIGURES:PySem.W.nsIn K mainGlobals "FIGURES" = some (some (.str "0123456789" t_FIGURES)))
 {t_MOST_FIGURES:Tok} (c_MOST_FIGURES:PySem.W.nsIn K mainGlobals "MOST_FIGURES" = some (some (.int 70 t_MOST_FIGURES)))
 {t_MOST_TIES:Tok} (c_MOST_TIES:PySem.W.nsIn K mainGlobals "MOST_TIES" = some (some (.int 23 t_MOST_TIES)))
 {t_MOST_ROOM:Tok} (c_MOST_ROOM:PySem.W.nsIn K mainGlobals "MOST_ROOM" = some (some (.int 1000000 t_MOST_ROOM)))
 {t_MOST_ASKS:Tok} (c_MOST_ASKS:PySem.W.nsIn K mainGlobals "MOST_ASKS" = some (some (.int 30 t_MOST_ASKS)))
 {t_MOST_SIZE:Tok} (c_MOST_SIZE:PySem.W.nsIn K mainGlobals "MOST_SIZE" = some (some (.int 1000000 t_MOST_SIZE)))
 {t_MOST_WORTH:Tok} (c_MOST_WORTH:PySem.W.nsIn K mainGlobals "MOST_WORTH" = some (some (.int 1000000000000 t_MOST_WORTH)))
 {t_MOST_COMMON_ROOM:Tok} (c_MOST_COMMON_ROOM:PySem.W.nsIn K mainGlobals "MOST_COMMON_ROOM" = some (some (.int 60 t_MOST_COMMON_ROOM)))
 (z_abs:PySem.W.nsIn K mainGlobals "abs" = some none)
 (z_all:PySem.W.nsIn K mainGlobals "all" = some none)
 (z_bool:PySem.W.nsIn K mainGlobals "bool" = some none)
 (z_enumerate:PySem.W.nsIn K mainGlobals "enumerate" = some none)
 (z_int:PySem.W.nsIn K mainGlobals "int" = some none)
 (z_isinstance:PySem.W.nsIn K mainGlobals "isinstance" = some none)
 (z_len:PySem.W.nsIn K mainGlobals "len" = some none)
 (z_list:PySem.W.nsIn K mainGlobals "list" = some none)
 (z_max:PySem.W.nsIn K mainGlobals "max" = some none)
 (z_min:PySem.W.nsIn K mainGlobals "min" = some none)
 (z_range:PySem.W.nsIn K mainGlobals "range" = some none)
 (z_reversed:PySem.W.nsIn K mainGlobals "reversed" = some none)
 (z_sorted:PySem.W.nsIn K mainGlobals "sorted" = some none)
 (z_str:PySem.W.nsIn K mainGlobals "str" = some none)
 (z_sum:PySem.W.nsIn K mainGlobals "sum" = some none)
 (z_tuple:PySem.W.nsIn K mainGlobals "tuple" = some none)
 (z_zip:PySem.W.nsIn K mainGlobals "zip" = some none)
 {tc tP:Addr} (hc:d_q4.code = .ref tc)
   :∃ fd:FuncData,(∀ (s:Shared) (v:Value),BindsTo s fd ⟨[v],[]⟩ [("_law_script",v)])∧∀ base:Heap,K.In base→base.Ns mainGlobals mg→TabB base mg tc tP tqS→FnOk l.prog w K mg base CX0 11 fa fd ["_law_script"] (iD K):=by
 have e:=hfa.symm.trans (PySem.W.mg_of X G h_law.a)
 cases e
 have T:Txt K mg ⟨f_q35,_,f_q19,_,f_q0,_,f_q14,_,f_q37,_,f_q24,_,f_q17,_,f_q11,_,f_q38,_,f_q15,_,f_q23,_,f_q16,_,f_q10,_,f_q5,_,f_q9,_,f_q47,_,f_q34,_,f_q32,_,f_q48,_,f_q6,_,f_q33,_,f_q61,_,f_q58,_,f_q59,_,f_q53,_,f_q54,_,f_q60,_,f_q7,_,f_q56,_,f_q18,_,f_q55,_,f_q21,_,f_q12,_,f_q52,_,f_q28,_,f_q42,_,f_q29,_,f_q36,_,f_q13,_,f_q8,_,f_q4,_,f_q22,_,f_q43,_,f_q2,_,f_q20,_,f_q25,_,f_q49,_,f_q50,_,f_q26,_,f_q57,_,f_q41,_,f_q27,_,f_q51,_,f_q3,_,f_q1,_,fa,_,tc,tP⟩:=⟨h_q35.ft X G fun _ _ _ _ _ _=>us1 fun _=>rfl,h_q19.ft X G fun _ _ _ _ _ _=>us3 fun _ _ _=>rfl,h_q0.ft X G fun _ _ _ _ _ _=>us2 fun _ _=>rfl,h_q14.ft X G fun _ _ _ _ _ _=>us1 fun _=>rfl,h_q37.ft X G fun _ _ _ _ _ _=>us2 fun _ _=>rfl,h_q24.ft X G fun _ _ _ _ _ _=>us1 fun _=>rfl,h_q17.ft X G fun _ _ _ _ _ _=>us1 fun _=>rfl,h_q11.ft X G fun _ _ _ _ _ _=>us1 fun _=>rfl,h_q38.ft X G fun _ _ _ _ _ _=>us1 fun _=>rfl,h_q15.ft X G fun _ _ _ _ _ _=>us1 fun _=>rfl,h_q23.ft X G fun _ _ _ _ _ _=>us1 fun _=>rfl,h_q16.ft X G fun _ _ _ _ _ _=>us1 fun _=>rfl,h_q10.ft X G fun _ _ _ _ _ _=>us1 fun _=>rfl,h_q5.ft X G fun _ _ _ _ _ _=>us1 fun _=>rfl,h_q9.ft X G fun _ _ _ _ _ _=>us1 fun _=>rfl,h_q47.ft X G fun _ _ _ _ _ _=>us1 fun _=>rfl,h_q34.ft X G fun _ _ _ _ _ _=>us2 fun _ _=>rfl,h_q32.ft X G fun _ _ _ _ _ _=>us3 fun _ _ _=>rfl,h_q48.ft X G fun _ _ _ _ _ _=>us2 fun _ _=>rfl,h_q6.ft X G fun _ _ _ _ _ _=>us2 fun _ _=>rfl,h_q33.ft X G fun _ _ _ _ _ _=>us2 fun _ _=>rfl,h_q61.ft X G fun _ _ _ _ _ _=>us2 fun _ _=>rfl,h_q58.ft X G fun _ _ _ _ _ _=>us2 fun _ _=>rfl,h_q59.ft X G fun _ _ _ _ _ _=>us2 fun _ _=>rfl,h_q53.ft X G fun _ _ _ _ _ _=>us2 fun _ _=>rfl,h_q54.ft X G fun _ _ _ _ _ _=>us1 fun _=>rfl,h_q60.ft X G fun _ _ _ _ _ _=>us2 fun _ _=>rfl,h_q7.ft X G fun _ _ _ _ _ _=>us3 fun _ _ _=>rfl,h_q56.ft X G fun _ _ _ _ _ _=>us3 fun _ _ _=>rfl,h_q18.ft X G fun _ _ _ _ _ _=>us3 fun _ _ _=>rfl,h_q55.ft X G fun _ _ _ _ _ _=>us2 fun _ _=>rfl,h_q21.ft X G fun _ _ _ _ _ _=>us3 fun _ _ _=>rfl,h_q12.ft X G fun _ _ _ _ _ _=>us3 fun _ _ _=>rfl,h_q52.ft X G fun _ _ _ _ _ _=>us3 fun _ _ _=>rfl,h_q28.ft X G fun _ _ _ _ _ _=>us3 fun _ _ _=>rfl,h_q42.ft X G fun _ _ _ _ _ _=>us4 fun _ _ _ _=>rfl,h_q29.ft X G fun _ _ _ _ _ _=>us3 fun _ _ _=>rfl,h_q36.ft X G fun _ _ _ _ _ _=>us4 fun _ _ _ _=>rfl,h_q13.ft X G fun _ _ _ _ _ _=>us1 fun _=>rfl,h_q8.ft X G fun _ _ _ _ _ _=>us1 fun _=>rfl,h_q4.ft X G fun _ _ _ _ _ _=>us2 fun _ _=>rfl,h_q22.ft X G fun _ _ _ _ _ _=>us4 fun _ _ _ _=>rfl,h_q43.ft X G fun _ _ _ _ _ _=>us3 fun _ _ _=>rfl,h_q2.ft X G fun _ _ _ _ _ _=>us3 fun _ _ _=>rfl,h_q20.ft X G fun _ _ _ _ _ _=>us2 fun _ _=>rfl,h_q25.ft X G fun _ _ _ _ _ _=>us2 fun _ _=>rfl,h_q49.ft X G fun _ _ _ _ _ _=>us2 fun _ _=>rfl,h_q50.ft X G fun _ _ _ _ _ _=>us2 fun _ _=>rfl,h_q26.ft X G fun _ _ _ _ _ _=>us2 fun _ _=>rfl,h_q57.ft X G fun _ _ _ _ _ _=>us2 fun _ _=>rfl,h_q41.ft X G fun _ _ _ _ _ _=>us1 fun _=>rfl,h_q27.ft X G fun _ _ _ _ _ _=>us1 fun _=>rfl,h_q51.ft X G fun _ _ _ _ _ _=>us1 fun _=>rfl,h_q3.ft X G fun _ _ _ _ _ _=>us1 fun _=>rfl,h_q1.ft X G fun _ _ _ _ _ _=>us1 fun _=>rfl,h_law.ft X G fun _ _ _ _ _ _=>us1 fun _=>rfl,PySem.W.mg_none_of X G z_abs,PySem.W.mg_none_of X G z_all,PySem.W.mg_none_of X G z_bool,PySem.W.mg_none_of X G z_enumerate,PySem.W.mg_none_of X G z_int,PySem.W.mg_none_of X G z_isinstance,PySem.W.mg_none_of X G z_len,PySem.W.mg_none_of X G z_list,PySem.W.mg_none_of X G z_max,PySem.W.mg_none_of X G z_min,PySem.W.mg_none_of X G z_range,PySem.W.mg_none_of X G z_reversed,PySem.W.mg_none_of X G z_sorted,PySem.W.mg_none_of X G z_str,PySem.W.mg_none_of X G z_sum,PySem.W.mg_none_of X G z_tuple,PySem.W.mg_none_of X G z_zip,⟨_,PySem.W.mg_of X G c_FIGURES⟩,⟨_,PySem.W.mg_of X G c_MOST_FIGURES⟩,⟨_,PySem.W.mg_of X G c_MOST_TIES⟩,⟨_,PySem.W.mg_of X G c_MOST_ROOM⟩,⟨_,PySem.W.mg_of X G c_MOST_ASKS⟩,⟨_,PySem.W.mg_of X G c_MOST_SIZE⟩,⟨_,PySem.W.mg_of X G c_MOST_WORTH⟩,⟨_,PySem.W.mg_of X G c_MOST_COMMON_ROOM⟩,hc⟩
 obtain ⟨_,_,_,_,_,_,_,_,_,rfl,_,_⟩:=h_law.F.ex
 exact ⟨_,fun s v=>.of_eq rfl,fun base _ _ hB=>(uv T hB).imp fun _ _ _ _ h=>mY h⟩
theorem walk {l:PySem.W.OpenLaw} {q:Program} {loose:List Str} {XP:(Str→Option Value)→Heap→Prop} {YP:World→Heap→Prop} {d:DefRec} {K:Params→PySem.W.Frag} {c Pt:Addr} (hn:l.most=some 63) (hdf:d.params.defaults=[])
 (hY:∀ (w:World) (h:Heap),YP w h→(K w.params).In h∧h.get? Pt=some (PySem.W.tabObj #[])) (hcd0:∀ w:World,PySem.W.codeHdIn (K w.params) c Pt=true) (hKP:∀ w:World,(K w.params).lookup Pt=none)
 (F:∀ (w:World) (mg:Str→Option Value) (fa:Addr) (h:Heap),(K w.params).In h→h.Ns mainGlobals mg→mg d.name=some (.ref fa) →
  ∃ fd:FuncData,(∀ (s:Shared) (u:Value),BindsTo s fd ⟨[u],[]⟩ [("_law_script",u)])∧∀ base:Heap,(K w.params).In base→base.Ns mainGlobals mg→TabB base mg c Pt tqS→FnOk l.prog w (K w.params) mg base CX0 11 fa fd ["_law_script"] (iD (K w.params))) :
 PySem.W.WalkO q loose XP YP l.row.toRowW d [] (fun f vs=>PySem.call f vs) :=
 L2.rG (n:=63) (k:=11) (x:="_law_script") (sp:=fun w=>iD (K w.params)) hn (by decide) hdf ⟨rfl,by decide,by decide,rfl⟩ hY hcd0 hKP F (fun _ _ a ns hl hO hS=>⟨a,ns,rfl,hO,hS,hl,fun _=>rfl⟩) fun _ _ _ _ z=>z
end K80
open PySem PySem.W PyProof.Rows
set_option maxRecDepth 100000 in
theorem PySem.Challenge.cw_treeasks_k80_papers_written_holds : PySem.Challenge.rw_treeasks_k80_papers_written.Holds := by
 w_on; o_law; k_head; (case hw=>w_witness2)
 k_fill
 refine' K80.walk (l:=PySem.Challenge.rw_treeasks_k80_papers_written) rfl rfl (fun w h Y=>⟨PySem.W.km_in_of Y,PySem.W.km_tabs_of Y _ (List.Mem.head _)⟩) ?hcd ?hKP ?F
 case F =>
  intro w mg fa h KX G hmg
  refine' K80.all_mk KX G hmg (L2.aH ?_ ?_ ?_ ?_) (L2.aH ?_ ?_ ?_ ?_) (L2.aH ?_ ?_ ?_ ?_) (L2.aH ?_ ?_ ?_ ?_) (L2.aH ?_ ?_ ?_ ?_) (L2.aH ?_ ?_ ?_ ?_) (L2.aH ?_ ?_ ?_ ?_) (L2.aH ?_ ?_ ?_ ?_) (L2.aH ?_ ?_ ?_ ?_) (L2.aH ?_ ?_ ?_ ?_) (L2.aH ?_ ?_ ?_ ?_) (L2.aH ?_ ?_ ?_ ?_) (L2.aH ?_ ?_ ?_ ?_) (L2.aH ?_ ?_ ?_ ?_) (L2.aH ?_ ?_ ?_ ?_) (L2.aH ?_ ?_ ?_ ?_) (L2.aH ?_ ?_ ?_ ?_) (L2.aH ?_ ?_ ?_ ?_) (L2.aH ?_ ?_ ?_ ?_) (L2.aH ?_ ?_ ?_ ?_) (L2.aH ?_ ?_ ?_ ?_) (L2.aH ?_ ?_ ?_ ?_) (L2.aH ?_ ?_ ?_ ?_) (L2.aH ?_ ?_ ?_ ?_) (L2.aH ?_ ?_ ?_ ?_) (L2.aH ?_ ?_ ?_ ?_) (L2.aH ?_ ?_ ?_ ?_) (L2.aH ?_ ?_ ?_ ?_) (L2.aH ?_ ?_ ?_ ?_) (L2.aH ?_ ?_ ?_ ?_) (L2.aH ?_ ?_ ?_ ?_) (L2.aH ?_ ?_ ?_ ?_) (L2.aH ?_ ?_ ?_ ?_) (L2.aH ?_ ?_ ?_ ?_) (L2.aH ?_ ?_ ?_ ?_) (L2.aH ?_ ?_ ?_ ?_) (L2.aH ?_ ?_ ?_ ?_) (L2.aH ?_ ?_ ?_ ?_) (L2.aH ?_ ?_ ?_ ?_) (L2.aH ?_ ?_ ?_ ?_) (L2.aH ?_ ?_ ?_ ?_) (L2.aH ?_ ?_ ?_ ?_) (L2.aH ?_ ?_ ?_ ?_) (L2.aH ?_ ?_ ?_ ?_) (L2.aH ?_ ?_ ?_ ?_) (L2.aH ?_ ?_ ?_ ?_) (L2.aH ?_ ?_ ?_ ?_) (L2.aH ?_ ?_ ?_ ?_) (L2.aH ?_ ?_ ?_ ?_) (L2.aH ?_ ?_ ?_ ?_) (L2.aH ?_ ?_ ?_ ?_) (L2.aH ?_ ?_ ?_ ?_) (L2.aH ?_ ?_ ?_ ?_) (L2.aH ?_ ?_ ?_ ?_) (L2.aH ?_ ?_ ?_ ?_) (L2.aH ?_ ?_ ?_ ?_) ?_ ?_ ?_ ?_ ?_ ?_ ?_ ?_ ?_ ?_ ?_ ?_ ?_ ?_ ?_ ?_ ?_ ?_ ?_ ?_ ?_ ?_ ?_ ?_ ?_ ?_
  all_goals try k_is
  all_goals first | rfl | (rw [← Array.all_toList]; rfl)
 case hcd=>intro w; first | kernel_rfl | rfl
 case hKP=>intro w; first | kernel_rfl | rfl
end
