import PyProof.Rows.All
import Wide.All
import OpenK.AllK
import Wide.FinOn
import Lean
import PyProof.EqAt
import PyProof.EqKinds
import PyProof.TupleCall
import PyProof.Rows.ListRangeD
import KE.LcSums
import KE.KRevSl
import PyProof.Rows.SetFrom
import PyProof.Rows.ListMulArg
import PySem.Challenge.RW_treeasks_k72_changes_made
set_option Elab.async false
set_option linter.all false
set_option maxRecDepth 100000
set_option genSizeOf false
set_option maxHeartbeats 4000000
set_option exponentiation.threshold 9000
noncomputable section
theorem PySem.W.Fast.te3853688290189754627:True:=trivial
def PySem.W.Fast.tw3853688290189754627:Nat:=0
theorem PySem.W.Fast.te17561337944212315145:True:=trivial
def PySem.W.Fast.tw17561337944212315145:Nat:=0
def PySem.W.Fast.tw9386134859009650238:PySem.Program:=PySem.Challenge.pw_treeasks_k72_changes_made
theorem PySem.W.Fast.te9386134859009650238:PySem.Challenge.pw_treeasks_k72_changes_made=PySem.W.Fast.tw9386134859009650238:=rfl
def PySem.W.Fast.tw12285448740070506075:List PySem.Stmt:=((PySem.Challenge.pw_treeasks_k72_changes_made.main.body.drop 65).take 11)
theorem PySem.W.Fast.te12285448740070506075:((PySem.Challenge.pw_treeasks_k72_changes_made.main.body.drop 65).take 11)=PySem.W.Fast.tw12285448740070506075:=rfl
def PySem.W.Fast.tw4863408315105582905:List PySem.Stmt:=((PySem.Challenge.pw_treeasks_k72_changes_made.main.body.drop 14).take 9)
theorem PySem.W.Fast.te4863408315105582905:((PySem.Challenge.pw_treeasks_k72_changes_made.main.body.drop 14).take 9)=PySem.W.Fast.tw4863408315105582905:=rfl
def PySem.W.Fast.tw12327048062143397137:List PySem.Stmt:=((PySem.Challenge.pw_treeasks_k72_changes_made.main.body.drop 6).take 1)
theorem PySem.W.Fast.te12327048062143397137:((PySem.Challenge.pw_treeasks_k72_changes_made.main.body.drop 6).take 1)=PySem.W.Fast.tw12327048062143397137:=rfl
def PySem.W.Fast.tw222431579262007881:List PySem.Stmt:=((PySem.Challenge.pw_treeasks_k72_changes_made.main.body.drop 5).take 1)
theorem PySem.W.Fast.te222431579262007881:((PySem.Challenge.pw_treeasks_k72_changes_made.main.body.drop 5).take 1)=PySem.W.Fast.tw222431579262007881:=rfl
def PySem.W.Fast.tw6330680355317172077:List PySem.Stmt:=((PySem.Challenge.pw_treeasks_k72_changes_made.main.body.drop 13).take 1)
theorem PySem.W.Fast.te6330680355317172077:((PySem.Challenge.pw_treeasks_k72_changes_made.main.body.drop 13).take 1)=PySem.W.Fast.tw6330680355317172077:=rfl
def PySem.W.Fast.tw18080043254927651996:List PySem.Stmt:=((PySem.Challenge.pw_treeasks_k72_changes_made.main.body.drop 4).take 1)
theorem PySem.W.Fast.te18080043254927651996:((PySem.Challenge.pw_treeasks_k72_changes_made.main.body.drop 4).take 1)=PySem.W.Fast.tw18080043254927651996:=rfl
def PySem.W.Fast.tw3636775890319628473:List PySem.Stmt:=((PySem.Challenge.pw_treeasks_k72_changes_made.main.body.drop 39).take 15)
theorem PySem.W.Fast.te3636775890319628473:((PySem.Challenge.pw_treeasks_k72_changes_made.main.body.drop 39).take 15)=PySem.W.Fast.tw3636775890319628473:=rfl
def PySem.W.Fast.tw11314064392248550667:List PySem.Stmt:=((PySem.Challenge.pw_treeasks_k72_changes_made.main.body.drop 54).take 11)
theorem PySem.W.Fast.te11314064392248550667:((PySem.Challenge.pw_treeasks_k72_changes_made.main.body.drop 54).take 11)=PySem.W.Fast.tw11314064392248550667:=rfl
def PySem.W.Fast.tw7221962532206154794:List PySem.Stmt:=((PySem.Challenge.pw_treeasks_k72_changes_made.main.body.drop 23).take 16)
theorem PySem.W.Fast.te7221962532206154794:((PySem.Challenge.pw_treeasks_k72_changes_made.main.body.drop 23).take 16)=PySem.W.Fast.tw7221962532206154794:=rfl
def PySem.W.Fast.tw9292562536228212260:PySem.Program:=({ PySem.Challenge.pw_treeasks_k72_changes_made with main:={ PySem.Challenge.pw_treeasks_k72_changes_made.main with body:=(PySem.Challenge.pw_treeasks_k72_changes_made.main.body.drop 1).take 14++(PySem.Challenge.pw_treeasks_k72_changes_made.main.body.drop 16).take 4++(PySem.Challenge.pw_treeasks_k72_changes_made.main.body.drop 21).take 7++(PySem.Challenge.pw_treeasks_k72_changes_made.main.body.drop 29).take 5++(PySem.Challenge.pw_treeasks_k72_changes_made.main.body.drop 35).take 5++(PySem.Challenge.pw_treeasks_k72_changes_made.main.body.drop 41).take 4++(PySem.Challenge.pw_treeasks_k72_changes_made.main.body.drop 46).take 1++(PySem.Challenge.pw_treeasks_k72_changes_made.main.body.drop 48).take 5++(PySem.Challenge.pw_treeasks_k72_changes_made.main.body.drop 54).take 9++(PySem.Challenge.pw_treeasks_k72_changes_made.main.body.drop 64).take 12 } }:PySem.Program)
theorem PySem.W.Fast.te9292562536228212260:({ PySem.Challenge.pw_treeasks_k72_changes_made with main:={ PySem.Challenge.pw_treeasks_k72_changes_made.main with body:=(PySem.Challenge.pw_treeasks_k72_changes_made.main.body.drop 1).take 14++(PySem.Challenge.pw_treeasks_k72_changes_made.main.body.drop 16).take 4++(PySem.Challenge.pw_treeasks_k72_changes_made.main.body.drop 21).take 7++(PySem.Challenge.pw_treeasks_k72_changes_made.main.body.drop 29).take 5++(PySem.Challenge.pw_treeasks_k72_changes_made.main.body.drop 35).take 5++(PySem.Challenge.pw_treeasks_k72_changes_made.main.body.drop 41).take 4++(PySem.Challenge.pw_treeasks_k72_changes_made.main.body.drop 46).take 1++(PySem.Challenge.pw_treeasks_k72_changes_made.main.body.drop 48).take 5++(PySem.Challenge.pw_treeasks_k72_changes_made.main.body.drop 54).take 9++(PySem.Challenge.pw_treeasks_k72_changes_made.main.body.drop 64).take 12 } }:PySem.Program)=PySem.W.Fast.tw9292562536228212260:=rfl
def PySem.W.Fast.tw3590127325919131422:List PySem.Stmt:=((PySem.Challenge.pw_treeasks_k72_changes_made.main.body.drop 9).take 1)
theorem PySem.W.Fast.te3590127325919131422:((PySem.Challenge.pw_treeasks_k72_changes_made.main.body.drop 9).take 1)=PySem.W.Fast.tw3590127325919131422:=rfl
def PySem.W.Fast.tw4476581476383339296:List PySem.Stmt:=((PySem.Challenge.pw_treeasks_k72_changes_made.main.body.drop 0).take 2)
theorem PySem.W.Fast.te4476581476383339296:((PySem.Challenge.pw_treeasks_k72_changes_made.main.body.drop 0).take 2)=PySem.W.Fast.tw4476581476383339296:=rfl
def PySem.W.Fast.tw6129065759347909753:List PySem.Stmt:=((PySem.Challenge.pw_treeasks_k72_changes_made.main.body.drop 2).take 1)
theorem PySem.W.Fast.te6129065759347909753:((PySem.Challenge.pw_treeasks_k72_changes_made.main.body.drop 2).take 1)=PySem.W.Fast.tw6129065759347909753:=rfl
def PySem.W.Fast.tw18370369170838599863:List PySem.Stmt:=((PySem.Challenge.pw_treeasks_k72_changes_made.main.body.drop 7).take 1)
theorem PySem.W.Fast.te18370369170838599863:((PySem.Challenge.pw_treeasks_k72_changes_made.main.body.drop 7).take 1)=PySem.W.Fast.tw18370369170838599863:=rfl
def PySem.W.Fast.tw2217566746244913403:List PySem.Stmt:=((PySem.Challenge.pw_treeasks_k72_changes_made.main.body.drop 12).take 1)
theorem PySem.W.Fast.te2217566746244913403:((PySem.Challenge.pw_treeasks_k72_changes_made.main.body.drop 12).take 1)=PySem.W.Fast.tw2217566746244913403:=rfl
def PySem.W.Fast.tw3384719568175288322:List PySem.Stmt:=((PySem.Challenge.pw_treeasks_k72_changes_made.main.body.drop 11).take 1)
theorem PySem.W.Fast.te3384719568175288322:((PySem.Challenge.pw_treeasks_k72_changes_made.main.body.drop 11).take 1)=PySem.W.Fast.tw3384719568175288322:=rfl
def PySem.W.Fast.tw12723721997463857701:List PySem.Stmt:=((PySem.Challenge.pw_treeasks_k72_changes_made.main.body.drop 3).take 1)
theorem PySem.W.Fast.te12723721997463857701:((PySem.Challenge.pw_treeasks_k72_changes_made.main.body.drop 3).take 1)=PySem.W.Fast.tw12723721997463857701:=rfl
def PySem.W.Fast.tw17087522809254879635:List PySem.Stmt:=((PySem.Challenge.pw_treeasks_k72_changes_made.main.body.drop 8).take 1)
theorem PySem.W.Fast.te17087522809254879635:((PySem.Challenge.pw_treeasks_k72_changes_made.main.body.drop 8).take 1)=PySem.W.Fast.tw17087522809254879635:=rfl
def PySem.W.Fast.tw15640852960996822653:List PySem.Stmt:=((PySem.Challenge.pw_treeasks_k72_changes_made.main.body.drop 10).take 1)
theorem PySem.W.Fast.te15640852960996822653:((PySem.Challenge.pw_treeasks_k72_changes_made.main.body.drop 10).take 1)=PySem.W.Fast.tw15640852960996822653:=rfl
namespace Ob
noncomputable section
open PySem
open PySem.Str renaming ofString → S
open PySem.Value renaming str → v, ref → r, int → i, none → n
abbrev F := Params → Obj
noncomputable def d (P : Params) (s : Str) (t : Tok) (w : Value) : DictEntry := ⟨PyData.keyHash P s, .str s t, w⟩
noncomputable def g (k : Nat) (q : Str → Str) : FuncData := match PySem.Challenge.pw_treeasks_k72_changes_made.main.body[k % 1000]? with
  | some (.FunctionDef a b c _ _ _ s _ _ _) => ⟨a,q a,b,.stmts c,s,0,[],n,n,n,n,none,n,n,0⟩
  | some (.ClassDef _ _ _ l _ _ _ _ _ _ _) => (match l[k / 1000]? with
    | some (.FunctionDef a b c _ _ _ s _ _ _) => ⟨a,q a,b,.stmts c,s,0,[],n,n,n,n,none,n,n,0⟩
    | _ => default)
  | _ => default
noncomputable def x (k : Nat) : F := fun _ => ⟨n,none,.func (g k id),#[]⟩
noncomputable def X (k : Nat) (q : Str) : F := fun _ => ⟨n,none,.func (g k fun _ => q),#[]⟩
noncomputable def y (k : Nat) (m c : Value) : F := fun _ => ⟨.type "function",none,.func { g k id with globals := 3, pyModule := m, code := c },#[]⟩
noncomputable def Y (k : Nat) (q : Str) (m c : Value) : F := fun _ => ⟨.type "function",none,.func { g k (fun _ => q) with globals := 3, pyModule := m, code := c },#[]⟩
noncomputable def u (l : List Value) : F := fun _ => ⟨.type "tuple",none,.seq l.toArray 0,#[]⟩
noncomputable def z (l : List Value) : F := fun _ => ⟨n,none,.fields l.toArray,#[]⟩
noncomputable def V (s : String) (t : Tok) : Value := v (S s) t
noncomputable def q (s : String) (t1 t2 t3 : Tok) (l a b c e : Int) (r1 : Addr) (m : Int) (r2 r3 r4 r5 : Addr) (t : Int) (t4 : Tok) : F := fun _ => ⟨.type "code",none,.fields #[v (S s) t1,v (S s) t2,v (S "/claim/cut.py") t3,i l 0,i a 0,i b 0,i c 0,i e 0,r r1,.bool true,i m 0,r r2,n,r r3,r r4,r r5,i t 0,i l 0,v (S "/claim/cut.py") t4],#[]⟩
noncomputable def k (l : List Value) : F := fun _ => ⟨.type "code",none,.fields l.toArray,#[]⟩
noncomputable def w (f : F) (a b : Params → W.BT) : Params → W.BT := fun P => .node (f P) (a P) (b P)
noncomputable def e : Params → W.BT := fun _ => .nil
noncomputable def o (f : F) : Params → W.BT := w f e e
noncomputable def ha(p0:String)(p1:Nat)(p2:Int)(p3:Nat)(p4:Int):F:=k [(V p0 p1),(V p0 (p1+1)),(V "/claim/cut.py" (p1+2)),(i p2 0),(i 0 0),(i 0 0),(i 0 0),(i 0 0),(r p3),(.bool .false),(i 181 0),(r (p3+1)),n,n,n,n,(i p4 0),(i p2 0),(V "/claim/cut.py" (p1+4))]
noncomputable def hb(p0:Nat)(p1:Nat)(p2:String)(p3:Nat):F:=fun P=>⟨(.type "frame"),none,.plain,#[(some (r p0)),(some (r 3)),(some (r p1)),none,(some (V p2 p3)),none,(some (r 0))]⟩
noncomputable def hc(p0:Nat):F:=fun P=>⟨(.type "builtin_function_or_method"),none,(.fields #[(.builtin "object.__init_subclass__"),(r p0)]),#[]⟩
noncomputable def hd(p0:Nat):F:=fun P=>⟨(.type "super"),none,(.fields #[(r p0),(r p0),(r p0)]),#[]⟩
noncomputable def he(p0:String)(p1:Nat)(p2:String):F:=u [(V p0 p1),(V p2 (p1+1))]
noncomputable def hf(p0:String)(p1:Nat)(p2:Nat)(p3:Nat)(p4:Nat):F:=fun P=>⟨(.type "type"),none,(.cls ⟨(S p0),[(r 24)],[(r p1),(r 24),(.type "ValueError"),(.type "Exception"),(.type "BaseException"),(.type "object")],p2,(S p0),.true,[],[],.false,none,.false⟩),#[(some (r p3)),none,(some (V p0 p4)),(some (V p0 (p4+8))),(some (.builtin "ValueError.__new__")),(some (.bool .true))]⟩
noncomputable def hg(p0:String)(p1:Nat)(p2:String)(p3:String):F:=u [(V p0 p1),(V p2 (p1+1)),(V p3 (p1+2))]
noncomputable def hh(p0:Nat)(p1:Int)(p2:String)(p3:Nat)(p4:Nat)(p5:String)(p6:Nat)(p7:Nat)(p8:Nat):F:=fun P=>⟨(.type "dict"),none,(.dict #[(d P (S "__module__") p0 (v (S "treeasks.errors") 187)),(d P (S "__firstlineno__") (p0+4) (i p1 (p0+3))),(d P (S p2) p3 (r p4)),(d P (S p5) p6 (r p7)),(d P (S "__doc__") (p6+1) n)] p8),#[]⟩
noncomputable def hi(p0:Nat)(p1:String)(p2:Nat):F:=Y p0 (S p1) (V "treeasks.errors" 187) (r p2)
noncomputable def hj(p0:Nat)(p1:String)(p2:Int)(p3:Nat)(p4:Nat)(p5:Nat):F:=fun P=>⟨(.type "dict"),none,(.dict #[(d P (S "__module__") p0 (v (S "treeasks.errors") 187)),(d P (S "__qualname__") (p0+2) (v (S p1) (p0+1))),(d P (S "__firstlineno__") (p0+4) (i p2 (p0+3))),(d P (S "__init__") p3 (r p4)),(d P (S "__static_attributes__") p5 (r (p4+1)))] 5),#[]⟩
noncomputable def hk(p0:Int)(p1:Nat):F:=z [(i p0 0),(i 4 0),(r p1)]
noncomputable def hl(p0:Nat)(p1:String)(p2:Int)(p3:Int)(p4:Nat)(p5:Int)(p6:Nat):F:=k [(V "__init__" p0),(V p1 (p0+1)),(V "/claim/cut.py" (p0+2)),(i p2 0),(i p3 0),(i 0 0),(i 0 0),(i 3 0),(r p4),(.bool .true),(i 181 0),(r (p4+1)),n,(r (p4+2)),(r (p4+3)),(r (p4+4)),(i p5 0),(i p2 0),(V "/claim/cut.py" p6)]
noncomputable def hm(p0:Nat)(p1:String)(p2:Int)(p3:Nat):F:=fun P=>⟨(.type "dict"),none,(.dict #[(d P (S "__module__") p0 (v (S "treeasks.errors") 187)),(d P (S "__qualname__") (p0+2) (v (S p1) (p0+1))),(d P (S "__firstlineno__") (p0+4) (i p2 (p0+3))),(d P (S "__static_attributes__") (p0+5) (r p3))] 4),#[]⟩
noncomputable def hn(p0:Nat)(p1:Int)(p2:Nat):F:=fun P=>⟨(.type "dict"),none,(.dict #[(d P (S "__module__") p0 (v (S "treeasks.errors") 187)),(d P (S "__firstlineno__") (p0+4) (i p1 (p0+3))),(d P (S "__static_attributes__") (p0+5) (r p2)),(d P (S "__doc__") (p0+6) n)] 2),#[]⟩
noncomputable def ho(p0:String)(p1:Nat)(p2:Int)(p3:Int)(p4:Nat)(p5:Int):F:=k [(V p0 p1),(V p0 (p1+1)),(V "/claim/cut.py" (p1+2)),(i p2 0),(i p3 0),(i 0 0),(i 0 0),(i 3 0),(r p4),(.bool .true),(i 181 0),(r (p4+1)),n,n,n,(r (p4+2)),(i p5 0),(i p2 0),(V "/claim/cut.py" (p1+4))]
noncomputable def hp(p0:Nat)(p1:String)(p2:String)(p3:String)(p4:String):F:=u [(V "tree" p0),(V p1 (p0+1)),(V p2 (p0+2)),(V p3 (p0+3)),(V p4 (p0+4))]
noncomputable def zl:List (Nat×Nat×Nat)→List Value
  | []=>[]
  | (a,b,c)::t=>i (Int.ofNat a) 0::i (Int.ofNat b) 0::r c::zl t
def zz:List Value:=zl [(2,0,20),(4,0,33),(10,0,52),(15,0,71),(20,0,90),(25,0,109),(30,0,128),(35,0,147),(40,0,166),(42,0,178),(44,0,190),(46,0,202),(48,0,214),(50,0,226),(53,0,238),(55,0,245),(57,0,252),(61,0,259),(71,0,266),(78,0,273),(88,0,280),(90,0,287),(92,0,294),(98,0,301),(103,0,308),(111,0,315),(120,0,322),(122,0,329),(124,0,334),(129,0,341),(132,0,348),(136,0,355),(143,0,362),(147,0,369),(150,0,376),(160,0,383),(162,0,390),(172,0,395),(176,0,400),(180,0,405),(186,0,413),(194,0,420),(202,0,427),(211,0,434),(221,0,441),(223,0,446),(232,0,453),(236,0,460),(241,0,467)]
def A130:F:=fun P=>⟨(.type "dict"),none,(.dict #[(d P (S "__name__") 165 (v (S "treeasks.errors") 187)),(d P (S "__doc__") 166 n),(d P (S "__package__") 167 n),(d P (S "__loader__") 168 (.builtin "__main__.__loader__#opaque")),(d P (S "__spec__") 169 n),(d P (S "__annotations__") 170 (r 6)),(d P (S "__builtins__") 171 (r 4)),(d P (S "__file__") 173 (v (S "/claim/cut.py") 172)),(d P (S "__cached__") 174 n),(d P (S "AskError") 206 (r 24)),(d P (S "NoTree") 233 (r 44)),(d P (S "NoAsks") 258 (r 63)),(d P (S "NoKeep") 283 (r 82)),(d P (S "NoPrices") 308 (r 101))] 14),#[]⟩
def a1h:F:=fun P=>⟨(.type "type"),none,(.cls ⟨(S "AskError"),[(.type "ValueError")],[(r 24),(.type "ValueError"),(.type "Exception"),(.type "BaseException"),(.type "object")],23,(S "AskError"),.true,[],[(r 44),(r 63),(r 82),(r 101)],.false,none,.false⟩),#[(some (r 15)),none,(some (V "AskError" 189)),(some (V "AskError" 197)),(some (.builtin "ValueError.__new__")),(some (.bool .true))]⟩
def a1m:F:=z [(i 2 0),(i 0 0),(r 20),(i 4 0),(i 0 0),(r 33),(i 10 0),(i 0 0),(r 52),(i 15 0),(i 0 0),(r 71),(i 20 0),(i 0 0),(r 90)]
def A152:F:=fun P=>⟨(.type "dict"),none,(.dict #[(d P (S "__name__") 165 (v (S "treeasks.errors") 187)),(d P (S "__doc__") 166 n),(d P (S "__package__") 167 n),(d P (S "__loader__") 168 (.builtin "__main__.__loader__#opaque")),(d P (S "__spec__") 169 n),(d P (S "__annotations__") 170 (r 6)),(d P (S "__builtins__") 171 (r 4)),(d P (S "__file__") 173 (v (S "/claim/cut.py") 172)),(d P (S "__cached__") 174 n),(d P (S "AskError") 206 (r 24)),(d P (S "NoTree") 233 (r 44)),(d P (S "NoAsks") 258 (r 63)),(d P (S "NoKeep") 283 (r 82)),(d P (S "NoPrices") 308 (r 101)),(d P (S "NoShare") 333 (r 120))] 15),#[]⟩
def a2v:F:=fun P=>⟨(.type "type"),none,(.cls ⟨(S "AskError"),[(.type "ValueError")],[(r 24),(.type "ValueError"),(.type "Exception"),(.type "BaseException"),(.type "object")],23,(S "AskError"),.true,[],[(r 44),(r 63),(r 82),(r 101),(r 120)],.false,none,.false⟩),#[(some (r 15)),none,(some (V "AskError" 189)),(some (V "AskError" 197)),(some (.builtin "ValueError.__new__")),(some (.bool .true))]⟩
def a2y:F:=z [(i 2 0),(i 0 0),(r 20),(i 4 0),(i 0 0),(r 33),(i 10 0),(i 0 0),(r 52),(i 15 0),(i 0 0),(r 71),(i 20 0),(i 0 0),(r 90),(i 25 0),(i 0 0),(r 109)]
def A174:F:=fun P=>⟨(.type "dict"),none,(.dict #[(d P (S "__name__") 165 (v (S "treeasks.errors") 187)),(d P (S "__doc__") 166 n),(d P (S "__package__") 167 n),(d P (S "__loader__") 168 (.builtin "__main__.__loader__#opaque")),(d P (S "__spec__") 169 n),(d P (S "__annotations__") 170 (r 6)),(d P (S "__builtins__") 171 (r 4)),(d P (S "__file__") 173 (v (S "/claim/cut.py") 172)),(d P (S "__cached__") 174 n),(d P (S "AskError") 206 (r 24)),(d P (S "NoTree") 233 (r 44)),(d P (S "NoAsks") 258 (r 63)),(d P (S "NoKeep") 283 (r 82)),(d P (S "NoPrices") 308 (r 101)),(d P (S "NoShare") 333 (r 120)),(d P (S "NoPointing") 358 (r 139))] 16),#[]⟩
def a3h:F:=fun P=>⟨(.type "type"),none,(.cls ⟨(S "AskError"),[(.type "ValueError")],[(r 24),(.type "ValueError"),(.type "Exception"),(.type "BaseException"),(.type "object")],23,(S "AskError"),.true,[],[(r 44),(r 63),(r 82),(r 101),(r 120),(r 139)],.false,none,.false⟩),#[(some (r 15)),none,(some (V "AskError" 189)),(some (V "AskError" 197)),(some (.builtin "ValueError.__new__")),(some (.bool .true))]⟩
def a3j:F:=z [(i 2 0),(i 0 0),(r 20),(i 4 0),(i 0 0),(r 33),(i 10 0),(i 0 0),(r 52),(i 15 0),(i 0 0),(r 71),(i 20 0),(i 0 0),(r 90),(i 25 0),(i 0 0),(r 109),(i 30 0),(i 0 0),(r 128)]
def A196:F:=fun P=>⟨(.type "dict"),none,(.dict #[(d P (S "__name__") 165 (v (S "treeasks.errors") 187)),(d P (S "__doc__") 166 n),(d P (S "__package__") 167 n),(d P (S "__loader__") 168 (.builtin "__main__.__loader__#opaque")),(d P (S "__spec__") 169 n),(d P (S "__annotations__") 170 (r 6)),(d P (S "__builtins__") 171 (r 4)),(d P (S "__file__") 173 (v (S "/claim/cut.py") 172)),(d P (S "__cached__") 174 n),(d P (S "AskError") 206 (r 24)),(d P (S "NoTree") 233 (r 44)),(d P (S "NoAsks") 258 (r 63)),(d P (S "NoKeep") 283 (r 82)),(d P (S "NoPrices") 308 (r 101)),(d P (S "NoShare") 333 (r 120)),(d P (S "NoPointing") 358 (r 139)),(d P (S "NoText") 383 (r 158))] 17),#[]⟩
def a42:F:=fun P=>⟨(.type "type"),none,(.cls ⟨(S "AskError"),[(.type "ValueError")],[(r 24),(.type "ValueError"),(.type "Exception"),(.type "BaseException"),(.type "object")],23,(S "AskError"),.true,[],[(r 44),(r 63),(r 82),(r 101),(r 120),(r 139),(r 158)],.false,none,.false⟩),#[(some (r 15)),none,(some (V "AskError" 189)),(some (V "AskError" 197)),(some (.builtin "ValueError.__new__")),(some (.bool .true))]⟩
def a44:F:=z [(i 2 0),(i 0 0),(r 20),(i 4 0),(i 0 0),(r 33),(i 10 0),(i 0 0),(r 52),(i 15 0),(i 0 0),(r 71),(i 20 0),(i 0 0),(r 90),(i 25 0),(i 0 0),(r 109),(i 30 0),(i 0 0),(r 128),(i 35 0),(i 0 0),(r 147)]
def A218:F:=fun P=>⟨(.type "dict"),none,(.dict #[(d P (S "__name__") 165 (v (S "treeasks.errors") 187)),(d P (S "__doc__") 166 n),(d P (S "__package__") 167 n),(d P (S "__loader__") 168 (.builtin "__main__.__loader__#opaque")),(d P (S "__spec__") 169 n),(d P (S "__annotations__") 170 (r 6)),(d P (S "__builtins__") 171 (r 4)),(d P (S "__file__") 173 (v (S "/claim/cut.py") 172)),(d P (S "__cached__") 174 n),(d P (S "AskError") 206 (r 24)),(d P (S "NoTree") 233 (r 44)),(d P (S "NoAsks") 258 (r 63)),(d P (S "NoKeep") 283 (r 82)),(d P (S "NoPrices") 308 (r 101)),(d P (S "NoShare") 333 (r 120)),(d P (S "NoPointing") 358 (r 139)),(d P (S "NoText") 383 (r 158)),(d P (S "NoNumber") 399 (r 170))] 18),#[]⟩
def a4i:F:=fun P=>⟨(.type "type"),none,(.cls ⟨(S "AskError"),[(.type "ValueError")],[(r 24),(.type "ValueError"),(.type "Exception"),(.type "BaseException"),(.type "object")],23,(S "AskError"),.true,[],[(r 44),(r 63),(r 82),(r 101),(r 120),(r 139),(r 158),(r 170)],.false,none,.false⟩),#[(some (r 15)),none,(some (V "AskError" 189)),(some (V "AskError" 197)),(some (.builtin "ValueError.__new__")),(some (.bool .true))]⟩
def a4k:F:=z [(i 2 0),(i 0 0),(r 20),(i 4 0),(i 0 0),(r 33),(i 10 0),(i 0 0),(r 52),(i 15 0),(i 0 0),(r 71),(i 20 0),(i 0 0),(r 90),(i 25 0),(i 0 0),(r 109),(i 30 0),(i 0 0),(r 128),(i 35 0),(i 0 0),(r 147),(i 40 0),(i 0 0),(r 166)]
def A233:F:=fun P=>⟨(.type "dict"),none,(.dict #[(d P (S "__name__") 165 (v (S "treeasks.errors") 187)),(d P (S "__doc__") 166 n),(d P (S "__package__") 167 n),(d P (S "__loader__") 168 (.builtin "__main__.__loader__#opaque")),(d P (S "__spec__") 169 n),(d P (S "__annotations__") 170 (r 6)),(d P (S "__builtins__") 171 (r 4)),(d P (S "__file__") 173 (v (S "/claim/cut.py") 172)),(d P (S "__cached__") 174 n),(d P (S "AskError") 206 (r 24)),(d P (S "NoTree") 233 (r 44)),(d P (S "NoAsks") 258 (r 63)),(d P (S "NoKeep") 283 (r 82)),(d P (S "NoPrices") 308 (r 101)),(d P (S "NoShare") 333 (r 120)),(d P (S "NoPointing") 358 (r 139)),(d P (S "NoText") 383 (r 158)),(d P (S "NoNumber") 399 (r 170)),(d P (S "NoPlace") 415 (r 182))] 19),#[]⟩
def a4x:F:=fun P=>⟨(.type "type"),none,(.cls ⟨(S "AskError"),[(.type "ValueError")],[(r 24),(.type "ValueError"),(.type "Exception"),(.type "BaseException"),(.type "object")],23,(S "AskError"),.true,[],[(r 44),(r 63),(r 82),(r 101),(r 120),(r 139),(r 158),(r 170),(r 182)],.false,none,.false⟩),#[(some (r 15)),none,(some (V "AskError" 189)),(some (V "AskError" 197)),(some (.builtin "ValueError.__new__")),(some (.bool .true))]⟩
def a4z:F:=z [(i 2 0),(i 0 0),(r 20),(i 4 0),(i 0 0),(r 33),(i 10 0),(i 0 0),(r 52),(i 15 0),(i 0 0),(r 71),(i 20 0),(i 0 0),(r 90),(i 25 0),(i 0 0),(r 109),(i 30 0),(i 0 0),(r 128),(i 35 0),(i 0 0),(r 147),(i 40 0),(i 0 0),(r 166),(i 42 0),(i 0 0),(r 178)]
def A248:F:=fun P=>⟨(.type "dict"),none,(.dict #[(d P (S "__name__") 165 (v (S "treeasks.errors") 187)),(d P (S "__doc__") 166 n),(d P (S "__package__") 167 n),(d P (S "__loader__") 168 (.builtin "__main__.__loader__#opaque")),(d P (S "__spec__") 169 n),(d P (S "__annotations__") 170 (r 6)),(d P (S "__builtins__") 171 (r 4)),(d P (S "__file__") 173 (v (S "/claim/cut.py") 172)),(d P (S "__cached__") 174 n),(d P (S "AskError") 206 (r 24)),(d P (S "NoTree") 233 (r 44)),(d P (S "NoAsks") 258 (r 63)),(d P (S "NoKeep") 283 (r 82)),(d P (S "NoPrices") 308 (r 101)),(d P (S "NoShare") 333 (r 120)),(d P (S "NoPointing") 358 (r 139)),(d P (S "NoText") 383 (r 158)),(d P (S "NoNumber") 399 (r 170)),(d P (S "NoPlace") 415 (r 182)),(d P (S "NoChange") 431 (r 194))] 20),#[]⟩
def a5b:F:=fun P=>⟨(.type "type"),none,(.cls ⟨(S "AskError"),[(.type "ValueError")],[(r 24),(.type "ValueError"),(.type "Exception"),(.type "BaseException"),(.type "object")],23,(S "AskError"),.true,[],[(r 44),(r 63),(r 82),(r 101),(r 120),(r 139),(r 158),(r 170),(r 182),(r 194)],.false,none,.false⟩),#[(some (r 15)),none,(some (V "AskError" 189)),(some (V "AskError" 197)),(some (.builtin "ValueError.__new__")),(some (.bool .true))]⟩
def a5c:F:=z [(i 2 0),(i 0 0),(r 20),(i 4 0),(i 0 0),(r 33),(i 10 0),(i 0 0),(r 52),(i 15 0),(i 0 0),(r 71),(i 20 0),(i 0 0),(r 90),(i 25 0),(i 0 0),(r 109),(i 30 0),(i 0 0),(r 128),(i 35 0),(i 0 0),(r 147),(i 40 0),(i 0 0),(r 166),(i 42 0),(i 0 0),(r 178),(i 44 0),(i 0 0),(r 190)]
def A263:F:=fun P=>⟨(.type "dict"),none,(.dict #[(d P (S "__name__") 165 (v (S "treeasks.errors") 187)),(d P (S "__doc__") 166 n),(d P (S "__package__") 167 n),(d P (S "__loader__") 168 (.builtin "__main__.__loader__#opaque")),(d P (S "__spec__") 169 n),(d P (S "__annotations__") 170 (r 6)),(d P (S "__builtins__") 171 (r 4)),(d P (S "__file__") 173 (v (S "/claim/cut.py") 172)),(d P (S "__cached__") 174 n),(d P (S "AskError") 206 (r 24)),(d P (S "NoTree") 233 (r 44)),(d P (S "NoAsks") 258 (r 63)),(d P (S "NoKeep") 283 (r 82)),(d P (S "NoPrices") 308 (r 101)),(d P (S "NoShare") 333 (r 120)),(d P (S "NoPointing") 358 (r 139)),(d P (S "NoText") 383 (r 158)),(d P (S "NoNumber") 399 (r 170)),(d P (S "NoPlace") 415 (r 182)),(d P (S "NoChange") 431 (r 194)),(d P (S "TooMany") 447 (r 206))] 21),#[]⟩
def a5p:F:=fun P=>⟨(.type "type"),none,(.cls ⟨(S "AskError"),[(.type "ValueError")],[(r 24),(.type "ValueError"),(.type "Exception"),(.type "BaseException"),(.type "object")],23,(S "AskError"),.true,[],[(r 44),(r 63),(r 82),(r 101),(r 120),(r 139),(r 158),(r 170),(r 182),(r 194),(r 206)],.false,none,.false⟩),#[(some (r 15)),none,(some (V "AskError" 189)),(some (V "AskError" 197)),(some (.builtin "ValueError.__new__")),(some (.bool .true))]⟩
def a5r:F:=z (zz.take 36)
def A278:F:=fun P=>⟨(.type "dict"),none,(.dict #[(d P (S "__name__") 165 (v (S "treeasks.errors") 187)),(d P (S "__doc__") 166 n),(d P (S "__package__") 167 n),(d P (S "__loader__") 168 (.builtin "__main__.__loader__#opaque")),(d P (S "__spec__") 169 n),(d P (S "__annotations__") 170 (r 6)),(d P (S "__builtins__") 171 (r 4)),(d P (S "__file__") 173 (v (S "/claim/cut.py") 172)),(d P (S "__cached__") 174 n),(d P (S "AskError") 206 (r 24)),(d P (S "NoTree") 233 (r 44)),(d P (S "NoAsks") 258 (r 63)),(d P (S "NoKeep") 283 (r 82)),(d P (S "NoPrices") 308 (r 101)),(d P (S "NoShare") 333 (r 120)),(d P (S "NoPointing") 358 (r 139)),(d P (S "NoText") 383 (r 158)),(d P (S "NoNumber") 399 (r 170)),(d P (S "NoPlace") 415 (r 182)),(d P (S "NoChange") 431 (r 194)),(d P (S "TooMany") 447 (r 206)),(d P (S "NoRow") 463 (r 218))] 22),#[]⟩
def a62:F:=fun P=>⟨(.type "type"),none,(.cls ⟨(S "AskError"),[(.type "ValueError")],[(r 24),(.type "ValueError"),(.type "Exception"),(.type "BaseException"),(.type "object")],23,(S "AskError"),.true,[],[(r 44),(r 63),(r 82),(r 101),(r 120),(r 139),(r 158),(r 170),(r 182),(r 194),(r 206),(r 218)],.false,none,.false⟩),#[(some (r 15)),none,(some (V "AskError" 189)),(some (V "AskError" 197)),(some (.builtin "ValueError.__new__")),(some (.bool .true))]⟩
def a64:F:=z (zz.take 39)
def A293:F:=fun P=>⟨(.type "dict"),none,(.dict #[(d P (S "__name__") 165 (v (S "treeasks.trees") 515)),(d P (S "__doc__") 166 n),(d P (S "__package__") 167 n),(d P (S "__loader__") 168 (.builtin "__main__.__loader__#opaque")),(d P (S "__spec__") 169 n),(d P (S "__annotations__") 170 (r 6)),(d P (S "__builtins__") 171 (r 4)),(d P (S "__file__") 173 (v (S "/claim/cut.py") 172)),(d P (S "__cached__") 174 n),(d P (S "AskError") 206 (r 24)),(d P (S "NoTree") 233 (r 44)),(d P (S "NoAsks") 258 (r 63)),(d P (S "NoKeep") 283 (r 82)),(d P (S "NoPrices") 308 (r 101)),(d P (S "NoShare") 333 (r 120)),(d P (S "NoPointing") 358 (r 139)),(d P (S "NoText") 383 (r 158)),(d P (S "NoNumber") 399 (r 170)),(d P (S "NoPlace") 415 (r 182)),(d P (S "NoChange") 431 (r 194)),(d P (S "TooMany") 447 (r 206)),(d P (S "NoRow") 463 (r 218)),(d P (S "NoName") 479 (r 230)),(d P (S "is_whole") 488 (r 239)),(d P (S "is_between") 497 (r 246)),(d P (S "greatest_common") 505 (r 253)),(d P (S "is_fraction") 514 (r 260)),(d P (S "MOST_TIES") 518 (i 23 517)),(d P (S "MOST_ROOM") 520 (i 1000000 519))] 29),#[]⟩
def a6x:F:=fun P=>⟨(.type "type"),none,(.cls ⟨(S "AskError"),[(.type "ValueError")],[(r 24),(.type "ValueError"),(.type "Exception"),(.type "BaseException"),(.type "object")],23,(S "AskError"),.true,[],[(r 44),(r 63),(r 82),(r 101),(r 120),(r 139),(r 158),(r 170),(r 182),(r 194),(r 206),(r 218),(r 230)],.false,none,.false⟩),#[(some (r 15)),none,(some (V "AskError" 189)),(some (V "AskError" 197)),(some (.builtin "ValueError.__new__")),(some (.bool .true))]⟩
def a70:F:=z (zz.take 54)
def A336:F:=fun P=>⟨(.type "dict"),none,(.dict #[(d P (S "__name__") 165 (v (S "treeasks.fractions") 597)),(d P (S "__doc__") 166 n),(d P (S "__package__") 167 n),(d P (S "__loader__") 168 (.builtin "__main__.__loader__#opaque")),(d P (S "__spec__") 169 n),(d P (S "__annotations__") 170 (r 6)),(d P (S "__builtins__") 171 (r 4)),(d P (S "__file__") 173 (v (S "/claim/cut.py") 172)),(d P (S "__cached__") 174 n),(d P (S "AskError") 206 (r 24)),(d P (S "NoTree") 233 (r 44)),(d P (S "NoAsks") 258 (r 63)),(d P (S "NoKeep") 283 (r 82)),(d P (S "NoPrices") 308 (r 101)),(d P (S "NoShare") 333 (r 120)),(d P (S "NoPointing") 358 (r 139)),(d P (S "NoText") 383 (r 158)),(d P (S "NoNumber") 399 (r 170)),(d P (S "NoPlace") 415 (r 182)),(d P (S "NoChange") 431 (r 194)),(d P (S "TooMany") 447 (r 206)),(d P (S "NoRow") 463 (r 218)),(d P (S "NoName") 479 (r 230)),(d P (S "is_whole") 488 (r 239)),(d P (S "is_between") 497 (r 246)),(d P (S "greatest_common") 505 (r 253)),(d P (S "is_fraction") 514 (r 260)),(d P (S "MOST_TIES") 518 (i 23 517)),(d P (S "MOST_ROOM") 520 (i 1000000 519)),(d P (S "has_two_lists") 529 (r 267)),(d P (S "look_at_tree") 541 (r 274)),(d P (S "is_place") 549 (r 281)),(d P (S "is_tie") 557 (r 288)),(d P (S "are_ends") 566 (r 295)),(d P (S "MOST_ASKS") 570 (i 30 569)),(d P (S "MOST_SIZE") 572 (i 1000000 571)),(d P (S "MOST_WORTH") 574 (i 1000000000000 573)),(d P (S "is_ask") 586 (r 302)),(d P (S "look_at_asks") 596 (r 309)),(d P (S "fraction") 607 (r 316)),(d P (S "minus") 615 (r 323)),(d P (S "times") 623 (r 330)),(d P (S "sum_of") 629 (r 335))] 43),#[]⟩
def a8r:F:=z (zz.take 87)
def A413:F:=fun P=>⟨(.type "dict"),none,(.dict #[(d P (S "__name__") 165 (v (S "treeasks.changes") 731)),(d P (S "__doc__") 166 n),(d P (S "__package__") 167 n),(d P (S "__loader__") 168 (.builtin "__main__.__loader__#opaque")),(d P (S "__spec__") 169 n),(d P (S "__annotations__") 170 (r 6)),(d P (S "__builtins__") 171 (r 4)),(d P (S "__file__") 173 (v (S "/claim/cut.py") 172)),(d P (S "__cached__") 174 n),(d P (S "AskError") 206 (r 24)),(d P (S "NoTree") 233 (r 44)),(d P (S "NoAsks") 258 (r 63)),(d P (S "NoKeep") 283 (r 82)),(d P (S "NoPrices") 308 (r 101)),(d P (S "NoShare") 333 (r 120)),(d P (S "NoPointing") 358 (r 139)),(d P (S "NoText") 383 (r 158)),(d P (S "NoNumber") 399 (r 170)),(d P (S "NoPlace") 415 (r 182)),(d P (S "NoChange") 431 (r 194)),(d P (S "TooMany") 447 (r 206)),(d P (S "NoRow") 463 (r 218)),(d P (S "NoName") 479 (r 230)),(d P (S "is_whole") 488 (r 239)),(d P (S "is_between") 497 (r 246)),(d P (S "greatest_common") 505 (r 253)),(d P (S "is_fraction") 514 (r 260)),(d P (S "MOST_TIES") 518 (i 23 517)),(d P (S "MOST_ROOM") 520 (i 1000000 519)),(d P (S "has_two_lists") 529 (r 267)),(d P (S "look_at_tree") 541 (r 274)),(d P (S "is_place") 549 (r 281)),(d P (S "is_tie") 557 (r 288)),(d P (S "are_ends") 566 (r 295)),(d P (S "MOST_ASKS") 570 (i 30 569)),(d P (S "MOST_SIZE") 572 (i 1000000 571)),(d P (S "MOST_WORTH") 574 (i 1000000000000 573)),(d P (S "is_ask") 586 (r 302)),(d P (S "look_at_asks") 596 (r 309)),(d P (S "fraction") 607 (r 316)),(d P (S "minus") 615 (r 323)),(d P (S "times") 623 (r 330)),(d P (S "sum_of") 629 (r 335)),(d P (S "under") 637 (r 342)),(d P (S "look_at_ends") 648 (r 349)),(d P (S "climb") 659 (r 356)),(d P (S "way_between") 670 (r 363)),(d P (S "way_of") 678 (r 370)),(d P (S "look_at_keep") 692 (r 377)),(d P (S "is_price") 701 (r 384)),(d P (S "look_at_prices") 712 (r 391)),(d P (S "spare_of") 718 (r 396)),(d P (S "spares") 724 (r 401)),(d P (S "bound_of") 730 (r 406))] 54),#[]⟩
def aas:F:=z (zz.take 120)
def A486:F:=fun P=>⟨(.type "dict"),none,(.dict #[(d P (S "__name__") 165 (v (S "law_treeasks_k72_changes_made") 826)),(d P (S "__doc__") 166 n),(d P (S "__package__") 167 n),(d P (S "__loader__") 168 (.builtin "__main__.__loader__#opaque")),(d P (S "__spec__") 169 n),(d P (S "__annotations__") 170 (r 6)),(d P (S "__builtins__") 171 (r 4)),(d P (S "__file__") 173 (v (S "/claim/cut.py") 172)),(d P (S "__cached__") 174 n),(d P (S "AskError") 206 (r 24)),(d P (S "NoTree") 233 (r 44)),(d P (S "NoAsks") 258 (r 63)),(d P (S "NoKeep") 283 (r 82)),(d P (S "NoPrices") 308 (r 101)),(d P (S "NoShare") 333 (r 120)),(d P (S "NoPointing") 358 (r 139)),(d P (S "NoText") 383 (r 158)),(d P (S "NoNumber") 399 (r 170)),(d P (S "NoPlace") 415 (r 182)),(d P (S "NoChange") 431 (r 194)),(d P (S "TooMany") 447 (r 206)),(d P (S "NoRow") 463 (r 218)),(d P (S "NoName") 479 (r 230)),(d P (S "is_whole") 488 (r 239)),(d P (S "is_between") 497 (r 246)),(d P (S "greatest_common") 505 (r 253)),(d P (S "is_fraction") 514 (r 260)),(d P (S "MOST_TIES") 518 (i 23 517)),(d P (S "MOST_ROOM") 520 (i 1000000 519)),(d P (S "has_two_lists") 529 (r 267)),(d P (S "look_at_tree") 541 (r 274)),(d P (S "is_place") 549 (r 281)),(d P (S "is_tie") 557 (r 288)),(d P (S "are_ends") 566 (r 295)),(d P (S "MOST_ASKS") 570 (i 30 569)),(d P (S "MOST_SIZE") 572 (i 1000000 571)),(d P (S "MOST_WORTH") 574 (i 1000000000000 573)),(d P (S "is_ask") 586 (r 302)),(d P (S "look_at_asks") 596 (r 309)),(d P (S "fraction") 607 (r 316)),(d P (S "minus") 615 (r 323)),(d P (S "times") 623 (r 330)),(d P (S "sum_of") 629 (r 335)),(d P (S "under") 637 (r 342)),(d P (S "look_at_ends") 648 (r 349)),(d P (S "climb") 659 (r 356)),(d P (S "way_between") 670 (r 363)),(d P (S "way_of") 678 (r 370)),(d P (S "look_at_keep") 692 (r 377)),(d P (S "is_price") 701 (r 384)),(d P (S "look_at_prices") 712 (r 391)),(d P (S "spare_of") 718 (r 396)),(d P (S "spares") 724 (r 401)),(d P (S "bound_of") 730 (r 406)),(d P (S "LENGTHS") 748 (r 407)),(d P (S "is_change") 757 (r 414)),(d P (S "changed_tree") 767 (r 421)),(d P (S "changed_asks") 776 (r 428)),(d P (S "changed") 787 (r 435)),(d P (S "look_at_change") 796 (r 442)),(d P (S "carried_keep") 802 (r 447)),(d P (S "carried_prices") 812 (r 454)),(d P (S "bound_turned") 825 (r 461)),(d P (S "_law_pool") 837 (r 468))] 64),#[]⟩
def acn:F:=z (zz.take 147)
lay_quick Ob.A130
noncomputable def od : List F → List F
  | a::_::l=>a::od l
  | l=>l
noncomputable def ev : List F → List F
  | _::b::l=>b::ev l
  | _=>[]
noncomputable def bt : Nat → List F → Params → W.BT
  | k+1,f::l=>w f (bt k (od l)) (bt k (ev l))
  | _,_=>e
open W in
def lL (Q P0 P1:F):List F:=[boot_o_0,boot_o_1,boot_o_2,Q,boot_o_4,boot_o_5,boot_o_6,boot_o_7,boot_o_8,boot_o_9,boot_o_10,u [],P0,ha "<module>" 182 1 11 185,hb 13 3 "__main__" 164,u [(.type "ValueError")],(fun P=>⟨(.type "builtin_function_or_method"),none,(.fields #[(.builtin "type.__prepare__"),(.type "type")]),#[]⟩),hm 196 "AskError" 2 22,u [],z [],ha "AskError" 191 2 18 194,hb 20 17 "treeasks.errors" 187,u [],hh 196 2 "__static_attributes__" 201 22 "__weakref__" 203 25 3,P1,(fun P=>⟨(.type "getset_descriptor"),none,(.fields #[(V "__weakref__" 202),(r 24),(.builtin "ExceptionGroup.__weakref__"),n]),#[]⟩),hd 24,hc 24,u [(r 24)],(fun P=>⟨(.type "builtin_function_or_method"),none,(.fields #[(.builtin "type.__prepare__"),(.type "type")]),#[]⟩),hj 214 "NoTree" 4 227 41 230,u [],hk 6 40,ha "NoTree" 209 4 31 212,hb 33 30 "treeasks.errors" 187,u [],z [],hg "self" 222 "part" "number",u [],X 2 (S "NoTree.__init__"),hl 219 "NoTree.__init__" 6 3 35 225 226,hi 2 "NoTree.__init__" 40,he "number" 228 "part",hh 214 4 "__init__" 227 41 "__static_attributes__" 230 42 2,hf "NoTree" 44 43 28 207,hd 44,hc 44,u [(r 24)],(fun P=>⟨(.type "builtin_function_or_method"),none,(.fields #[(.builtin "type.__prepare__"),(.type "type")]),#[]⟩),hj 241 "NoAsks" 10 253 60 255,u [],hk 12 59,ha "NoAsks" 236 10 50 239,hb 52 49 "treeasks.errors" 187,u [],z [],he "self" 249 "number",u [],X 3 (S "NoAsks.__init__"),hl 246 "NoAsks.__init__" 12 2 54 251 252,hi 3 "NoAsks.__init__" 59,u [(V "number" 254)],hh 241 10 "__init__" 253 60 "__static_attributes__" 255 61 2,hf "NoAsks" 63 62 47 234,hd 63,hc 63,u [(r 24)],(fun P=>⟨(.type "builtin_function_or_method"),none,(.fields #[(.builtin "type.__prepare__"),(.type "type")]),#[]⟩),hj 266 "NoKeep" 15 278 79 280,u [],hk 17 78,ha "NoKeep" 261 15 69 264,hb 71 68 "treeasks.errors" 187,u [],z [],he "self" 274 "number",u [],X 4 (S "NoKeep.__init__"),hl 271 "NoKeep.__init__" 17 2 73 276 277,hi 4 "NoKeep.__init__" 78,u [(V "number" 279)],hh 266 15 "__init__" 278 79 "__static_attributes__" 280 80 2,hf "NoKeep" 82 81 66 259,hd 82,hc 82,u [(r 24)],(fun P=>⟨(.type "builtin_function_or_method"),none,(.fields #[(.builtin "type.__prepare__"),(.type "type")]),#[]⟩),hj 291 "NoPrices" 20 303 98 305,u [],hk 22 97,ha "NoPrices" 286 20 88 289,hb 90 87 "treeasks.errors" 187,u [],z [],he "self" 299 "number",u [],X 5 (S "NoPrices.__init__"),hl 296 "NoPrices.__init__" 22 2 92 301 302,hi 5 "NoPrices.__init__" 97,u [(V "number" 304)],hh 291 20 "__init__" 303 98 "__static_attributes__" 305 99 2,hf "NoPrices" 101 100 85 284,hd 101,hc 101,u [(r 24)],(fun P=>⟨(.type "builtin_function_or_method"),none,(.fields #[(.builtin "type.__prepare__"),(.type "type")]),#[]⟩),hj 316 "NoShare" 25 328 117 330,u [],hk 27 116,ha "NoShare" 311 25 107 314,hb 109 106 "treeasks.errors" 187,u [],z [],he "self" 324 "number",u [],X 6 (S "NoShare.__init__"),hl 321 "NoShare.__init__" 27 2 111 326 327,hi 6 "NoShare.__init__" 116,u [(V "number" 329)],hh 316 25 "__init__" 328 117 "__static_attributes__" 330 118 2,hf "NoShare" 120 119 104 309,hd 120,hc 120,u [(r 24)],(fun P=>⟨(.type "builtin_function_or_method"),none,(.fields #[(.builtin "type.__prepare__"),(.type "type")]),#[]⟩),hj 341 "NoPointing" 30 353 136 355,u [],hk 32 135,ha "NoPointing" 336 30 126 339,hb 128 125 "treeasks.errors" 187,u [],z [],he "self" 349 "ring",u [],X 7 (S "NoPointing.__init__"),hl 346 "NoPointing.__init__" 32 2 130 351 352,hi 7 "NoPointing.__init__" 135,u [(V "ring" 354)],hh 341 30 "__init__" 353 136 "__static_attributes__" 355 137 2,hf "NoPointing" 139 138 123 334,hd 139,hc 139,u [(r 24)],(fun P=>⟨(.type "builtin_function_or_method"),none,(.fields #[(.builtin "type.__prepare__"),(.type "type")]),#[]⟩),hj 366 "NoText" 35 378 155 380,u [],hk 37 154,ha "NoText" 361 35 145 364,hb 147 144 "treeasks.errors" 187,u [],z [],he "self" 374 "row",u [],X 8 (S "NoText.__init__"),hl 371 "NoText.__init__" 37 2 149 376 377,hi 8 "NoText.__init__" 154,u [(V "row" 379)],hh 366 35 "__init__" 378 155 "__static_attributes__" 380 156 2,hf "NoText" 158 157 142 359,hd 158,hc 158,u [(r 24)],(fun P=>⟨(.type "builtin_function_or_method"),none,(.fields #[(.builtin "type.__prepare__"),(.type "type")]),#[]⟩),hm 391 "NoNumber" 40 168,u [],z [],ha "NoNumber" 386 40 164 389,hb 166 163 "treeasks.errors" 187,u [],hn 391 40 168,hf "NoNumber" 170 169 161 384,hd 170,hc 170,u [(r 24)],(fun P=>⟨(.type "builtin_function_or_method"),none,(.fields #[(.builtin "type.__prepare__"),(.type "type")]),#[]⟩),hm 407 "NoPlace" 42 180,u [],z [],ha "NoPlace" 402 42 176 405,hb 178 175 "treeasks.errors" 187,u [],hn 407 42 180,hf "NoPlace" 182 181 173 400,hd 182,hc 182,u [(r 24)],(fun P=>⟨(.type "builtin_function_or_method"),none,(.fields #[(.builtin "type.__prepare__"),(.type "type")]),#[]⟩),hm 423 "NoChange" 44 192,u [],z [],ha "NoChange" 418 44 188 421,hb 190 187 "treeasks.errors" 187,u [],hn 423 44 192,hf "NoChange" 194 193 185 416,hd 194,hc 194,u [(r 24)],(fun P=>⟨(.type "builtin_function_or_method"),none,(.fields #[(.builtin "type.__prepare__"),(.type "type")]),#[]⟩),hm 439 "TooMany" 46 204,u [],z [],ha "TooMany" 434 46 200 437,hb 202 199 "treeasks.errors" 187,u [],hn 439 46 204,hf "TooMany" 206 205 197 432,hd 206,hc 206,u [(r 24)],(fun P=>⟨(.type "builtin_function_or_method"),none,(.fields #[(.builtin "type.__prepare__"),(.type "type")]),#[]⟩),hm 455 "NoRow" 48 216,u [],z [],ha "NoRow" 450 48 212 453,hb 214 211 "treeasks.errors" 187,u [],hn 455 48 216,hf "NoRow" 218 217 209 448,hd 218,hc 218,u [(r 24)],(fun P=>⟨(.type "builtin_function_or_method"),none,(.fields #[(.builtin "type.__prepare__"),(.type "type")]),#[]⟩),hm 471 "NoName" 50 228,u [],z [],ha "NoName" 466 50 224 469,hb 226 223 "treeasks.errors" 187,u [],hn 471 50 228,hf "NoName" 230 229 221 464,hd 230,hc 230,u [],z [],u [(V "thing" 485)],u [],x 16,q "is_whole" 482 483 484 53 1 0 0 3 233 181 234 235 236 237 486 487,y 16 (V "treeasks.numbers" 480) (r 238),u [],z [],hg "thing" 492 "least" "most",u [],x 17,q "is_between" 489 490 491 55 3 0 0 3 240 181 241 242 243 244 495 496,y 17 (V "treeasks.numbers" 480) (r 245),u [],z [],he "number" 501 "bottom",u [],x 18,q "greatest_common" 498 499 500 57 2 0 0 3 247 181 248 249 250 251 503 504,y 18 (V "treeasks.numbers" 480) (r 252),u [],z [],hg "thing" 509 "top" "bottom",u [],x 19,q "is_fraction" 506 507 508 61 1 0 0 3 254 181 255 256 257 258 512 513,y 19 (V "treeasks.numbers" 480) (r 259),u [],z [],hg "thing" 524 "parents" "rooms",u [],x 23,q "has_two_lists" 521 522 523 71 1 0 0 3 261 181 262 263 264 265 527 528,y 23 (V "treeasks.trees" 515) (r 266),u [],z [],u [(V "thing" 533),(V "parents" 534),(V "rooms" 535),(V "number" 536),(V "parent" 537),(V "room" 538)],u [],x 24,q "look_at_tree" 530 531 532 78 1 0 0 3 268 181 269 270 271 272 539 540,y 24 (V "treeasks.trees" 515) (r 273),u [],z [],he "tree" 545 "thing",u [],x 25,q "is_place" 542 543 544 88 2 0 0 3 275 181 276 277 278 279 547 548,y 25 (V "treeasks.trees" 515) (r 280),u [],z [],he "tree" 553 "thing",u [],x 26,q "is_tie" 550 551 552 90 2 0 0 3 282 181 283 284 285 286 555 556,y 26 (V "treeasks.trees" 515) (r 287),u [],z [],hg "tree" 561 "one" "other",u [],x 27,q "are_ends" 558 559 560 92 3 0 0 3 289 181 290 291 292 293 564 565,y 27 (V "treeasks.trees" 515) (r 294),u [],z [],u [(V "tree" 578),(V "thing" 579),(V "one" 580),(V "other" 581),(V "size" 582),(V "worth" 583)],u [],x 32,q "is_ask" 575 576 577 98 2 0 0 3 296 181 297 298 299 300 584 585,y 32 (V "treeasks.asks" 567) (r 301),u [],z [],u [(V "tree" 590),(V "thing" 591),(V "number" 592),(V "ask" 593)],u [],x 33,q "look_at_asks" 587 588 589 103 2 0 0 3 303 181 304 305 306 307 594 595,y 33 (V "treeasks.asks" 567) (r 308),u [],z [],hg "top" 602 "bottom" "common",u [],x 35,q "fraction" 599 600 601 111 2 0 0 3 310 181 311 312 313 314 605 606,y 35 (V "treeasks.fractions" 597) (r 315),u [],z [],he "one" 611 "other",u [],x 36,q "minus" 608 609 610 120 2 0 0 3 317 181 318 319 320 321 613 614,y 36 (V "treeasks.fractions" 597) (r 322),u [],z [],he "one" 619 "other",u [],x 37,q "times" 616 617 618 122 2 0 0 3 324 181 325 326 327 328 621 622,y 37 (V "treeasks.fractions" 597) (r 329),u [],z [],x 38,ho "sum_of" 624 124 1 331 627,y 38 (V "treeasks.fractions" 597) (r 334),u [],z [],he "one" 633 "other",u [],x 39,q "under" 630 631 632 129 2 0 0 3 336 181 337 338 339 340 635 636,y 39 (V "treeasks.fractions" 597) (r 341),u [],z [],hg "tree" 643 "one" "other",u [],x 41,q "look_at_ends" 640 641 642 132 3 0 0 3 343 181 344 345 346 347 646 647,y 41 (V "treeasks.ways" 638) (r 348),u [],z [],hp 652 "one" "other" "way" "low",u [],x 42,q "climb" 649 650 651 136 3 0 0 3 350 181 351 352 353 354 657 658,y 42 (V "treeasks.ways" 638) (r 355),u [],z [],hp 663 "one" "other" "way" "meeting",u [],x 43,q "way_between" 660 661 662 143 3 0 0 3 357 181 358 359 360 361 668 669,y 43 (V "treeasks.ways" 638) (r 362),u [],z [],he "tree" 674 "ask",u [],x 44,q "way_of" 671 672 673 147 2 0 0 3 364 181 365 366 367 368 676 677,y 44 (V "treeasks.ways" 638) (r 369),u [],z [],u [(V "tree" 684),(V "asks" 685),(V "thing" 686),(V "least" 687),(V "place" 688),(V "number" 689)],u [],x 46,q "look_at_keep" 681 682 683 150 3 0 0 3 371 181 372 373 374 375 690 691,y 46 (V "treeasks.keeps" 679) (r 376),u [],z [],u [(V "thing" 698)],u [],x 48,q "is_price" 695 696 697 160 1 0 0 3 378 181 379 380 381 382 699 700,y 48 (V "treeasks.prices" 693) (r 383),u [],z [],hp 705 "thing" "ties" "number" "price",u [],x 49,q "look_at_prices" 702 703 704 162 2 0 0 3 385 181 386 387 388 389 710 711,y 49 (V "treeasks.prices" 693) (r 390),u [],z [],x 50,ho "spare_of" 713 172 4 392 716,y 50 (V "treeasks.prices" 693) (r 395),u [],z [],x 51,ho "spares" 719 176 3 397 722,y 51 (V "treeasks.prices" 693) (r 400),u [],z [],x 52,ho "bound_of" 725 180 3 402 728,y 52 (V "treeasks.prices" 693) (r 405),(fun P=>⟨(.type "dict"),none,(.dict #[(d P (S "room") 733 (i 3 734)),(d P (S "ask") 735 (i 3 736)),(d P (S "more") 737 (i 2 738)),(d P (S "less") 739 (i 2 740)),(d P (S "hang") 741 (i 3 742))] 5),#[]⟩),u [],z [],hg "tree" 752 "asks" "thing",u [],x 55,q "is_change" 749 750 751 186 3 0 0 3 408 181 409 410 411 412 755 756,y 55 (V "treeasks.changes" 731) (r 413),u [],z [],u [(V "tree" 761),(V "change" 762),(V "parents" 763),(V "rooms" 764)],u [],x 56,q "changed_tree" 758 759 760 194 2 0 0 3 415 181 416 417 418 419 765 766,y 56 (V "treeasks.changes" 731) (r 420),u [],z [],hg "asks" 771 "change" "found",u [],x 57,q "changed_asks" 768 769 770 202 2 0 0 3 422 181 423 424 425 426 774 775,y 57 (V "treeasks.changes" 731) (r 427),u [],z [],hp 780 "asks" "change" "there" "wanted",u [],x 58,q "changed" 777 778 779 211 3 0 0 3 429 181 430 431 432 433 785 786,y 58 (V "treeasks.changes" 731) (r 434),u [],z [],hg "tree" 791 "asks" "change",u [],x 59,q "look_at_change" 788 789 790 221 3 0 0 3 436 181 437 438 439 440 794 795,y 59 (V "treeasks.changes" 731) (r 441),u [],z [],x 60,ho "carried_keep" 797 223 4 443 800,y 60 (V "treeasks.changes" 731) (r 446),u [],z [],u [(V "tree" 806),(V "asks" 807),(V "change" 808),(V "prices" 809)],u [],x 61,q "carried_prices" 803 804 805 232 4 0 0 3 448 181 449 450 451 452 810 811,y 61 (V "treeasks.changes" 731) (r 453),u [],z [],u [(V "tree" 816),(V "asks" 817),(V "change" 818),(V "prices" 819),(V "there" 820),(V "wanted" 821),(V "carried" 822)],u [],x 62,q "bound_turned" 813 814 815 236 4 0 0 3 455 181 456 457 458 459 823 824,y 62 (V "treeasks.changes" 731) (r 460),u [],z [],u [(V "_law_script" 831),(V "_law_k" 832),(V "_law_cell" 833),(V "_law_seed" 834)],u [],x 64,q "_law_pool" 828 829 830 241 2 0 0 3 462 181 463 464 465 466 835 836,y 64 (V "law_treeasks_k72_changes_made" 826) (r 467)]
def Ttree_151 (Q : F) : Params → W.BT := bt 11 ((lL Q a1m a1h).take 104)
def _root_.PySem.W.Fast.tw2171402273213920502 : Params → W.BT := Ttree_151 PySem.W.Fast.tw16405788764653981887
theorem _root_.PySem.W.Fast.te2171402273213920502 : Ttree_151 Ob.A130 = PySem.W.Fast.tw2171402273213920502 := (congrArg Ttree_151 PySem.W.Fast.te16405788764653981887)
lay_quick Ob.A152
def Ttree_173 (Q : F) : Params → W.BT := bt 11 ((lL Q a2y a2v).take 123)
def _root_.PySem.W.Fast.tw827087113660295008 : Params → W.BT := Ttree_173 PySem.W.Fast.tw6053701103550676820
theorem _root_.PySem.W.Fast.te827087113660295008 : Ttree_173 Ob.A152 = PySem.W.Fast.tw827087113660295008 := (congrArg Ttree_173 PySem.W.Fast.te6053701103550676820)
lay_quick Ob.A174
def Ttree_195 (Q : F) : Params → W.BT := bt 11 ((lL Q a3j a3h).take 142)
def _root_.PySem.W.Fast.tw2187288422254832438 : Params → W.BT := Ttree_195 PySem.W.Fast.tw4352210484902048510
theorem _root_.PySem.W.Fast.te2187288422254832438 : Ttree_195 Ob.A174 = PySem.W.Fast.tw2187288422254832438 := (congrArg Ttree_195 PySem.W.Fast.te4352210484902048510)
lay_quick Ob.A196
def Ttree_217 (Q : F) : Params → W.BT := bt 11 ((lL Q a44 a42).take 161)
def _root_.PySem.W.Fast.tw5678982187837616846 : Params → W.BT := Ttree_217 PySem.W.Fast.tw858713497799489546
theorem _root_.PySem.W.Fast.te5678982187837616846 : Ttree_217 Ob.A196 = PySem.W.Fast.tw5678982187837616846 := (congrArg Ttree_217 PySem.W.Fast.te858713497799489546)
lay_quick Ob.A218
def Ttree_232 (Q : F) : Params → W.BT := bt 11 ((lL Q a4k a4i).take 173)
def _root_.PySem.W.Fast.tw13149185622227589083 : Params → W.BT := Ttree_232 PySem.W.Fast.tw10596723031645028252
theorem _root_.PySem.W.Fast.te13149185622227589083 : Ttree_232 Ob.A218 = PySem.W.Fast.tw13149185622227589083 := (congrArg Ttree_232 PySem.W.Fast.te10596723031645028252)
lay_quick Ob.A233
def Ttree_247 (Q : F) : Params → W.BT := bt 11 ((lL Q a4z a4x).take 185)
def _root_.PySem.W.Fast.tw277662630854574270 : Params → W.BT := Ttree_247 PySem.W.Fast.tw13913095129079592748
theorem _root_.PySem.W.Fast.te277662630854574270 : Ttree_247 Ob.A233 = PySem.W.Fast.tw277662630854574270 := (congrArg Ttree_247 PySem.W.Fast.te13913095129079592748)
lay_quick Ob.A248
def Ttree_262 (Q : F) : Params → W.BT := bt 11 ((lL Q a5c a5b).take 197)
def _root_.PySem.W.Fast.tw4302058021302580406 : Params → W.BT := Ttree_262 PySem.W.Fast.tw8414283381455797104
theorem _root_.PySem.W.Fast.te4302058021302580406 : Ttree_262 Ob.A248 = PySem.W.Fast.tw4302058021302580406 := (congrArg Ttree_262 PySem.W.Fast.te8414283381455797104)
lay_quick Ob.A263
def Ttree_277 (Q : F) : Params → W.BT := bt 11 ((lL Q a5r a5p).take 209)
def _root_.PySem.W.Fast.tw454965569175862383 : Params → W.BT := Ttree_277 PySem.W.Fast.tw9250365361016024512
theorem _root_.PySem.W.Fast.te454965569175862383 : Ttree_277 Ob.A263 = PySem.W.Fast.tw454965569175862383 := (congrArg Ttree_277 PySem.W.Fast.te9250365361016024512)
lay_quick Ob.A278
def Ttree_292 (Q : F) : Params → W.BT := bt 11 ((lL Q a64 a62).take 221)
def _root_.PySem.W.Fast.tw18030719343675100515 : Params → W.BT := Ttree_292 PySem.W.Fast.tw12422453245428938170
theorem _root_.PySem.W.Fast.te18030719343675100515 : Ttree_292 Ob.A278 = PySem.W.Fast.tw18030719343675100515 := (congrArg Ttree_292 PySem.W.Fast.te12422453245428938170)
lay_quick Ob.A293
def Ttree_335 (Q : F) : Params → W.BT := bt 11 ((lL Q a70 a6x).take 261)
def _root_.PySem.W.Fast.tw4407246100339229431 : Params → W.BT := Ttree_335 PySem.W.Fast.tw18440253496614609407
theorem _root_.PySem.W.Fast.te4407246100339229431 : Ttree_335 Ob.A293 = PySem.W.Fast.tw4407246100339229431 := (congrArg Ttree_335 PySem.W.Fast.te18440253496614609407)
lay_quick Ob.A336
def Ttree_412 (Q : F) : Params → W.BT := bt 11 ((lL Q a8r a6x).take 336)
def _root_.PySem.W.Fast.tw575576547617426679 : Params → W.BT := Ttree_412 PySem.W.Fast.tw16364656195909301128
theorem _root_.PySem.W.Fast.te575576547617426679 : Ttree_412 Ob.A336 = PySem.W.Fast.tw575576547617426679 := (congrArg Ttree_412 PySem.W.Fast.te16364656195909301128)
lay_quick Ob.A413
def Ttree_485 (Q : F) : Params → W.BT := bt 11 ((lL Q aas a6x).take 407)
def _root_.PySem.W.Fast.tw15697482004914753319 : Params → W.BT := Ttree_485 PySem.W.Fast.tw13897227740010025914
theorem _root_.PySem.W.Fast.te15697482004914753319 : Ttree_485 Ob.A413 = PySem.W.Fast.tw15697482004914753319 := (congrArg Ttree_485 PySem.W.Fast.te13897227740010025914)
lay_quick Ob.A486
def Ttree_549 (Q : F) : Params → W.BT := bt 11 ((lL Q acn a6x).take 469)
def _root_.PySem.W.Fast.tw3772340125632262493 : Params → W.BT := Ttree_549 PySem.W.Fast.tw13856087141259920967
theorem _root_.PySem.W.Fast.te3772340125632262493 : Ttree_549 Ob.A486 = PySem.W.Fast.tw3772340125632262493 := (congrArg Ttree_549 PySem.W.Fast.te13856087141259920967)
end
end Ob
namespace L2
open PySem PySem.Spec PyProof.Rows
abbrev Key:=Sum Int Str
def qO:Key→Value→Bool
 | .inl k,v=>Value.isInt k v
 | .inr x,v=>Value.isStrOf x v
def keyH (w:World):Key→Int
 | .inl k=>hashInt k
 | .inr x=>hashStr w x
theorem bj:∀ {k:Key} {v:Value},qO k v=true→(∃ i t,k=Sum.inl i∧v=Value.int i t)∨(∃ x t,k=Sum.inr x∧v=Value.str x t)
 | .inl i,v,h=>by
  obtain ⟨t,e⟩:=Value.isInt_shape (k:=i) (v:=v) h
  exact .inl ⟨i,t,rfl,e⟩
 | .inr x,v,h=>by
  obtain ⟨t,e⟩:=Value.isStrOf_shape (x:=x) (v:=v) h
  exact .inr ⟨x,t,rfl,e⟩
theorem rk (a b:Int):decide ((Sum.inl a:Key)=Sum.inl b)=(a == b):=by
 by_cases e:a=b
 ·subst e; simp
 ·have h : ¬ (Sum.inl a:Key)=Sum.inl b:=fun q=>e (Sum.inl.inj q)
  rw [decide_eq_false h]
  exact (beq_eq_false_iff_ne.mpr e).symm
theorem rj (a b:Str):decide ((Sum.inr a:Key)=Sum.inr b)=decide (a=b):=by
 by_cases e:a=b
 ·subst e; simp
 ·have h : ¬ (Sum.inr a:Key)=Sum.inr b:=fun q=>e (Sum.inr.inj q)
  rw [decide_eq_false h,decide_eq_false e]
theorem r_ (a:Int) (b:Str):decide ((Sum.inl a:Key)=Sum.inr b)=false:=decide_eq_false (fun q=>nomatch q)
theorem sL (a:Str) (b:Int):decide ((Sum.inr a:Key)=Sum.inl b)=false:=decide_eq_false (fun q=>nomatch q)
def iO (prog:Program) (w:World):PySem.KeyKind prog w Key where
 is:=qO
 hash:=keyH w
 inj:=fun v a b ha hb=>by
  rcases bj ha with ⟨i,t,rfl,rfl⟩ | ⟨x,t,rfl,rfl⟩
  ·rcases bj hb with ⟨j,u,rfl,e⟩ | ⟨y,u,rfl,e⟩
   ·injection e with e1 _; rw [e1]
   ·exact nomatch e
  ·rcases bj hb with ⟨j,u,rfl,e⟩ | ⟨y,u,rfl,e⟩
   ·exact nomatch e
   ·injection e with e1 _; rw [e1]
 byValue:=fun k v h=>by
  rcases bj h with ⟨i,t,rfl,rfl⟩ | ⟨x,t,rfl,rfl⟩ <;> rfl
 pyHash:=fun hv h=>by
  rcases bj hv with ⟨i,t,rfl,rfl⟩ | ⟨x,t,rfl,rfl⟩
  ·exact wpAny_pyHash_int h
  ·exact wpAny_pyHash_str h
 eqBool:=fun hu hv h=>by
  rcases bj hu with ⟨i,t,rfl,rfl⟩ | ⟨x,t,rfl,rfl⟩
  ·rcases bj hv with ⟨j,u,rfl,rfl⟩ | ⟨y,u,rfl,rfl⟩
   ·rw [rk] at h; exact wpAny_eqBool_int h
   ·rw [r_] at h; exact SeqAt.EqAt.int_str i t y u _ _ _ _ h
  ·rcases bj hv with ⟨j,u,rfl,rfl⟩ | ⟨y,u,rfl,rfl⟩
   ·rw [sL] at h; exact SeqAt.EqAt.str_int x t j u _ _ _ _ h
   ·rw [rj] at h; exact wpAny_eqBool_str h
 «strs»:=fun k x t v h=>by
  rcases bj h with ⟨i,u,rfl,e⟩ | ⟨y,u,rfl,e⟩
  ·exact nomatch e
  ·injection e with e1 _
   subst e1
   cases v <;> rfl
inductive V where
 | non | bl (b:Bool) | int (i:Int) | str (x:Str) | byt (b:Array UInt8) | flt (b:UInt64) | ref (a:Addr) | ty (n:String)
 deriving DecidableEq
def aX:V→Value→Prop
 | .non,u=>u=Value.none
 | .bl b,u=>u=Value.bool b
 | .int i,u=>∃ t,u=Value.int i t
 | .str x,u=>∃ t,u=Value.str x t
 | .byt b,u=>∃ t,u=Value.bytes b t
 | .flt b,u=>∃ t,u=Value.float b t
 | .ref a,u=>u=Value.ref a
 | .ty n,u=>u=Value.type n
abbrev aO:List V→List Value→Prop:=Paired aX
theorem aO.length {xs:List V} {us:List Value} (r:aO xs us):xs.length=us.length:=Paired.length r
theorem aO.get:∀ {xs:List V} {us:List Value} {i:Nat} {x:V},aO xs us→xs[i]? = some x→∃ u,us[i]? = some u∧aX x u
 | _,_,_,_,.nil,e=>by simp at e
 | _,_,0,_,.cons r _,e=>by simp at e; subst e; exact ⟨_,rfl,r⟩
 | _,_,i + 1,x,.cons _ t,e=>by
  obtain ⟨u,h1,h2⟩:=aO.get (i:=i) (x:=x) t (by simpa using e)
  exact ⟨u,by simpa using h1,h2⟩
theorem aO.set {x:V} {u:Value} (r:aX x u):∀ {xs:List V} {us:List Value} (i:Nat),aO xs us→aO (xs.set i x) (us.set i u)
 | _,_,_,.nil=>.nil
 | _,_,0,.cons _ t=>.cons r t
 | _,_,i + 1,.cons q t=>.cons q (aO.set r i t)
theorem aO.append:∀ {xs ys:List V} {us ws:List Value},aO xs us→aO ys ws→aO (xs++ys) (us++ws)
 | _,_,_,_,.nil,s=>s
 | _,_,_,_,.cons r t,s=>.cons r (aO.append t s)
theorem aO.take:∀ {xs:List V} {us:List Value} (n:Nat),aO xs us→aO (xs.take n) (us.take n)
 | _,_,0,_=>.nil
 | _,_,_ + 1,.nil=>.nil
 | _,_,n + 1,.cons r t=>.cons r (aO.take n t)
theorem aO.drop:∀ {xs:List V} {us:List Value} (n:Nat),aO xs us→aO (xs.drop n) (us.drop n)
 | _,_,0,r=>r
 | _,_,_ + 1,.nil=>.nil
 | _,_,n + 1,.cons _ t=>aO.drop n t
def RelO:Option V→Option Value→Prop
 | some v,some u=>aX v u
 | none,none=>True
 | _,_=>False
def KV {κ:Type}:List (κ×V)→List (κ×Value)→Prop:=Paired fun (p : κ×V) (q : κ×Value)=>p.1=q.1∧aX p.2 q.2
def kV:Key→V
 | .inl i=>.int i
 | .inr x=>.str x
inductive HO where

 | lst (xs:List V)

 | tup (xs:List V)

 | dK (kvs:List (Key×V)) | dT (kvs:List (List Key×V))

 | set (S:Int→Bool) (n:Nat)

 | ins (C dx:Addr) (fs:List (Str×V))

 | own (x:Addr)

 | xd (fs:List (Str×V))

 | met (f x:Addr)

 | rng (lo hi:Int)

 | frz (o:Obj) (u:HO)

 | tbl (ps:Array Value) (q:Str)

 | ext (φ:Heap→Prop)
abbrev Hp:=Addr→Option HO
def upd (H:Hp) (a:Addr) (o:HO):Hp:=fun b=>if b=a then some o else H b
theorem av {H:Hp} {a:Addr} {o:HO}:upd H a o a=some o:=by unfold upd; rw [if_pos rfl]
theorem ah {H:Hp} {a b:Addr} {o:HO} (h:b≠a):upd H a o b=H b:=by unfold upd; rw [if_neg h]
theorem eM {H:Hp} {a:Addr} {o u:HO}:upd (upd H a o) a u=upd H a u:=by
 funext b; unfold upd; split <;> rfl
theorem ay {H:Hp} {a b:Addr} {o:HO} (h:H a=some o) (h':H b=none):a≠b:=by
 intro e; subst e; rw [h] at h'; cases h'
def TbV (H:Hp) (ps:Array Value) (q:Str):Prop:=TriplesOk ps.toList∧∀ pos cv,codeAmong pos ps.toList=some cv→∃ c o vs t,cv = .ref c∧H c=some (.frz o (.own 0))∧o.data = .fields vs∧vs[1]? = some (.str q t)
theorem TbV.mono {H H':Hp} {ps:Array Value} {q:Str} (h:TbV H ps q) (hf:∀ b o u,H b=some (.frz o u)→H' b=some (.frz o u)):TbV H' ps q:=⟨h.1,fun pos cv e=>let ⟨c,o,vs,t,a,b,r⟩:=h.2 pos cv e; ⟨c,o,vs,t,a,hf _ _ _ b,r⟩⟩
section
variable (P:Program) (w:World)
def aT (H:Hp) (h:Heap) (a:Addr):HO→Prop
 | .lst xs=>xs.length≤sizeLine∧∃ (its:List Value) (n:Nat),aO xs its∧h.get? a=some { cls:=.type "list",data:=.seq its.toArray n }
 | .tup xs=>xs.length≤sizeLine∧∃ its:List Value,aO xs its∧IsTup h a its.toArray
 | .dK kvs=>kvs.length≤sizeLine∧(a == sysModules)=false∧∃ vs,KV kvs vs∧h.DictOf (iO P w) a vs
 | .dT kvs=>kvs.length≤sizeLine∧(a == sysModules)=false∧∃ xs:List (List Key×Addr×Value),
  Paired (fun (p:List Key×V) (q:List Key×Addr×Value)=>p.1=q.1∧H q.2.1=some (.tup (p.1.map kV))∧aX p.2 q.2.2) kvs xs ∧
  ∃ o es ep,h.get? a=some o∧o.ExactDict∧o.data = .dict es ep∧es.toList=xs.map (entryOfKey (tupleKind (iO P w)))∧(xs.map (·.1)).Nodup
 | .set S n=>h.SetOf (intKind P w) a S n
 | .ins C dx fs=>H dx=some (.own a)∧fs.length≤1000∧dx≠a∧h.get? a=some (PySem.W.instObj C dx) ∧
  ∃ mA,h.Ns1 dx mA∧(∀ f,RelO (fs.lookup f) (mA f))∧PySem.Within mA (fs.map (·.1))
 | .own _=>∃ o,h.get? a=some o
 | .xd fs=>∃ mA,h.Ns1 a mA∧∀ f,RelO (fs.lookup f) (mA f)
 | .rng lo hi=>∃ t u v,h.get? a=some { cls:=.type "range",data:=.fields #[.int lo t,.int hi u,.int 1 v] }
 | .frz o u=>h.get? a=some o∧aT H h a u
 | .tbl ps q=>h.get? a=some { cls:=.none,data:=.fields ps }∧TbV H ps q
 | .met f x=>h.get? a=some (PySem.W.methodObj (.ref f) (.ref x))
 | .ext φ=>φ h∧(∃ o,h.get? a=some o)∧∀ h1 h2:Heap,φ h1→(∀ o,h1.get? a=some o→h2.get? a=some o)→φ h2
def HOk (H:Hp) (h:Heap):Prop:=∀ a o,H a=some o→aT P w H h a o
end
section
variable {P:Program} {w:World} {H H':Hp} {h h':Heap} {a:Addr} {o:HO}
theorem aT.lt (x:aT P w H h a o):a<h.objs.size:=by
 cases o with
 | lst xs=>obtain ⟨_,_,_,_,e⟩:=x; exact Heap.lt_size e
 | tup xs=>obtain ⟨_,_,_,p⟩:=x; exact p.lt
 | dK kvs=>obtain ⟨_,_,_,_,o,_,_,e,_⟩:=x; exact Heap.lt_size e
 | dT kvs=>obtain ⟨_,_,_,_,o,_,_,e,_⟩:=x; exact Heap.lt_size e
 | set S n=>obtain ⟨o,_,_,_,e,_⟩:=x; exact Heap.lt_size e
 | ins C dx fs=>obtain ⟨_,_,_,e,_⟩:=x; exact Heap.lt_size e
 | own y=>obtain ⟨_,e⟩:=x; exact Heap.lt_size e
 | xd fs=>obtain ⟨_,⟨_,_,_,e,_⟩,_⟩:=x; exact Heap.lt_size e
 | rng lo hi=>obtain ⟨_,_,_,e⟩:=x; exact Heap.lt_size e
 | frz ob u=>obtain ⟨e,_⟩:=x; exact Heap.lt_size e
 | tbl ps q=>obtain ⟨e,_⟩:=x; exact Heap.lt_size e
 | met f y=>exact Heap.lt_size (show h.get? a=some _ from x)
 | ext φ=>obtain ⟨_,⟨_,e⟩,_⟩:=x; exact Heap.lt_size e
theorem Paired.mapP {α β:Type} {F G : α→β→Prop}:∀ {l₁:List α} {l₂:List β},Paired F l₁ l₂→(∀ a b,F a b→G a b)→Paired G l₁ l₂
 | _,_,.nil,_=>.nil
 | _,_,.cons r t,f=>.cons (f _ _ r) (Paired.mapP t f)
theorem aT.stay (x:aT P w H h a o) (k:∀ b u,(b=a∨H b=some (.own a))→h.get? b=some u→h'.get? b=some u)
 (ho:∀ b,H b=some (.own a)→H' b=some (.own a)) (ht:∀ b xs,H b=some (.tup xs)→H' b=some (.tup xs)) (hf:∀ b o u,H b=some (.frz o u)→H' b=some (.frz o u)):aT P w H' h' a o:=by
 induction o with
 | lst xs=>obtain ⟨z,its,n,r,e⟩:=x; exact ⟨z,its,n,r,k _ _ (.inl rfl) e⟩
 | tup xs=>obtain ⟨z,its,r,ob,e,c⟩:=x; exact ⟨z,its,r,ob,k _ _ (.inl rfl) e,c⟩
 | dK kvs=>obtain ⟨z,y,vs,r,ob,es,ep,e,c⟩:=x; exact ⟨z,y,vs,r,ob,es,ep,k _ _ (.inl rfl) e,c⟩
 | dT kvs =>
  obtain ⟨z,y,xs,r,ob,es,ep,e,c⟩:=x
  exact ⟨z,y,xs,Paired.mapP r fun p q z=>⟨z.1,ht _ _ z.2.1,z.2.2⟩,ob,es,ep,k _ _ (.inl rfl) e,c⟩
 | set S n=>obtain ⟨ob,es,ep,t,e,c⟩:=x; exact ⟨ob,es,ep,t,k _ _ (.inl rfl) e,c⟩
 | ins C dx fs =>
  obtain ⟨d,z,ne,e,mA,⟨od,es,ep,e2,c⟩,r⟩:=x
  exact ⟨ho _ d,z,ne,k _ _ (.inl rfl) e,mA,⟨od,es,ep,k _ _ (.inr d) e2,c⟩,r⟩
 | own y=>obtain ⟨ob,e⟩:=x; exact ⟨ob,k _ _ (.inl rfl) e⟩
 | xd fs=>obtain ⟨mA,⟨od,es,ep,e,c⟩,r⟩:=x; exact ⟨mA,⟨od,es,ep,k _ _ (.inl rfl) e,c⟩,r⟩
 | rng lo hi=>obtain ⟨t,u,v,e⟩:=x; exact ⟨t,u,v,k _ _ (.inl rfl) e⟩
 | frz ob u ih=>obtain ⟨e,q⟩:=x; exact ⟨k _ _ (.inl rfl) e,ih q⟩
 | tbl ps q=>obtain ⟨e,v⟩:=x; exact ⟨k a _ (.inl rfl) e,v.mono hf⟩
 | met f y =>
  have e:h.get? a=some (PySem.W.methodObj (.ref f) (.ref y)):=x
  show h'.get? a=some (PySem.W.methodObj (.ref f) (.ref y))
  exact k a _ (.inl rfl) e
 | ext φ=>obtain ⟨p,⟨o,e⟩,st⟩:=x; exact ⟨st _ _ p fun o q=>k _ _ (.inl rfl) q,⟨o,k _ _ (.inl rfl) e⟩,st⟩
theorem HOk.lt (x:HOk P w H h) (e:H a=some o):a<h.objs.size:=(x a o e).lt
theorem HOk.fresh (x:HOk P w H h) (e:h.objs.size≤a):H a=none:=by
 cases q:H a with
 | none=>rfl
 | some u=>exact absurd (Nat.lt_of_lt_of_le (x.lt q) e) (Nat.lt_irrefl _)
theorem HOk.kept (x:HOk P w H h) (k:∀ b u,h.get? b=some u→h'.get? b=some u):HOk P w H h':=fun a o e =>
 (x a o e).stay (fun b u _ q=>k b u q) (fun _ q=>q) (fun _ _ q=>q) fun _ _ _ q=>q
theorem HOk.laid (x:HOk P w H h) (k:∀ b u,h.get? b=some u→h'.get? b=some u) (hp:h.objs.size≤a) (new:aT P w (upd H a o) h' a o):HOk P w (upd H a o) h':=fun b u e=>by
 have hn:=x.fresh hp
 by_cases hb:b=a
 ·subst hb; rw [av] at e; cases e; exact new
 ·rw [ah hb] at e
  exact (x b u e).stay (fun c v _ q=>k c v q) (fun c q=>by rw [ah (ay q hn)]; exact q) (fun c xs q=>by rw [ah (ay q hn)]; exact q) fun c ob u q=>by rw [ah (ay q hn)]; exact q
end
def Rd (H:Hp) (a:Addr) (u:HO):Prop:=H a=some u∨∃ o,H a=some (.frz o u)
theorem Rd.ok {P:Program} {w:World} {H:Hp} {h:Heap} {a:Addr} {u:HO} (r:Rd H a u) (x:HOk P w H h):aT P w H h a u:=by
 rcases r with r | ⟨o,r⟩
 ·exact x a u r
 ·obtain ⟨_,q⟩:=x a _ r
  exact q
def Mut:Option HO→Prop
 | some (.lst _)=>True
 | some (.dK _)=>True
 | some (.dT _)=>True
 | some (.set _ _)=>True
 | some (.ins _ _ _)=>True
 | some (.ext _)=>True
 | _=>False
section
variable {P:Program} {w:World} {H:Hp} {h h':Heap} {x e:Addr} {o':HO}
theorem HOk.write (ok:HOk P w H h) (mu:Mut (H x)) (he:e=x∨H e=some (.own x)) (k:∀ b u,b≠e→h.get? b=some u→h'.get? b=some u) (heo:∃ u,h'.get? e=some u)
 (new:aT P w (upd H x o') h' x o'):HOk P w (upd H x o') h':=fun b u q=>by
 have nown:∀ c y,H c=some (.own y)→c≠x:=fun c y r z=>by subst z; rw [r] at mu; exact mu
 have ntup:∀ c xs,H c=some (.tup xs)→c≠x:=fun c xs r z=>by subst z; rw [r] at mu; exact mu
 have nfrz:∀ c ob u,H c=some (.frz ob u)→c≠x:=fun c ob u r z=>by subst z; rw [r] at mu; exact mu
 by_cases hb:b=x
 ·subst hb; rw [av] at q; cases q; exact new
 ·rw [ah hb] at q
  by_cases hbe:b=e
  ·have q':H b=some (.own x):=by
    rcases he with z | z
    ·exact absurd (hbe.trans z) hb
    ·rw [hbe]; exact z
   rw [q] at q'; cases q'
   obtain ⟨v,hv⟩:=heo
   exact ⟨v,by rw [hbe]; exact hv⟩
  ·refine (ok b u q).stay (fun c v hc r=>k c v ?_ r) (fun c r=>by rw [ah (nown c b r)]; exact r) (fun c xs r=>by rw [ah (ntup c xs r)]; exact r) fun c ob u r=>by rw [ah (nfrz c ob u r)]; exact r
   rcases hc with rfl | hc
   ·exact hbe
   ·rintro rfl
    rcases he with z | z
    ·exact nown c b hc z
    ·rw [hc] at z; cases z; exact hb rfl
end
structure Un (fs ex:List Addr) (H H':Hp) (h h':Heap):Prop where
 keep:∀ b o,h.get? b=some o→H b=none→b ∉ fs→b ∉ ex→h'.get? b=some o
 slot:∀ b o,h.get? b=some o→H b=none→b∈fs→b ∉ ex→∃ sl,h'.get? b=some { o with slots:=sl }
 free:∀ b o,h.get? b=some o→H b=none→b ∉ ex→H' b=none
 there:∀ b o,h.get? b=some o→b ∉ ex→∃ o',h'.get? b=some o'
 tups:∀ b xs,H b=some (.tup xs)→H' b=some (.tup xs)
 frzs:∀ b o u,H b=some (.frz o u)→H' b=some (.frz o u)
 tbls:∀ b ps q,H b=some (.tbl ps q)→∃ more,H' b=some (.tbl (ps++more) q)
section
variable {fs fs' ex ex':List Addr} {H H1 H2:Hp} {h h1 h2 h':Heap} {a x e:Addr} {o:HO}
theorem Un.any (u:Un fs ex H H1 h h1) {b:Addr} {ob:Obj} (q:h.get? b=some ob) (n:H b=none) (hx:b ∉ ex):∃ sl,h1.get? b=some { ob with slots:=sl }:=by
 by_cases hb:b∈fs
 ·exact u.slot b ob q n hb hx
 ·exact ⟨ob.slots,u.keep b ob q n hb hx⟩
theorem Un.kept (k:∀ b u,h.get? b=some u→h'.get? b=some u):Un fs ex H H h h' :=
 ⟨fun b ob q _ _ _=>k b ob q,fun b ob q _ _ _=>⟨ob.slots,k b ob q⟩,fun _ _ _ n _=>n,fun b ob q _=>⟨ob,k b ob q⟩,fun _ _ q=>q,fun _ _ _ q=>q,fun _ ps _ q=>⟨#[],by rw [q]; simp⟩⟩
theorem Un.refl:Un fs ex H H h h:=Un.kept fun _ _ q=>q
theorem Un.laid (k:∀ b u,h.get? b=some u→h'.get? b=some u) (hp:h.objs.size≤a) (hn:H a=none):Un fs ex H (upd H a o) h h' where
 keep:=fun b u q _ _ _=>k b u q
 slot:=fun b u q _ _ _=>⟨u.slots,k b u q⟩
 free:=fun b u q n _=>by rw [ah (Nat.ne_of_lt (Nat.lt_of_lt_of_le (Heap.lt_size q) hp))]; exact n
 there:=fun b u q _=>⟨u,k b u q⟩
 tups:=fun b xs q=>by rw [ah (ay q hn)]; exact q
 frzs:=fun b u xs q=>by rw [ah (ay q hn)]; exact q
 tbls:=fun b ps _ q=>⟨#[],by rw [ah (ay q hn),q]; simp⟩
theorem Un.write (mu:Mut (H x)) (he:e=x∨H e=some (.own x)) (k:∀ b u,b≠e→h.get? b=some u→h'.get? b=some u) (heo:∃ u,h'.get? e=some u):Un fs ex H (upd H x o) h h':=by
 have hx:∀ b,H b=none→b≠x:=fun b n z=>by subst z; rw [n] at mu; exact mu
 have hb:∀ b,H b=none→b≠e:=fun b n z=>by
  subst z
  rcases he with r | r
  ·exact hx b n r
  ·rw [n] at r; cases r
 have hm:∀ b u,H b=some u→¬ Mut (some u)→b≠x:=fun b u q nm z=>by subst z; rw [q] at mu; exact nm mu
 refine ⟨fun b u q n _ _=>k b u (hb b n) q,fun b u q n _ _=>⟨u.slots,k b u (hb b n) q⟩,fun b u q n _=>by rw [ah (hx b n)]; exact n,fun b u q _=>?_,
  fun b xs q=>by rw [ah (hm b _ q fun z=>z)]; exact q,fun b u xs q=>by rw [ah (hm b _ q fun z=>z)]; exact q,fun b ps _ q=>⟨#[],by rw [ah (hm b _ q fun z=>z),q]; simp⟩⟩
 by_cases hbe:b=e
 ·subst hbe; exact heo
 ·exact ⟨u,k b u hbe q⟩
theorem Un.mono (u:Un fs ex H H1 h h1) (hs:∀ b∈fs,b∈fs') (hx:∀ b∈ex,b∈ex'):Un fs' ex' H H1 h h1 :=
 ⟨fun b ob q n hb he=>u.keep b ob q n (fun z=>hb (hs b z)) fun z=>he (hx b z),fun _ _ q n _ he=>u.any q n fun z=>he (hx _ z),fun b ob q n he=>u.free b ob q n fun z=>he (hx b z),fun b ob q he=>u.there b ob q fun z=>he (hx b z),u.tups,u.frzs,u.tbls⟩
end
def gone (v:Value):Obj:=⟨v,none,.freed,#[]⟩
def k7 (h:Heap) (H:Hp) (i:Addr):Obj:=match H i with
 | some (.tbl _ q)=>gone (.str q 0)
 | some _=>gone .none
 | none=>match h.get? i with
  | some o=>o
  | none=>gone .none
def eC (h:Heap) (H:Hp):Heap:=⟨Array.ofFn (n:=h.objs.size) fun i=>k7 h H i,h.life⟩
theorem eW (h:Heap) (H:Hp):(eC h H).objs.size=h.objs.size:=by simp [eC]
theorem jg {h:Heap} {H:Hp} {b:Addr} {o:Obj} (e:(eC h H).objs[b]? = some o):b<h.objs.size∧o=k7 h H b:=by
 obtain ⟨hb,e⟩:=Array.getElem?_eq_some_iff.mp e
 rw [eW] at hb
 refine ⟨hb,?_⟩
 rw [← e]; simp [eC]
theorem nofree {h:Heap} {b:Addr} {o:Obj} (e:h.get? b=some o):h.objs[b]? = some o∧o.data≠.freed:=by
 unfold Heap.get? at e
 split at e
 ·cases e
 ·rename_i hn
  refine ⟨e,fun z=>?_⟩
  obtain ⟨c,d,da,sl⟩:=o
  have z:da = .freed:=z
  subst z
  exact hn c d sl e
theorem p8 {h:Heap} {b:Addr} {o:Obj} (e:h.objs[b]? = some o) (n:o.data≠.freed):h.get? b=some o:=by
 unfold Heap.get?
 split
 ·rename_i c d sl e'
  rw [e] at e'; cases e'
  exact absurd rfl n
 ·exact e
theorem mD {h:Heap} {H:Hp} {b:Addr} {o:Obj} (e:h.get? b=some o) (n:H b=none):(eC h H).get? b=some o:=by
 have hb:b<(eC h H).objs.size:=by rw [eW]; exact Heap.lt_size e
 refine p8 ?_ (nofree e).2
 rw [Array.getElem?_eq_getElem hb]
 have:(eC h H).objs[b]=k7 h H b:=by simp [eC]
 rw [this]; unfold k7; rw [n,e]
theorem pD {h:Heap} {H:Hp} {b:Addr} {o:Obj} (e:(eC h H).get? b=some o):h.get? b=some o∧H b=none:=by
 obtain ⟨e1,nf⟩:=nofree e
 obtain ⟨_,e2⟩:=jg e1
 unfold k7 at e2
 split at e2
 ·rw [e2] at nf; exact absurd rfl nf
 ·rw [e2] at nf; exact absurd rfl nf
 ·rename_i hn
  split at e2
  ·rename_i o' e3
   exact ⟨e3.trans (by rw [e2]),hn⟩
  ·rw [e2] at nf; exact absurd rfl nf
def TMk (base:Heap) (P:Addr) (q:Str):Prop:=base.objs[P]? = some (gone (.str q 0))
def TbM (base:Heap) (H:Hp):Prop:=∀ P q,TMk base P q→∃ ps,H P=some (.tbl ps q)
theorem TbM.un {base h h':Heap} {H H':Hp} {fs ex:List Addr} (x:TbM base H) (u:Un fs ex H H' h h'):TbM base H':=fun P q m=>let ⟨ps,z⟩:=x P q m; let ⟨more,y⟩:=u.tbls P ps q z; ⟨_,y⟩
theorem TbM.hid {h:Heap} {H:Hp}:TbM (eC h H) H:=fun P q m=>by
 obtain ⟨_,e⟩:=jg m
 unfold k7 at e
 split at e
 ·rename_i ps q' hq
  have e:gone (.str q 0)=gone (.str q' 0):=e
  cases e; exact ⟨ps,hq⟩
 ·cases e
 ·split at e
  ·rename_i o e3
   have:=(nofree e3).2
   rw [← e] at this; exact absurd rfl this
  ·cases e
structure Mod (K:PySem.W.Frag) (mg:Str→Option Value) (base:Heap):Prop where
 kin:K.In base
 glob:base.Ns mainGlobals mg
 blt:∃ mb,base.Ns builtinsNs mb∧∀ x:Str,x ≠ "__name__" → mb x=bootBuiltins x
 nolimit:base.NoLimit
structure Cx where
 prog:Program
 w:World
 K:PySem.W.Frag
 mg:Str→Option Value
 base:Heap
 A:Around
 N:List Str
 s₀:Shared
 H₀:Hp
 env:Env
 outer:List Env
 stack:List Env
 ex:List Addr
 fn:Str→Bool
 calm:Bool
 pn:List (Addr×Obj)
 xe:Value→Shared→Prop
def frs (l:List Env):List Addr:=l.filterMap (·.frame)
abbrev Cx.fs (X:Cx):List Addr:=frs X.outer
def Vis (sc:Scope) (x:Str):Prop:=sc.names.lookup x=some .local∨sc.names.lookup x=some .cell∨sc.names.lookup x=some .free
def Loc (sc:Scope) (x:Str):Prop:=sc.names.lookup x=some .local∨sc.names.lookup x=some .cell
def Look (env:Env) (h:Heap) (m:Str→Option Value) (x:Str) (u:Value):Prop :=
 (env.kindOf x=some .local∧m x=some u)∨((env.kindOf x=some .cell∨env.kindOf x=some .free)∧∃ c,env.cells.lookup x=some c∧h.IsCell c (some u))
structure Cx.Ok (X:Cx):Prop where
 mod:Mod X.K X.mg X.base
 kind:X.env.scope.kind = .function
 glob:X.env.globals=mainGlobals
 blt:X.env.builtins=builtinsNs
 above:X.s₀.heap.objs.size≤X.env.locals
 inj:∀ x y c,X.env.cells.lookup x=some c→X.env.cells.lookup y=some c→x=y
 has:∀ x,(X.env.kindOf x=some .cell∨X.env.kindOf x=some .free)→∃ c,X.env.cells.lookup x=some c
 cab:∀ x c,X.fn x=true→X.env.cells.lookup x=some c→X.s₀.heap.objs.size≤c
 hd:X.calm=true→X.A.handled=none
 frames:X.A.frames=some X.stack
 stk:X.stack=X.outer∨(X.stack=X.env :: X.outer∧X.env.frame=some X.env.locals)
 exf:∀ b∈X.ex,b≠X.env.locals∧∀ x c,X.env.cells.lookup x=some c→c≠b
 bs:∀ b o,X.base.get? b=some o→X.s₀.heap.get? b=some o∧X.H₀ b=none
 bsz:X.base.objs.size≤X.s₀.heap.objs.size
 noex:∀ b o,X.base.get? b=some o→b ∉ X.ex
 exfs:∀ b∈X.ex,b ∉ X.fs
 funs:X.s₀.heap.FunFrames X.base X.outer
 frf:∀ b∈X.fs,X.H₀ b=none
 tb:TbM X.base X.H₀
structure Inv (X:Cx) (pins:List (Addr×Obj)) (σ:List (Option V)) (H:Hp) (s:Shared):Prop where
 ok:X.Ok
 os:s.os=X.s₀.os
 bare:AllBare s.gens
 base:Un X.fs X.ex X.H₀ H X.s₀.heap s.heap
 loc:∃ m,s.heap.Ns X.env.locals m∧∀ (i:Nat) (x:Str) (v:V),X.N[i]? = some x→σ[i]? = some (some v)→Vis X.env.scope x→∃ u,aX v u∧Look X.env s.heap m x u
 cell:∀ x c,X.env.cells.lookup x=some c→∃ v,s.heap.IsCell c v
 free:H X.env.locals=none
 freeC:∀ x c,X.env.cells.lookup x=some c→H c=none
 pin:∀ p∈X.pn++pins,s.heap.get? p.1=some p.2∧H p.1=none∧p.1≠X.env.locals∧p.1 ∉ X.fs∧∀ v,p.2.data≠.cell v
 hok:HOk X.prog X.w H s.heap
 len : σ.length=X.N.length
section
variable {X:Cx} {pins:List (Addr×Obj)} {σ:List (Option V)} {H H':Hp} {s:Shared} {h':Heap}
theorem Cx.Ok.nofr (ok:X.Ok) {b:Addr} {o:Obj} (e:X.base.get? b=some o):b ∉ X.fs:=fun hb=>by
 have:=(ok.funs.mem hb).1
 rw [e] at this; cases this
theorem Inv.bs (I:Inv X pins σ H s):∀ b o,X.base.get? b=some o→s.heap.get? b=some o∧H b=none:=fun b o e =>
 ⟨I.base.keep b o (I.ok.bs b o e).1 (I.ok.bs b o e).2 (I.ok.nofr e) (I.ok.noex b o e),I.base.free b o (I.ok.bs b o e).1 (I.ok.bs b o e).2 (I.ok.noex b o e)⟩
theorem Inv.bk (I:Inv X pins σ H s):∀ b o,X.base.get? b=some o→s.heap.get? b=some o:=fun b o e=>(I.bs b o e).1
theorem Inv.mod (I:Inv X pins σ H s):Mod X.K X.mg X.base:=I.ok.mod
theorem Inv.kIn (I:Inv X pins σ H s):X.K.In s.heap:=I.ok.mod.kin.keeps I.bk
theorem Inv.fr (I:Inv X pins σ H s):∃ m,Fr X.base X.env.locals s.heap m :=
 let ⟨m,hn,_⟩:=I.loc
 ⟨m,hn,I.bk,Nat.le_trans I.ok.bsz I.ok.above⟩
theorem Inv.lt (I:Inv X pins σ H s):X.env.locals<s.heap.objs.size:=let ⟨_,hn,_⟩:=I.loc; hn.lt
theorem Inv.sz (I:Inv X pins σ H s):X.s₀.heap.objs.size≤s.heap.objs.size:=Nat.le_trans I.ok.above (Nat.le_of_lt I.lt)
theorem Inv.nofs (I:Inv X pins σ H s) {a:Addr} (h:s.heap.objs.size≤a):a ∉ X.fs:=fun hb=>by
 obtain ⟨_,o,ho,_⟩:=I.ok.funs.mem hb
 exact absurd (Nat.lt_of_lt_of_le (Heap.lt_size ho) (Nat.le_trans I.sz h)) (Nat.lt_irrefl _)
theorem Inv.cne (I:Inv X pins σ H s):∀ x c,X.env.cells.lookup x=some c→c≠X.env.locals:=fun x c e z=>by
 obtain ⟨v,o,ho,hd⟩:=I.cell x c e
 obtain ⟨m,⟨o',es,ep,ho',hd',_⟩,_⟩:=I.loc
 rw [z,ho'] at ho; cases ho; rw [hd'] at hd; cases hd
theorem Inv.funs (I:Inv X pins σ H s):s.heap.FunFrames X.base X.outer:=by
 have all:∀ (l:List Env),(∀ b∈frs l,b∈X.fs)→X.s₀.heap.FunFrames X.base l→s.heap.FunFrames X.base l:=by
  intro l
  induction l with
  | nil=>intro _ _; trivial
  | cons env r ih =>
   intro hs hl
   obtain ⟨hk,⟨L,o,hf,hn,ho,hd⟩,hr⟩:=hl
   have hL:L∈X.fs:=hs L (by unfold frs; rw [List.filterMap_cons,hf]; exact List.mem_cons_self)
   obtain ⟨sl,e⟩:=I.base.slot L o ho (I.ok.frf L hL) hL fun z=>I.ok.exfs L z hL
   exact ⟨hk,⟨L,_,hf,hn,e,hd⟩,ih (fun b hb=>hs b (by unfold frs; rw [List.filterMap_cons,hf]; exact List.mem_cons_of_mem _ hb)) hr⟩
 exact all X.outer (fun _ hb=>hb) I.ok.funs
theorem Inv.stack (I:Inv X pins σ H s):s.heap.FunFrames X.base X.stack:=by
 rcases I.ok.stk with e | ⟨e,hf⟩
 ·rw [e]; exact I.funs
 ·rw [e]
  obtain ⟨m,hn,_⟩:=I.loc
  refine .cons (by rw [I.ok.kind]; decide) hf hn ?_ I.funs
  exact Heap.get?_none_of_le (Nat.le_trans I.ok.bsz I.ok.above)
theorem Inv.stkSub (I:Inv X pins σ H s):∀ b∈frs X.stack,b∈X.env.locals :: X.fs:=fun b hb=>by
 rcases I.ok.stk with e | ⟨e,hf⟩
 ·rw [e] at hb; exact List.mem_cons_of_mem _ hb
 ·rw [e] at hb
  unfold frs at hb
  rw [List.filterMap_cons,hf] at hb
  exact hb
theorem Inv.stkFree (I:Inv X pins σ H s):∀ b∈frs X.stack,H b=none:=fun b hb=>by
 rcases List.mem_cons.mp (I.stkSub b hb) with e | hb
 ·rw [e]; exact I.free
 ·obtain ⟨_,o,ho,_⟩:=I.ok.funs.mem hb
  exact I.base.free b o ho (I.ok.frf b hb) fun z=>I.ok.exfs b z hb
theorem Inv.step {g':Array GenState} {t':Nat} {d':Drawn} {ch:List Addr} (I:Inv X pins σ H s)
 (hch:∀ b∈ch,(b∈X.ex∨X.s₀.heap.objs.size≤b)∧b≠X.env.locals∧(∀ x c,X.env.cells.lookup x=some c→c≠b)∧∀ p∈X.pn++pins,p.1≠b)
 (keep:∀ b o,b≠X.env.locals→b ∉ X.fs→b ∉ ch→s.heap.get? b=some o→H b=none→h'.get? b=some o)
 (slot:∀ b o,b≠X.env.locals→b∈X.fs→b ∉ ch→s.heap.get? b=some o→H b=none→∃ sl,h'.get? b=some { o with slots:=sl }) (free:∀ b o,b ∉ ch→s.heap.get? b=some o→H b=none→H' b=none)
 (there:∀ b o,b ∉ ch→s.heap.get? b=some o→∃ o',h'.get? b=some o')
 (tups:∀ b xs,H b=some (.tup xs)→H' b=some (.tup xs)) (frzs:∀ b o u,H b=some (.frz o u)→H' b=some (.frz o u)) (tbls:∀ b ps q,H b=some (.tbl ps q)→∃ more,H' b=some (.tbl (ps++more) q))
 (ns:∀ m,s.heap.Ns X.env.locals m→h'.Ns X.env.locals m) (hok:HOk X.prog X.w H' h') (hg:AllBare g') :
 Inv X pins σ H' { s with heap:=h',gens:=g',drawn:=d',toks:=t' }:=by
 have neL:∀ b o,X.s₀.heap.get? b=some o→b≠X.env.locals:=fun b o e=>Nat.ne_of_lt (Nat.lt_of_lt_of_le (Heap.lt_size e) I.ok.above)
 have neC:∀ b o,X.s₀.heap.get? b=some o→b ∉ X.ex→b ∉ ch:=fun b o e hx hb=>by
  rcases (hch b hb).1 with z | z
  ·exact hx z
  ·exact absurd (Nat.lt_of_lt_of_le (Heap.lt_size e) z) (Nat.lt_irrefl _)
 have cellK:∀ x c,X.env.cells.lookup x=some c→∀ v,s.heap.IsCell c v→h'.IsCell c v:=fun x c e v ⟨o,ho,hd⟩=>by
  have nch:c ∉ ch:=fun z=>(hch c z).2.2.1 x c e rfl
  by_cases hc:c∈X.fs
  ·obtain ⟨sl,q⟩:=slot c o (I.cne x c e) hc nch ho (I.freeC x c e)
   exact ⟨_,q,hd⟩
  ·exact ⟨o,keep c o (I.cne x c e) hc nch ho (I.freeC x c e),hd⟩
 refine ⟨I.ok,I.os,hg,⟨fun b o e n hb hx=>?_,fun b o e n hb hx=>?_,fun b o e n hx=>?_,fun b o e hx=>?_,fun b xs e=>tups b xs (I.base.tups b xs e),fun b o xs e=>frzs b o xs (I.base.frzs b o xs e),fun b ps q e=>?_⟩,?_,fun x c e=>?_,?_,fun x c e=>?_,fun p hp=>?_,hok,I.len⟩
 ·exact keep b o (neL b o e) hb (neC b o e hx) (I.base.keep b o e n hb hx) (I.base.free b o e n hx)
 ·obtain ⟨sl,e1⟩:=I.base.slot b o e n hb hx
  obtain ⟨sl',e2⟩:=slot b _ (neL b o e) hb (neC b o e hx) e1 (I.base.free b o e n hx)
  exact ⟨sl',e2⟩
 ·obtain ⟨o',e1⟩:=I.base.there b o e hx
  exact free b o' (neC b o e hx) e1 (I.base.free b o e n hx)
 ·obtain ⟨o',e1⟩:=I.base.there b o e hx
  exact there b o' (neC b o e hx) e1
 ·obtain ⟨m1,e1⟩:=I.base.tbls b ps q e
  obtain ⟨m2,e2⟩:=tbls b _ q e1
  exact ⟨m1++m2,by rw [e2,Array.append_assoc]⟩
 ·obtain ⟨m,hn,hl⟩:=I.loc
  refine ⟨m,ns m hn,fun i x v e1 e2 e3=>?_⟩
  obtain ⟨u,r,l⟩:=hl i x v e1 e2 e3
  refine ⟨u,r,?_⟩
  rcases l with l | ⟨k,c,e,z⟩
  ·exact .inl l
  ·exact .inr ⟨k,c,e,cellK x c e _ z⟩
 ·obtain ⟨v,z⟩:=I.cell x c e
  exact ⟨v,cellK x c e v z⟩
 ·obtain ⟨m,⟨o,_,_,ho,_⟩,_⟩:=I.loc
  exact free _ o (fun z=>(hch _ z).2.1 rfl) ho I.free
 ·obtain ⟨v,o,ho,hd⟩:=I.cell x c e
  exact free c o (fun z=>(hch c z).2.2.1 x c e rfl) ho (I.freeC x c e)
 ·obtain ⟨e,n,ne,nf,d⟩:=I.pin p hp
  have nch:p.1 ∉ ch:=fun z=>(hch p.1 z).2.2.2 p hp rfl
  exact ⟨keep p.1 p.2 ne nf nch e n,free p.1 p.2 nch e n,ne,nf,d⟩
theorem Inv.un {t':Nat} (I:Inv X pins σ H s) (u:Un X.fs [] H H' s.heap h') (hok:HOk X.prog X.w H' h'):Inv X pins σ H' { s with heap:=h',toks:=t' }:=by
 obtain ⟨m,⟨o,es,ep,ho,r⟩,_⟩:=id I.loc
 obtain ⟨sl,hL⟩:=u.any ho I.free (by simp)
 exact I.step (g':=s.gens) (d':=s.drawn) (ch:=[]) (fun _ z=>nomatch z) (fun b o _ hb _ e n=>u.keep b o e n hb (by simp)) (fun b o _ hb _ e n=>u.slot b o e n hb (by simp)) (fun b o _ e n=>u.free b o e n (by simp)) (fun b o _ e=>u.there b o e (by simp)) u.tups u.frzs u.tbls (fun m' hm=>by
  obtain ⟨o',es',ep',ho',r'⟩:=hm
  rw [ho] at ho'; cases ho'
  exact ⟨_,es',ep',hL,r'⟩) hok I.bare
theorem Inv.call {g':Array GenState} {t':Nat} {d':Drawn} {ch:List Addr} (I:Inv X pins σ H s) (u:Un (frs X.stack) ch H H' s.heap h') (hok:HOk X.prog X.w H' h') (hg:AllBare g')
 (hch:∀ b∈ch,(b∈X.ex∨X.s₀.heap.objs.size≤b)∧b≠X.env.locals∧(∀ x c,X.env.cells.lookup x=some c→c≠b)∧∀ p∈X.pn++pins,p.1≠b) :
 Inv X pins σ H' { s with heap:=h',gens:=g',drawn:=d',toks:=t' }:=by
 obtain ⟨m,⟨o,es,ep,ho,r⟩,_⟩:=id I.loc
 obtain ⟨sl,hL⟩:=u.any ho I.free fun z=>(hch _ z).2.1 rfl
 exact I.step (ch:=ch) hch (fun b o hL hb hc e n=>u.keep b o e n (fun z=>(List.mem_cons.mp (I.stkSub b z)).elim hL hb) hc) (fun b o _ _ hc e n=>u.any e n hc) (fun b o hc e n=>u.free b o e n hc) (fun b o hc e=>u.there b o e hc) u.tups u.frzs u.tbls (fun m' hm=>by
  obtain ⟨o',es',ep',ho',r'⟩:=hm
  rw [ho] at ho'; cases ho'
  exact ⟨_,es',ep',hL,r'⟩) hok hg
theorem Inv.turned {t':Nat} {it:Addr} (I:Inv X pins σ H s) (k:∀ b o,b≠it→s.heap.get? b=some o→h'.get? b=some o) (hn:H it=none) (hL:it≠X.env.locals)
 (h1:it∈X.ex∨X.s₀.heap.objs.size≤it) (h2:∀ x c,X.env.cells.lookup x=some c→c≠it) (h3:∀ p∈X.pn++pins,p.1≠it):Inv X pins σ H { s with heap:=h',toks:=t' }:=by
 have nit:∀ b u,H b=some u→b≠it:=fun b u e z=>by rw [z,hn] at e; cases e
 refine I.step (g':=s.gens) (d':=s.drawn) (ch:=[it]) (fun b hb=>?_) (fun b o _ _ hc e _=>k b o (fun z=>hc (by simp [z])) e) (fun b o _ _ hc e _=>⟨o.slots,k b o (fun z=>hc (by simp [z])) e⟩) (fun _ _ _ _ n=>n)
  (fun b o hc e=>⟨o,k b o (fun z=>hc (by simp [z])) e⟩) (fun _ _ e=>e) (fun _ _ _ e=>e) (fun b ps _ e=>⟨#[],by rw [e]; simp⟩) (fun m hm=>?_) (fun b u e=>?_) I.bare
 ·have e:b=it:=by simpa using hb
  subst e
  exact ⟨h1,hL,h2,h3⟩
 ·obtain ⟨o,es,ep,ho,r⟩:=hm
  exact ⟨o,es,ep,k _ o (Ne.symm hL) ho,r⟩
 ·refine (I.hok b u e).stay (fun c v hc q=>k c v ?_ q) (fun _ q=>q) (fun _ _ q=>q) fun _ _ _ q=>q
  rcases hc with z | z
  ·rw [z]; exact nit b u e
  ·exact nit c _ z
theorem Inv.tok (I:Inv X pins σ H s) (t:Nat):Inv X pins σ H { s with toks:=t }:=I.un (h':=s.heap) (t':=t) Un.refl I.hok
theorem Inv.kept {t':Nat} (I:Inv X pins σ H s) (k:∀ b u,s.heap.get? b=some u→h'.get? b=some u):Inv X pins σ H { s with heap:=h',toks:=t' }:=I.un (Un.kept k) (I.hok.kept k)
theorem Inv.laid {a:Addr} {o:HO} {t':Nat} (I:Inv X pins σ H s) (k:∀ b u,s.heap.get? b=some u→h'.get? b=some u) (hp:s.heap.objs.size≤a) (new:aT X.prog X.w (upd H a o) h' a o) :
 Inv X pins σ (upd H a o) { s with heap:=h',toks:=t' }:=I.un (Un.laid k hp (I.hok.fresh hp)) (I.hok.laid k hp new)
theorem Inv.write {x e:Addr} {o:HO} {t':Nat} (I:Inv X pins σ H s) (mu:Mut (H x)) (he:e=x∨H e=some (.own x)) (k:∀ b u,b≠e→s.heap.get? b=some u→h'.get? b=some u) (heo:∃ u,h'.get? e=some u)
 (new:aT X.prog X.w (upd H x o) h' x o):Inv X pins σ (upd H x o) { s with heap:=h',toks:=t' }:=I.un (Un.write mu he k heo) (I.hok.write mu he k heo new)
theorem Inv.weak {σ':List (Option V)} (I:Inv X pins σ H s) (hl : σ'.length=σ.length) (w:∀ (i:Nat) v,σ'[i]? = some (some v)→σ[i]? = some (some v)):Inv X pins σ' H s :=
 ⟨I.ok,I.os,I.bare,I.base,let ⟨m,hn,hl'⟩:=I.loc; ⟨m,hn,fun i x v e1 e2 e3=>hl' i x v e1 (w i v e2) e3⟩,I.cell,I.free,I.freeC,I.pin,I.hok,hl.trans I.len⟩
theorem Inv.pins_of {pins':List (Addr×Obj)} (I:Inv X pins σ H s) (h:∀ p∈pins',s.heap.get? p.1=some p.2∧H p.1=none∧p.1≠X.env.locals∧p.1 ∉ X.fs∧∀ v,p.2.data≠.cell v):Inv X pins' σ H s :=
 ⟨I.ok,I.os,I.bare,I.base,I.loc,I.cell,I.free,I.freeC,fun p hp=>(List.mem_append.mp hp).elim (fun z=>I.pin p (List.mem_append_left _ z)) (h p),I.hok,I.len⟩
theorem fZ {N:List Str} (hN:N.Nodup) {i j:Nat} {x:Str} (a:N[i]? = some x) (b:N[j]? = some x):i=j:=by
 obtain ⟨h1,e1⟩:=List.getElem?_eq_some_iff.mp a
 obtain ⟨h2,e2⟩:=List.getElem?_eq_some_iff.mp b
 exact (List.getElem_inj hN).mp (e1.trans e2.symm)
theorem gO {M:Model} {A:Around} {E:Value→Shared→Prop} {i:Nat} {x:Str} {v:V} {u:Value} {Q:Unit→Shared→Prop} (I:Inv X pins σ H s) (hN:X.N.Nodup) (hi:X.N[i]? = some x) (hx:Loc X.env.scope x) (r:aX v u)
 (h:∀ s',Inv X pins (σ.set i (some v)) H s'→(∃ a,Heap.SameBut a s.heap s'.heap∧(a=X.env.locals∨X.env.cells.lookup x=some a))→Q () s') (hf:X.fn x=true∨X.env.scope.names.lookup x=some .local:=by first | exact .inl rfl | exact .inr rfl | assumption):wpAny M A (storeName X.env x u) Q E s:=by
 obtain ⟨m,hn,hl⟩:=id I.loc
 have hcls:(X.env.scope.kind == .class||(X.env.scope.kind == .module&&X.env.locals != X.env.globals))=false:=by rw [I.ok.kind]; rfl
 have hiσ:i<σ.length:=by rw [I.len]; exact (List.getElem?_eq_some_iff.mp hi).1
 have cne:=I.cne
 have tracked:∀ {a:Addr} {h':Heap},(∃ o,s.heap.get? a=some o∧H a=none)→Heap.SameBut a s.heap h'→HOk X.prog X.w H h':=fun {a h'} ha hs b ob e=>by
  obtain ⟨_,_,hfree⟩:=ha
  refine (I.hok b ob e).stay (fun c w' hc q=>(hs.2 c ?_).trans q) (fun _ q=>q) (fun _ _ q=>q) fun _ _ _ q=>q
  rintro rfl
  rcases hc with rfl | hc
  ·rw [hfree] at e; cases e
  ·rw [hfree] at hc; cases hc
 rcases hx with hk | hk
 ·refine wpAny_storeName_local hk hn (fun h' hn' hs=>?_) hcls
  obtain ⟨oL,_,_,hoL,_⟩:=id hn
  refine h _ ⟨I.ok,I.os,I.bare,⟨fun b o e n hb hx=>?_,fun b o e n hb hx=>?_,I.base.free,fun b o e hx=>?_,I.base.tups,I.base.frzs,I.base.tbls⟩,⟨_,hn',fun j y v' e1 e2 e3=>?_⟩,fun y c e=>?_,I.free,I.freeC,fun p hp=>?_,tracked ⟨oL,hoL,I.free⟩ hs,by simpa using I.len⟩ ⟨_,hs,.inl rfl⟩
  ·exact (hs.2 b (Nat.ne_of_lt (Nat.lt_of_lt_of_le (Heap.lt_size e) I.ok.above))).trans (I.base.keep b o e n hb hx)
  ·obtain ⟨sl,e1⟩:=I.base.slot b o e n hb hx
   exact ⟨sl,(hs.2 b (Nat.ne_of_lt (Nat.lt_of_lt_of_le (Heap.lt_size e) I.ok.above))).trans e1⟩
  ·obtain ⟨o',e1⟩:=I.base.there b o e hx
   exact ⟨o',(hs.2 b (Nat.ne_of_lt (Nat.lt_of_lt_of_le (Heap.lt_size e) I.ok.above))).trans e1⟩
  ·by_cases hj:j=i
   ·subst hj
    rw [hi] at e1; cases e1
    rw [List.getElem?_set_self hiσ] at e2
    cases e2
    exact ⟨u,r,.inl ⟨hk,by simp⟩⟩
   ·rw [List.getElem?_set_ne (Ne.symm hj)] at e2
    obtain ⟨u',r',q⟩:=hl j y v' e1 e2 e3
    refine ⟨u',r',?_⟩
    rcases q with ⟨k,e⟩ | ⟨k,c,e,z⟩
    ·refine .inl ⟨k,?_⟩
     have:y≠x:=fun e=>hj (fZ hN e1 (e ▸ hi))
     simp [this,e]
    ·exact .inr ⟨k,c,e,z.sameBut hs (cne y c e)⟩
  ·obtain ⟨w',z⟩:=I.cell y c e
   exact ⟨w',z.sameBut hs (cne y c e)⟩
  ·obtain ⟨e,n,ne,nf,d⟩:=I.pin p hp
   exact ⟨(hs.2 p.1 ne).trans e,n,ne,nf,d⟩
 ·have hfn:X.fn x=true:=by
   rcases hf with z | z
   ·exact z
   ·rw [z] at hk; cases hk
  obtain ⟨c,hc⟩:=I.ok.has x (.inl hk)
  obtain ⟨w',z⟩:=I.cell x c hc
  refine wpAny_storeName_cell I.ok.kind hk hc z (fun h' hc' hs=>?_)
  obtain ⟨oc,hoc,hocd⟩:=id z
  refine h { s with heap:=h' } ⟨I.ok,I.os,I.bare,⟨fun b o e n hb hx=>?_,fun b o e n hb hx=>?_,I.base.free,fun b o e hx=>?_,I.base.tups,I.base.frzs,I.base.tbls⟩,⟨m,hn.sameBut hs (Ne.symm (cne x c hc)),fun j y v' e1 e2 e3=>?_⟩,fun y c' e=>?_,I.free,I.freeC,fun p hp=>?_,tracked ⟨oc,hoc,I.freeC x c hc⟩ hs,by simpa using I.len⟩ ⟨c,hs,.inr hc⟩
  ·exact (hs.2 b (Nat.ne_of_lt (Nat.lt_of_lt_of_le (Heap.lt_size e) (I.ok.cab x c hfn hc)))).trans (I.base.keep b o e n hb hx)
  ·obtain ⟨sl,e1⟩:=I.base.slot b o e n hb hx
   exact ⟨sl,(hs.2 b (Nat.ne_of_lt (Nat.lt_of_lt_of_le (Heap.lt_size e) (I.ok.cab x c hfn hc)))).trans e1⟩
  ·obtain ⟨o',e1⟩:=I.base.there b o e hx
   exact ⟨o',(hs.2 b (Nat.ne_of_lt (Nat.lt_of_lt_of_le (Heap.lt_size e) (I.ok.cab x c hfn hc)))).trans e1⟩
  ·by_cases hj:j=i
   ·subst hj
    rw [hi] at e1; cases e1
    rw [List.getElem?_set_self hiσ] at e2
    cases e2
    exact ⟨u,r,.inr ⟨.inl hk,c,hc,hc'⟩⟩
   ·rw [List.getElem?_set_ne (Ne.symm hj)] at e2
    obtain ⟨u',r',q⟩:=hl j y v' e1 e2 e3
    refine ⟨u',r',?_⟩
    rcases q with q | ⟨k,c',e,z'⟩
    ·exact .inl q
    ·refine .inr ⟨k,c',e,z'.sameBut hs ?_⟩
     rintro rfl
     exact hj (fZ hN e1 (I.ok.inj _ _ _ e hc ▸ hi))
  ·by_cases hcc:c'=c
   ·subst hcc; exact ⟨_,hc'⟩
   ·obtain ⟨w2,z2⟩:=I.cell y c' e
    exact ⟨w2,z2.sameBut hs hcc⟩
  ·obtain ⟨e,n,ne,nf,d⟩:=I.pin p hp
   refine ⟨(hs.2 p.1 ?_).trans e,n,ne,nf,d⟩
   intro q
   rw [q,hoc] at e
   have q':oc=p.2:=Option.some.inj e
   exact d w' (by rw [← q']; exact hocd)
theorem b7 {M:Model} {A:Around} {E:Value→Shared→Prop} {i:Nat} {x:Str} {v:V} {u:Value} {Q:Unit→Shared→Prop} (I:Inv X pins σ H s) (hN:X.N.Nodup) (hi:X.N[i]? = some x) (hx:Loc X.env.scope x) (r:aX v u)
 (h:∀ s',Inv X pins (σ.set i (some v)) H s'→Q () s') (hf:X.fn x=true∨X.env.scope.names.lookup x=some .local:=by first | exact .inl rfl | exact .inr rfl | assumption):wpAny M A (storeName X.env x u) Q E s :=
 gO I hN hi hx r (fun s' I' _=>h s' I') hf
theorem Inv.call' {s':Shared} {ch:List Addr} (I:Inv X pins σ H s) (ho:s'.os=s.os) (u:Un (frs X.stack) ch H H' s.heap s'.heap) (hok:HOk X.prog X.w H' s'.heap) (hg:AllBare s'.gens)
 (hch:∀ b∈ch,(b∈X.ex∨X.s₀.heap.objs.size≤b)∧b≠X.env.locals∧(∀ x c,X.env.cells.lookup x=some c→c≠b)∧∀ p∈X.pn++pins,p.1≠b):Inv X pins σ H' s':=by
 obtain ⟨h',g',d',t',o'⟩:=s'
 have e:o'=s.os:=ho
 subst e
 exact I.call (g':=g') (t':=t') (d':=d') u hok hg hch
end
abbrev XK:=Value→Option Addr→Hp→Prop
abbrev St:=List (Option V)
abbrev VK:=V→Hp→Prop
abbrev TE:=St→Hp→VK→Prop
abbrev TT:=St→Hp→(Bool→Hp→Prop)→Prop
abbrev TA:=St→Hp→(List V→Hp→Prop)→Prop
structure Ends where
 nx:St→Hp→Prop
 rt:VK
 bk:St→Hp→Prop:=fun _ _=>False
 ct:St→Hp→Prop:=fun _ _=>False
abbrev TS:=Ends→St→Hp→Prop
def EP (X:Cx) (pins:List (Addr×Obj)) (σ:St) (Q:VK) (u:Value) (s':Shared):Prop:=∃ v H',Inv X pins σ H' s'∧aX v u∧Q v H'
def TP (X:Cx) (pins:List (Addr×Obj)) (σ:St) (Q:Bool→Hp→Prop) (b:Bool) (s':Shared):Prop:=∃ H',Inv X pins σ H' s'∧Q b H'
def AP (X:Cx) (pins:List (Addr×Obj)) (σ:St) (Q:List V→Hp→Prop) (us:List Value) (s':Shared):Prop:=∃ vs H',Inv X pins σ H' s'∧aO vs us∧Q vs H'
def SP (X:Cx) (pins:List (Addr×Obj)) (D:Ends) (f:Flow) (s':Shared):Prop :=
 match f with
 | .next=>∃ σ' H',Inv X pins σ' H' s'∧D.nx σ' H'
 | .brk=>∃ σ' H',Inv X pins σ' H' s'∧D.bk σ' H'
 | .cont=>∃ σ' H',Inv X pins σ' H' s'∧D.ct σ' H'
 | .ret u=>∃ v σ' H',Inv X pins σ' H' s'∧aX v u∧D.rt v H'
structure PE (X:Cx) (e:Expr) (t:TE):Prop where
 go:∀ (pins:List (Addr×Obj)) (s:Shared) (σ:St) (H:Hp) (Q:VK),Inv X pins σ H s→t σ H Q→wpAny (model X.prog X.w) X.A (eval e X.env) (EP X pins σ Q) X.xe s
instance {X:Cx} {e:Expr} {t:TE}:CoeFun (PE X e t) fun _=>∀ (pins:List (Addr×Obj)) (s:Shared) (σ:St) (H:Hp) (Q:VK),Inv X pins σ H s→t σ H Q→wpAny (model X.prog X.w) X.A (eval e X.env) (EP X pins σ Q) X.xe s:=⟨fun h=>h.go⟩
structure PT (X:Cx) (e:Expr) (t:TT):Prop where
 go:∀ (pins:List (Addr×Obj)) (s:Shared) (σ:St) (H:Hp) (Q:Bool→Hp→Prop),Inv X pins σ H s→t σ H Q→wpAny (model X.prog X.w) X.A (isTrue e X.env (eval e X.env)) (TP X pins σ Q) X.xe s
instance {X:Cx} {e:Expr} {t:TT}:CoeFun (PT X e t) fun _=>∀ (pins:List (Addr×Obj)) (s:Shared) (σ:St) (H:Hp) (Q:Bool→Hp→Prop),Inv X pins σ H s→t σ H Q→wpAny (model X.prog X.w) X.A (isTrue e X.env (eval e X.env)) (TP X pins σ Q) X.xe s:=⟨fun h=>h.go⟩
structure PW (X:Cx) (e:Expr) (t:TT):Prop where
 go:∀ (whole:Sem Value) (pins:List (Addr×Obj)) (s:Shared) (σ:St) (H:Hp) (Q:Bool→Hp→Prop),Inv X pins σ H s→t σ H Q→wpAny (model X.prog X.w) X.A (isTrue e X.env whole) (TP X pins σ Q) X.xe s
instance {X:Cx} {e:Expr} {t:TT}:CoeFun (PW X e t) fun _=>∀ (whole:Sem Value) (pins:List (Addr×Obj)) (s:Shared) (σ:St) (H:Hp) (Q:Bool→Hp→Prop),Inv X pins σ H s→t σ H Q→wpAny (model X.prog X.w) X.A (isTrue e X.env whole) (TP X pins σ Q) X.xe s:=⟨fun h=>h.go⟩
theorem PW.pt {X:Cx} {e:Expr} {t:TT} (h:PW X e t):PT X e t:=⟨h.go _⟩
structure PA (X:Cx) (es:List Expr) (t:TA):Prop where
 go:∀ (pos:Pos) (pins:List (Addr×Obj)) (s:Shared) (σ:St) (H:Hp) (Q:List V→Hp→Prop),Inv X pins σ H s→t σ H Q→wpAny (model X.prog X.w) X.A (spliced (backTo pos (starEach es X.env))) (AP X pins σ Q) X.xe s
instance {X:Cx} {es:List Expr} {t:TA}:CoeFun (PA X es t) fun _=>∀ (pos:Pos) (pins:List (Addr×Obj)) (s:Shared) (σ:St) (H:Hp) (Q:List V→Hp→Prop),Inv X pins σ H s→t σ H Q→wpAny (model X.prog X.w) X.A (spliced (backTo pos (starEach es X.env))) (AP X pins σ Q) X.xe s:=⟨fun h=>h.go⟩
structure PS (X:Cx) (st:Stmt) (t:TS):Prop where
 go:∀ (pins:List (Addr×Obj)) (s:Shared) (σ:St) (H:Hp) (D:Ends),Inv X pins σ H s→t D σ H→wpAny (model X.prog X.w) X.A (exec st X.env) (SP X pins D) X.xe s
instance {X:Cx} {st:Stmt} {t:TS}:CoeFun (PS X st t) fun _=>∀ (pins:List (Addr×Obj)) (s:Shared) (σ:St) (H:Hp) (D:Ends),Inv X pins σ H s→t D σ H→wpAny (model X.prog X.w) X.A (exec st X.env) (SP X pins D) X.xe s:=⟨fun h=>h.go⟩
structure PSs (X:Cx) (st:List Stmt) (t:TS):Prop where
 go:∀ (pins:List (Addr×Obj)) (s:Shared) (σ:St) (H:Hp) (D:Ends),Inv X pins σ H s→t D σ H→wpAny (model X.prog X.w) X.A (execs st X.env) (SP X pins D) X.xe s
instance {X:Cx} {st:List Stmt} {t:TS}:CoeFun (PSs X st t) fun _=>∀ (pins:List (Addr×Obj)) (s:Shared) (σ:St) (H:Hp) (D:Ends),Inv X pins σ H s→t D σ H→wpAny (model X.prog X.w) X.A (execs st X.env) (SP X pins D) X.xe s:=⟨fun h=>h.go⟩
theorem thn {α:Type} {t:Sem α} {Q Q' : α→Shared→Prop} {M:Model} {A:Around} {E:Value→Shared→Prop} {s:Shared} (h:wpAny M A t Q E s) (hQ:∀ a s,Q a s→Q' a s):wpAny M A t Q' E s:=wpAny_mono h hQ fun _ _ x=>x
section
variable {X:Cx}
theorem bin {a b:Expr} {ta tb:TE} (ha:PE X a ta) (hb:PE X b tb) {pins:List (Addr×Obj)} {s:Shared} {σ:St} {H:Hp} {R:V→V→Hp→Prop} (I:Inv X pins σ H s) (h:ta σ H fun x H1=>tb σ H1 fun y H2=>R x y H2)
 {α:Type} {Q : α→Shared→Prop} {f:Value→Value→Sem α}
 (hf:∀ v u s2 x y H2,Inv X pins σ H2 s2→aX x v→aX y u→R x y H2→wpAny (model X.prog X.w) X.A (f v u) Q X.xe s2) :
 wpAny (model X.prog X.w) X.A (eval a X.env) (fun v s₁=>wpAny (model X.prog X.w) X.A (eval b X.env) (fun u s₂=>wpAny (model X.prog X.w) X.A (f v u) Q X.xe s₂) X.xe s₁) X.xe s:=by
 refine thn (ha pins s σ H _ I h) fun v s1 ⟨x,H1,I1,r1,q1⟩=>?_
 refine thn (hb pins s1 σ H1 _ I1 q1) fun u s2 ⟨y,H2,I2,r2,q2⟩=>?_
 exact hf v u s2 x y H2 I2 r1 r2 q2
def tVar (i:Nat):TE:=fun σ H Q=>∃ v,σ[i]? = some (some v)∧Q v H
def tC (v:V):TE:=fun _ H Q=>Q v H
theorem dX {i:Nat} {x:Str} {pos:Pos} (hN:X.N[i]? = some x) (hv:Vis X.env.scope x) (hd:(x == ("__debug__":Str))=false:=by decide) (hcd:(x == ("__classdict__":Str))=false:=by decide):PE X (.Name x pos) (tVar i):=by
 (try refine ⟨?_⟩); intro pins s σ H Q I h
 obtain ⟨v,e,h⟩:=h
 obtain ⟨m,hn,hl⟩:=I.loc
 obtain ⟨u,r,l⟩:=hl i x v hN e hv
 have fin:EP X pins σ Q u s:=⟨v,H,I,r,h⟩
 rcases l with ⟨hk,hm⟩ | ⟨hk,c,hc,hcell⟩
 ·exact wpAny_Name (wpAny_loadName_local I.ok.kind hk hn hm fin) hd
 ·rcases hk with hk | hk
  ·exact wpAny_Name (wpAny_loadName_cell I.ok.kind hk hc hcell fin) hd
  ·exact wpAny_Name (wpAny_loadName_free I.ok.kind hk hc hcell fin hcd) hd
theorem o5 {i j pos}:PE X (.Constant (.int i) j pos) (tC (.int i)):=⟨fun _ _ _ H _ I h=>wpAny_Constant_int ⟨.int i,H,I.tok _,⟨_,rfl⟩,h⟩⟩
theorem pe_bl {b j pos}:PE X (.Constant (.bool b) j pos) (tC (.bl b)):=⟨fun _ _ _ H _ I h=>Constant_bool ⟨.bl b,H,I,rfl,h⟩⟩
theorem sQ {j pos}:PE X (.Constant .none j pos) (tC .non):=⟨fun _ _ _ H _ I h=>Constant_none ⟨.non,H,I,rfl,h⟩⟩
theorem l3 {x j pos}:PE X (.Constant (.str x) j pos) (tC (.str x)):=⟨fun _ _ _ H _ I h=>Calls.Constant_str ⟨.str x,H,I.tok _,⟨_,rfl⟩,h⟩⟩
def Gl (X:Cx) (x:Str):Prop:=X.env.kindOf x=some .globalImplicit
theorem b3 {E:Value→Shared→Prop} {pins:List (Addr×Obj)} {s:Shared} {σ:St} {H:Hp} {x:Str} {u:Value} {pos:Pos} {Q:Value→Shared→Prop} (I:Inv X pins σ H s) (hg:Gl X x) (hm:X.mg x=some u) (h:Q u s)
 (hd:(x == ("__debug__":Str))=false:=by decide):wpAny (model X.prog X.w) X.A (eval (.Name x pos) X.env) Q E s :=
 Calls.Name_function_global I.ok.kind hg (Calls.loadGlobal_global (by rw [I.ok.glob]; exact I.mod.glob.keeps I.bk) hm h) hd
theorem eZ {E:Value→Shared→Prop} {pins:List (Addr×Obj)} {s:Shared} {σ:St} {H:Hp} {x:Str} {u:Value} {pos:Pos} {Q:Value→Shared→Prop} (I:Inv X pins σ H s) (hg:Gl X x) (hm:X.mg x=none) (hv:bootBuiltins x=some u) (h:Q u s)
 (hn:x ≠ "__name__":=by decide) (hd:(x == ("__debug__":Str))=false:=by decide):wpAny (model X.prog X.w) X.A (eval (.Name x pos) X.env) Q E s:=by
 obtain ⟨mb,h1,h2⟩:=I.mod.blt
 exact Calls.Name_function_global I.ok.kind hg (Calls.loadGlobal_builtin (by rw [I.ok.glob]; exact I.mod.glob.keeps I.bk) hm (by rw [I.ok.blt]; exact h1.keeps I.bk) ((h2 x hn).trans hv) h) hd
theorem fH {x:Str} {v:V} {u:Value} {pos:Pos} (hg:Gl X x) (hm:X.mg x=some u) (r:aX v u) (hd:(x == ("__debug__":Str))=false:=by decide):PE X (.Name x pos) (tC v):=⟨fun _ _ _ H _ I h=>b3 I hg hm ⟨v,H,I,r,h⟩ hd⟩
theorem bt {x:Str} {v:V} {u:Value} {pos:Pos} (hg:Gl X x) (hm:X.mg x=none) (hv:bootBuiltins x=some u) (r:aX v u) (hn:x ≠ "__name__":=by decide) (hd:(x == ("__debug__":Str))=false:=by decide):PE X (.Name x pos) (tC v):=⟨fun _ _ _ H _ I h=>eZ I hg hm hv ⟨v,H,I,r,h⟩ hn hd⟩
variable {a b:Expr} {ta tb:TE} {pos:Pos}
def tB (t:TE):TT:=fun σ H Q=>t σ H fun x H1=>∃ c,x = .bl c∧Q c H1
theorem rW {e:Expr} {t:TE} (h:PE X e t) (he:∀ whole,isTrue e X.env whole=(do let v ← whole; standAt e.pos; holding [v] (truthy v)):=by intro _; rfl):PT X e (tB t):=by
 (try refine ⟨?_⟩); intro pins s σ H Q I hw
 refine isTrue_plain (thn (h pins s σ H _ I hw) fun v s1 ⟨x,H1,I1,r1,q1⟩=>?_) (he _)
 obtain ⟨d,rfl,q⟩:=q1
 cases r1
 exact wpAny_truthy_bool ⟨H1,I1,q⟩
variable {tA tB':TT} {rest:List Expr}
def tAnd (t u:TT):TT:=fun σ H Q=>t σ H fun c H1=>if c=true then u σ H1 Q else Q false H1
def tOr (t u:TT):TT:=fun σ H Q=>t σ H fun c H1=>if c=true then Q true H1 else u σ H1 Q
def tNot (t:TT):TT:=fun σ H Q=>t σ H fun c H1=>Q (!c) H1
theorem ql (ha:PT X a tA):PW X (.BoolOp .And [a] pos) tA:=by
 (try refine ⟨?_⟩); intro wh pins s σ H Q I h
 refine isTrue_and (thn (ha pins s σ H Q I h) fun c s1 e=>?_)
 cases c with
 | true=>exact isTrue_and_nil e
 | false=>exact e
theorem rF (ha:PT X a tA):PW X (.BoolOp .Or [a] pos) tA:=by
 (try refine ⟨?_⟩); intro wh pins s σ H Q I h
 refine isTrue_or (thn (ha pins s σ H Q I h) fun c s1 e=>?_)
 cases c with
 | false=>exact isTrue_or_nil e
 | true=>exact e
theorem sV (ha:PT X a tA) (hb:PW X (.BoolOp .And (b :: rest) pos) tB'):PW X (.BoolOp .And (a :: b :: rest) pos) (tAnd tA tB'):=by
 (try refine ⟨?_⟩); intro wh pins s σ H Q I h
 refine isTrue_and (thn (ha pins s σ H _ I h) fun c s1 ⟨H1,I1,q1⟩=>?_)
 cases c with
 | true=>exact hb wh pins s1 σ H1 Q I1 q1
 | false=>exact ⟨H1,I1,q1⟩
theorem pw_or (ha:PT X a tA) (hb:PW X (.BoolOp .Or (b :: rest) pos) tB'):PW X (.BoolOp .Or (a :: b :: rest) pos) (tOr tA tB'):=by
 (try refine ⟨?_⟩); intro wh pins s σ H Q I h
 refine isTrue_or (thn (ha pins s σ H _ I h) fun c s1 ⟨H1,I1,q1⟩=>?_)
 cases c with
 | true=>exact ⟨H1,I1,q1⟩
 | false=>exact hb wh pins s1 σ H1 Q I1 q1
theorem rU (ha:PT X a tA):PT X (.UnaryOp .Not a pos) (tNot tA):=by
 (try refine ⟨?_⟩); intro pins s σ H Q I h
 exact isTrue_not (ha pins s σ H (fun c H1=>Q (!c) H1) I h)
def tAndV (ta tb:TE):TE:=fun σ H Q=>ta σ H fun x H1=>∃ c,x = .bl c∧if c=true then tb σ H1 Q else Q (.bl false) H1
def tOrV (ta tb:TE):TE:=fun σ H Q=>ta σ H fun x H1=>∃ c,x = .bl c∧if c=true then Q (.bl true) H1 else tb σ H1 Q
def tNotV (ta:TE):TE:=fun σ H Q=>ta σ H fun x H1=>∃ c,x = .bl c∧Q (.bl (!c)) H1
theorem sN {op} {t:TE} (h:PE X a t):PE X (.BoolOp op [a] pos) t:=⟨fun pins s σ H Q I hw=>BoolOp_one (h pins s σ H Q I hw)⟩
theorem rn (ha:PE X a ta) (hb:PE X (.BoolOp .And (b :: rest) pos) tb):PE X (.BoolOp .And (a :: b :: rest) pos) (tAndV ta tb):=by
 (try refine ⟨?_⟩); intro pins s σ H Q I h
 refine BoolOp_and (thn (ha pins s σ H _ I h) fun v s1 ⟨x,H1,I1,r1,q1⟩=>?_)
 obtain ⟨c,rfl,q1⟩:=q1
 cases r1
 refine wpAny_truthy_bool ?_
 cases c with
 | true=>exact hb pins s1 σ H1 Q I1 q1
 | false=>exact ⟨.bl false,H1,I1,rfl,q1⟩
theorem pe_or (ha:PE X a ta) (hb:PE X (.BoolOp .Or (b :: rest) pos) tb):PE X (.BoolOp .Or (a :: b :: rest) pos) (tOrV ta tb):=by
 (try refine ⟨?_⟩); intro pins s σ H Q I h
 refine BoolOp_or (thn (ha pins s σ H _ I h) fun v s1 ⟨x,H1,I1,r1,q1⟩=>?_)
 obtain ⟨c,rfl,q1⟩:=q1
 cases r1
 refine wpAny_truthy_bool ?_
 cases c with
 | false=>exact hb pins s1 σ H1 Q I1 q1
 | true=>exact ⟨.bl true,H1,I1,rfl,q1⟩
theorem rS (ha:PE X a ta):PE X (.UnaryOp .Not a pos) (tNotV ta):=by
 (try refine ⟨?_⟩); intro pins s σ H Q I h
 refine UnaryOp_ (thn (ha pins s σ H _ I h) fun v s1 ⟨x,H1,I1,r1,q1⟩=>?_)
 obtain ⟨c,rfl,q1⟩:=q1
 cases r1
 exact not_of (wpAny_truthy_bool ⟨.bl (!c),H1,I1,rfl,q1⟩)
end
def SqL (K:PySem.W.Frag) (H:Hp) (a:Addr) (xs:List V):Prop :=
 Rd H a (.lst xs) ∨
  ∃ (o:Obj) (its:Array Value) (n:Nat),K.lookup a=some o∧o.cls = .type "list" ∧ o.dict=none∧o.data = .seq its n∧its.size≤sizeLine∧aO xs its.toList
def SqT (K:PySem.W.Frag) (H:Hp) (a:Addr) (xs:List V):Prop :=
 Rd H a (.tup xs) ∨
  ∃ (o:Obj) (its:Array Value) (n:Nat),K.lookup a=some o∧o.cls = .type "tuple" ∧ o.data = .seq its n∧its.size≤sizeLine∧aO xs its.toList
section
variable {X:Cx} {pins:List (Addr×Obj)} {σ:St} {H:Hp} {s:Shared} {a:Addr} {xs ys:List V}
theorem SqL.of {K:PySem.W.Frag} (h:H a=some (.lst xs)):SqL K H a xs:=.inl (.inl h)
theorem SqT.of {K:PySem.W.Frag} (h:H a=some (.tup xs)):SqT K H a xs:=.inl (.inl h)
theorem Inv.list (I:Inv X pins σ H s) (h:SqL X.K H a xs):∃ its:List Value,aO xs its∧PlainL s.heap a its.toArray∧xs.length≤sizeLine:=by
 rcases h with h | ⟨o,its,n,hk,hc,hd,hs,hz,r⟩
 ·obtain ⟨z,its,n,r,e⟩:=h.ok I.hok
  exact ⟨its,r,⟨_,n,e,rfl,rfl,rfl⟩,z⟩
 ·refine ⟨its.toList,r,⟨o,n,I.kIn a o hk,hc,hd,by simpa using hs⟩,?_⟩
  have e:=r.length
  simp only [Array.length_toList] at e
  omega
theorem Inv.tuple (I:Inv X pins σ H s) (h:SqT X.K H a xs):∃ its:List Value,aO xs its∧IsTup s.heap a its.toArray∧xs.length≤sizeLine:=by
 rcases h with h | ⟨o,its,n,hk,hc,hs,hz,r⟩
 ·obtain ⟨z,its,r,p⟩:=h.ok I.hok
  exact ⟨its,r,p,z⟩
 ·refine ⟨its.toList,r,⟨o,I.kIn a o hk,hc,n,by simpa using hs⟩,?_⟩
  have e:=r.length
  simp only [Array.length_toList] at e
  omega
end
abbrev Cx.wish (X:Cx) (E:Value→Shared→Prop):Cx:={ X with xe:=E }
abbrev Cx.nox (X:Cx):Cx:=X.wish fun _ _=>False
theorem Cx.Ok.wish {X:Cx} (ok:X.Ok) (E:Value→Shared→Prop):(X.wish E).Ok :=
 ⟨ok.mod,ok.kind,ok.glob,ok.blt,ok.above,ok.inj,ok.has,ok.cab,ok.hd,ok.frames,ok.stk,ok.exf,ok.bs,ok.bsz,ok.noex,ok.exfs,ok.funs,ok.frf,ok.tb⟩
theorem Cx.Ok.unwish {X:Cx} {E:Value→Shared→Prop} (ok:(X.wish E).Ok):X.Ok :=
 ⟨ok.mod,ok.kind,ok.glob,ok.blt,ok.above,ok.inj,ok.has,ok.cab,ok.hd,ok.frames,ok.stk,ok.exf,ok.bs,ok.bsz,ok.noex,ok.exfs,ok.funs,ok.frf,ok.tb⟩
section
variable {X:Cx} {pins:List (Addr×Obj)} {σ:St} {H:Hp} {s:Shared} {E:Value→Shared→Prop}
theorem Inv.wish (I:Inv X pins σ H s) (E:Value→Shared→Prop):Inv (X.wish E) pins σ H s:=⟨I.ok.wish E,I.os,I.bare,I.base,I.loc,I.cell,I.free,I.freeC,I.pin,I.hok,I.len⟩
theorem Inv.unwish (I:Inv (X.wish E) pins σ H s):Inv X pins σ H s:=⟨I.ok.unwish,I.os,I.bare,I.base,I.loc,I.cell,I.free,I.freeC,I.pin,I.hok,I.len⟩
theorem SP.unwish {D:Ends} {f:Flow} {s':Shared} (h:SP (X.wish E) pins D f s'):SP X pins D f s':=by
 cases f with
 | next=>obtain ⟨σ',H',I,q⟩:=h; exact ⟨σ',H',I.unwish,q⟩
 | brk=>obtain ⟨σ',H',I,q⟩:=h; exact ⟨σ',H',I.unwish,q⟩
 | cont=>obtain ⟨σ',H',I,q⟩:=h; exact ⟨σ',H',I.unwish,q⟩
 | ret u=>obtain ⟨v,σ',H',I,r,q⟩:=h; exact ⟨v,σ',H',I.unwish,r,q⟩
theorem PSs.nox {st:List Stmt} {t:TS} (h:PSs X.nox st t):PSs X st t:=⟨fun pins s σ H D I hw =>
 wpAny_mono (h pins s σ H D (I.wish _) hw) (fun _ _ q=>q.unwish) fun _ _ z=>False.elim z⟩
end
section
variable {X:Cx} {st:Stmt} {rest:List Stmt} {t u:TS} {e:Expr} {te:TE} {pos:Pos}
def tNext:TS:=fun D σ H=>D.nx σ H
def tSeq (t u:TS):TS:=fun D σ H=>t { D with nx:=u D } σ H
theorem kQ:PSs X [] tNext:=⟨fun _ _ σ H _ I h=>wpAny_execs_nil ⟨σ,H,I,h⟩⟩
theorem cx (h1:PS X st t) (h2:PSs X rest u):PSs X (st :: rest) (tSeq t u):=by
 (try refine ⟨?_⟩); intro pins s σ H D I h
 refine wpAny_execs_cons (thn (h1 pins s σ H { D with nx:=u D } I h) fun f s1 q=>?_)
 cases f with
 | next =>
  obtain ⟨σ',H',I',q⟩:=q
  exact h2 pins s1 σ' H' D I' q
 | ret v=>exact q
 | brk=>exact q
 | cont=>exact q
theorem ec (h1:PS X st t):PSs X [st] t:=by
 (try refine ⟨?_⟩); intro pins s σ H D I h
 refine wpAny_execs_cons (thn (h1 pins s σ H D I h) fun f s1 q=>?_)
 cases f with
 | next=>exact wpAny_execs_nil q
 | ret v=>exact q
 | brk=>exact q
 | cont=>exact q
theorem Inv.quiet {pins:List (Addr×Obj)} {σ:St} {H:Hp} {s:Shared} (I:Inv X pins σ H s):interactive X.env=false:=by simp [interactive,I.ok.kind]
def qV (te:TE):TS:=fun D σ H=>te σ H fun _ H1=>D.nx σ H1
theorem cq (he:PE X e te) (hs:swapsWith e none pos.line X.env=pure false:=by rfl):PS X (.Expr e pos) (qV te):=by
 (try refine ⟨?_⟩); intro pins s σ H D I h
 exact wpAny_Expr_any (thn (he pins s σ H _ I h) fun v s1 ⟨x,H1,I1,r1,q1⟩=>⟨σ,H1,I1,q1⟩) I.quiet hs
def tRet (te:TE):TS:=fun D σ H=>te σ H D.rt
theorem jH (he:PE X e te):PS X (.Return (some e) pos) (tRet te):=by
 (try refine ⟨?_⟩); intro pins s σ H D I h
 exact wpAny_Return_some (thn (he pins s σ H _ I h) fun v s1 ⟨x,H1,I1,r1,q1⟩=>⟨x,σ,H1,I1,r1,q1⟩)
def tIfS (c:TT) (t u:TS):TS:=fun D σ H=>c σ H fun b H1=>if b=true then t D σ H1 else u D σ H1
theorem qE {c:Expr} {a b:List Stmt} {tc:TT} (hc:PT X c tc) (ha:PSs X a t) (hb:PSs X b u):PS X (.If c a b pos) (tIfS tc t u):=by
 (try refine ⟨?_⟩); intro pins s σ H D I h
 refine wpAny_If (thn (hc pins s σ H _ I h) fun d s1 ⟨H1,I1,q1⟩=>?_)
 cases d with
 | true=>exact ha pins s1 σ H1 D I1 q1
 | false=>exact hb pins s1 σ H1 D I1 q1
def rA:TS:=fun _ _ _=>False
theorem nz:PS X st rA:=⟨fun _ _ _ _ _ _ h=>h.elim⟩
end
abbrev TG:=V→St→Hp→(St→Hp→Prop)→Prop
abbrev TGs:=List V→St→Hp→(St→Hp→Prop)→Prop
structure PG (X:Cx) (target:Expr) (t:TG):Prop where
 go:∀ (pins:List (Addr×Obj)) (s:Shared) (σ:St) (H:Hp) (v:V) (u:Value) (Q:St→Hp→Prop),Inv X pins σ H s→aX v u→t v σ H Q →
  wpAny (model X.prog X.w) X.A (assign target X.env u) (fun _ s'=>∃ σ' H',Inv X pins σ' H' s'∧Q σ' H') X.xe s
instance {X:Cx} {target:Expr} {t:TG}:CoeFun (PG X target t) fun _=>∀ (pins:List (Addr×Obj)) (s:Shared) (σ:St) (H:Hp) (v:V) (u:Value) (Q:St→Hp→Prop),Inv X pins σ H s→aX v u→t v σ H Q →
 wpAny (model X.prog X.w) X.A (assign target X.env u) (fun _ s'=>∃ σ' H',Inv X pins σ' H' s'∧Q σ' H') X.xe s:=⟨fun h=>h.go⟩
structure PGs (X:Cx) (ts:List Expr) (t:TGs):Prop where
 go:∀ (pins:List (Addr×Obj)) (s:Shared) (σ:St) (H:Hp) (vs:List V) (us:List Value) (Q:St→Hp→Prop),Inv X pins σ H s→aO vs us→t vs σ H Q →
  wpAny (model X.prog X.w) X.A (assignInOrder ((assignEach ts X.env).map (·.2)) us) (fun _ s'=>∃ σ' H',Inv X pins σ' H' s'∧Q σ' H') X.xe s
instance {X:Cx} {ts:List Expr} {t:TGs}:CoeFun (PGs X ts t) fun _=>∀ (pins:List (Addr×Obj)) (s:Shared) (σ:St) (H:Hp) (vs:List V) (us:List Value) (Q:St→Hp→Prop),Inv X pins σ H s→aO vs us→t vs σ H Q →
 wpAny (model X.prog X.w) X.A (assignInOrder ((assignEach ts X.env).map (·.2)) us) (fun _ s'=>∃ σ' H',Inv X pins σ' H' s'∧Q σ' H') X.xe s:=⟨fun h=>h.go⟩
abbrev TSet:=V→V→V→Hp→(Hp→Prop)→Prop
def PSet (X:Cx) (t:TSet):Prop :=
 ∀ (pins:List (Addr×Obj)) (s:Shared) (σ:St) (H:Hp) (o i v:V) (ov iv u:Value) (Q:Hp→Prop),Inv X pins σ H s→aX o ov→aX i iv→aX v u→t o i v H Q →
  wpAny (model X.prog X.w) X.A (setItem ov iv u) (fun _ s'=>∃ H',Inv X pins σ H' s'∧Q H') X.xe s
section
variable {X:Cx} {pos:Pos}
def fX (i:Nat):TG:=fun v σ H Q=>Q (σ.set i (some v)) H
theorem iy {i:Nat} {x:Str} (hN:X.N.Nodup) (hi:X.N[i]? = some x) (hx:Loc X.env.scope x) (hf:X.fn x=true∨X.env.scope.names.lookup x=some .local:=by first | exact .inl rfl | exact .inr rfl | assumption):PG X (.Name x pos) (fX i):=by
 (try refine ⟨?_⟩); intro pins s σ H v u Q I r h
 exact wpAny_assign_Name (b7 I hN hi hx r (fun s' I'=>⟨_,H,I',h⟩) hf)
def gNil:TGs:=fun vs σ H Q=>vs=[]∧Q σ H
def gCons (t:TG) (u:TGs):TGs:=fun vs σ H Q=>∃ v r,vs=v :: r∧t v σ H fun σ' H'=>u r σ' H' Q
theorem qC:PGs X [] gNil:=by
 (try refine ⟨?_⟩); intro pins s σ H vs us Q I r h
 obtain ⟨e,h⟩:=h
 subst e
 cases r
 exact assignInOrder_nil ⟨σ,H,I,h⟩
theorem mL {e:Expr} {es:List Expr} {t:TG} {u:TGs} (h1:PG X e t) (h2:PGs X es u)
 (hs:(assignEach (e :: es) X.env).map (·.2)=assign e X.env :: (assignEach es X.env).map (·.2):=by rfl):PGs X (e :: es) (gCons t u):=by
 (try refine ⟨?_⟩); intro pins s σ H vs us Q I r h
 obtain ⟨v,vr,e1,h⟩:=h
 subst e1
 cases r with
 | cons r rr =>
  rw [hs]
  refine assignInOrder_cons (thn (h1 pins s σ H _ _ _ I r h) fun _ s1 ⟨σ1,H1,I1,q1⟩=>?_)
  exact h2 pins s1 σ1 H1 _ _ Q I1 rr q1
def gTup (K:PySem.W.Frag) (n:Nat) (t:TGs):TG:=fun v σ H Q=>∃ a xs,v = .ref a∧SqT K H a xs∧xs.length=n∧t xs σ H Q
theorem sY {es:List Expr} {k:Nat} {t:TGs} {n:Nat} (hc:X.calm=true) (h:PGs X es t)
 (hn:(assignEach es X.env).length=n:=by rfl) (hst:(assignEach es X.env).findIdx? (·.1)=none:=by rfl):PG X (.Tuple es k pos) (gTup X.K n t):=by
 (try refine ⟨?_⟩); intro pins s σ H v u Q I r hw
 obtain ⟨a,xs,e1,hq,hl,hw⟩:=hw
 subst e1
 cases r
 obtain ⟨its,rv,ht,hz⟩:=I.tuple hq
 refine assign_Tuple_tuple (I.ok.hd hc) ht (by simp [hn,← hl,rv.length]) hst fun h' hx=>?_
 have I1:Inv X pins σ H { s with heap:=h' }:=I.kept (t':=s.toks) fun b o e=>hx b o (Nat.ne_of_lt (Heap.lt_size e)) e
 exact h pins _ σ H xs _ Q I1 (by simpa using rv) hw
def gSub (to ti:TE) (t:TSet):TG:=fun v σ H Q=>to σ H fun o H1=>ti σ H1 fun i H2=>t o i v H2 fun H3=>Q σ H3
theorem sD {o i:Expr} {to ti:TE} {t:TSet} (ho:PE X o to) (hi:PE X i ti) (hs:PSet X t)
 (ha:∀ v,assign (.Subscript o i pos) X.env v=(do
  let ov ← holding [v] (eval o X.env)
  let iv ← holding [v,ov] (eval i X.env)
  standAt pos
  holding [v,ov,iv] (setItem ov iv v)
  release [v,ov,iv] []):=by intro _; rfl):PG X (.Subscript o i pos) (gSub to ti t):=by
 (try refine ⟨?_⟩); intro pins s σ H v u Q I r h
 rw [ha]
 refine wpAny_bind (wpAny_holding (thn (ho pins s σ H _ I h) fun ov s1 ⟨x,H1,I1,r1,q1⟩=>?_))
 refine wpAny_bind (wpAny_holding (thn (hi pins s1 σ H1 _ I1 q1) fun iv s2 ⟨y,H2,I2,r2,q2⟩=>?_))
 refine wpAny_bind (wpAny_standAt (wpAny_bind (wpAny_holding (thn (hs pins s2 σ H2 x y v ov iv u _ I2 r1 r2 r q2) fun _ s3 ⟨H3,I3,q3⟩=>?_))))
 exact wpAny_release ⟨σ,H3,I3,q3⟩
def lz (te:TE) (g:TG):TS:=fun D σ H=>te σ H fun x H1=>g x σ H1 D.nx
theorem jT {tg e:Expr} {te:TE} {g:TG} (he:PE X e te) (hg:PG X tg g) (hs:swapsWithSole [tg] e pos.line X.env=pure false:=by rfl) (hw:swappedStores [tg] e X.env=pure none:=by rfl)
 (h1:(assignEach [tg] X.env).map (·.2)=[assign tg X.env]:=by rfl):PS X (.Assign [tg] e pos) (lz te g):=by
 (try refine ⟨?_⟩); intro pins s σ H D I h
 refine wpAny_Assign_stores (thn (he pins s σ H _ I h) fun v s1 ⟨x,H1,I1,r1,q1⟩=>?_) hs hw
 rw [h1]
 exact thn (hg pins s1 σ H1 x v _ I1 r1 q1) fun _ s2 q=>q
theorem oG {i:Nat} {x:Str} {e:Expr} {te:TE} {pos':Pos} (hN:X.N.Nodup) (hi:X.N[i]? = some x) (hx:Loc X.env.scope x) (he:PE X e te) (hs:swapsWith e (some (.Name x pos')) pos.line X.env=pure false:=by rfl) (hf:X.fn x=true∨X.env.scope.names.lookup x=some .local:=by first | exact .inl rfl | exact .inr rfl | assumption) :
 PS X (.Assign [.Name x pos'] e pos) (lz te (fX i)):=by
 (try refine ⟨?_⟩); intro pins s σ H D I h
 refine wpAny_Assign_Name (thn (he pins s σ H _ I h) fun v s1 ⟨y,H1,I1,r1,q1⟩=>?_) hs
 exact b7 I1 hN hi hx r1 (fun s2 I2=>⟨_,H1,I2,q1⟩) hf
def tPar (i j:Nat) (ta:TA):TS:=fun D σ H=>ta σ H fun vs H1=>∃ v w,vs=[v,w]∧D.nx ((σ.set i (some v)).set j (some w)) H1
theorem nh {i j:Nat} {x y:Str} {a b:Expr} {ta:TA} {px py pt:Pos} {kt k2 pt2} (hc:X.calm=true) (hN:X.N.Nodup) (hi:X.N[i]? = some x) (hj:X.N[j]? = some y) (hij:i≠j)
 (hx:X.env.scope.names.lookup x=some .local) (hy:X.env.scope.names.lookup y=some .local) (ha:PA X [a,b] ta)
 (hw:swappedStores [.Tuple [.Name x px,.Name y py] kt pt] (.Tuple [a,b] k2 pt2) X.env=pure (some [x,y]))
 (hs:swapsWithSole [.Tuple [.Name x px,.Name y py] kt pt] (.Tuple [a,b] k2 pt2) pos.line X.env=pure false:=by rfl) :
 PS X (.Assign [.Tuple [.Name x px,.Name y py] kt pt] (.Tuple [a,b] k2 pt2) pos) (tPar i j ta):=by
 (try refine ⟨?_⟩); intro pins s σ H D I h
 rw [exec_Assign_arm]
 refine wpAny_bind (wpAny_standAt ?_)
 rw [hs]
 refine wpAny_bind (wpAny_pure ?_)
 rw [if_neg (by decide)]
 refine wpAny_bind (Tuple_ (thn (ha _ pins s σ H _ I h) fun us s1 ⟨vs,H1,I1,r1,q1⟩=>?_))
 obtain ⟨v,w,e1,q1⟩:=q1
 subst e1
 obtain ⟨u1,u2,rfl,rv,rw'⟩:∃ u1 u2,us=[u1,u2]∧aX v u1∧aX w u2:=by
  cases r1 with
  | cons p q =>
   cases q with
   | cons p' q' =>
    cases q'
    exact ⟨_,_,rfl,p,p'⟩
 refine wpAny_newObj_type ?_ (by show 2≤sizeLine; decide)
 have I2:Inv X pins σ H1 { s1 with heap:=s1.heap.push { cls:=.type "tuple",data:=.seq [u1,u2].toArray } }:=I1.kept (t':=s1.toks) fun b o e=>Heap.get?_push_of_some _ e
 rw [hw]
 refine wpAny_bind (wpAny_pure ?_)
 show wpAny (model X.prog X.w) X.A (do rule "assign.swapped-stores"; let items ← unpackItems (.ref s1.heap.objs.size) 2 none; assignInOrder [fun v=>bindName X.env y v,fun v=>bindName X.env x v] items.reverse; pure Flow.next) _ _ _
 refine wpAny_bind (wpAny_rule (wpAny_bind (unpackItems_tuple (items:=#[u1,u2]) (I.ok.hd hc) (IsTup.new s1.heap _) fun h' hx'=>?_)))
 have I3:=I2.kept (h':=h') (t':=s1.toks) fun b o e=>hx' b o (Nat.ne_of_lt (Heap.lt_size e)) e
 show wpAny _ _ (assignInOrder [fun v=>bindName X.env y v,fun v=>bindName X.env x v] [u2,u1] >>= fun _=>pure Flow.next) _ _ _
 refine wpAny_bind (assignInOrder_cons (wpAny_bindName (b7 I3 hN hj (.inl hy) rw' (fun s2 I4=>?_) (.inr hy))))
 refine assignInOrder_cons (wpAny_bindName (b7 I4 hN hi (.inl hx) rv (fun s3 I5=>assignInOrder_nil (wpAny_pure ?_)) (.inr hx)))
 rw [List.set_comm _ _ (Ne.symm hij)] at I5
 exact ⟨_,H1,I5,q1⟩
end
section
variable {X:Cx} {pos:Pos}
end
structure It where
 go:Nat→Hp→Prop
 yld:Nat→Hp→V→Hp→Prop
 stop:Nat→Hp→Prop
def e6 (X:Cx) (pins:List (Addr×Obj)) (H:Hp) (b:Addr):Prop :=
 H b=none∧b≠X.env.locals∧b ∉ X.fs∧(b∈X.ex∨X.s₀.heap.objs.size≤b)∧(∀ x c,X.env.cells.lookup x=some c→c≠b)∧∀ p∈X.pn++pins,p.1≠b
theorem Inv.fpOk {X:Cx} {pins:List (Addr×Obj)} {σ:St} {H H':Hp} {s:Shared} {b:Addr} (I:Inv X pins σ H s) (hb:s.heap.objs.size≤b) (hn:H' b=none):e6 X pins H' b:=by
 refine ⟨hn,Nat.ne_of_gt (Nat.lt_of_lt_of_le I.lt hb),I.nofs hb,.inr (Nat.le_trans I.sz hb),fun x c e z=>?_,fun p hp z=>?_⟩
 ·obtain ⟨v,q⟩:=I.cell x c e
  exact absurd (Nat.lt_of_lt_of_le q.lt (by rw [z]; exact hb)) (Nat.lt_irrefl _)
 ·exact absurd (Nat.lt_of_lt_of_le (Heap.lt_size (I.pin p hp).1) (by rw [z]; exact hb)) (Nat.lt_irrefl _)
structure Turn (P:Program) (w:World) (K:PySem.W.Frag) (tg:Expr) (J:It) (fp:List Addr) (it:Addr) (tn:Nat→Heap→Prop):Prop where
 mem:it∈fp
 obj:∀ i h,tn i h→∀ b∈fp,∃ o,h.get? b=some o∧∀ v,o.data≠.cell v
 keep:∀ i h h',tn i h→(∀ b∈fp,∀ o,h.get? b=some o→h'.get? b=some o)→tn i h'
 item:∀ (X:Cx),X.prog=P→X.w=w→X.K=K→X.calm=true→∀ (i:Nat) (pins:List (Addr×Obj)) (s:Shared) (σ:St) (H:Hp) (E:Value→Shared→Prop),Inv X pins σ H s→(∀ b∈fp,e6 X pins H b)→tn i s.heap→J.go i H →
  wpAny (model P w) X.A (pyNext (.ref it)) (fun r s1=>∃ u,r=some u ∧
   wpAny (model P w) X.A (letOwnedTupleGo tg (.ref it) u) (fun _ s2=>∃ x H',Inv X pins σ H' s2∧aX x u∧J.yld i H x H'∧tn (i + 1) s2.heap∧∀ b∈fp,H' b=none) E s1) E s
 done:∀ (X:Cx),X.prog=P→X.w=w→X.K=K→X.calm=true→∀ (i:Nat) (pins:List (Addr×Obj)) (s:Shared) (σ:St) (H:Hp) (E:Value→Shared→Prop),Inv X pins σ H s→(∀ b∈fp,e6 X pins H b)→tn i s.heap→J.stop i H →
  wpAny (model P w) X.A (pyNext (.ref it)) (fun r s1=>r=none∧Inv X pins σ H s1) E s
 self:∀ (A:Around) (i:Nat) (s:Shared) (Q:Value→Shared→Prop) (E:Value→Shared→Prop),tn i s.heap→Q (.ref it) s→wpAny (model P w) A (pyIter (.ref it)) Q E s
abbrev TI:=St→Hp→(It→Hp→Prop)→Prop
def PIE (X:Cx) (pins:List (Addr×Obj)) (σ:St) (tg:Expr) (R:It→Hp→Prop) (itv:Value) (s2:Shared):Prop :=
 ∃ (it:Addr) (fp:List Addr) (tn:Nat→Heap→Prop) (J:It) (H':Hp),itv = .ref it∧Inv X pins σ H' s2∧Turn X.prog X.w X.K tg J fp it tn∧tn 0 s2.heap∧(∀ b∈fp,e6 X pins H' b)∧R J H'
structure PI (X:Cx) (tg iter:Expr) (wi:TI):Prop where
 go:∀ (pins:List (Addr×Obj)) (s:Shared) (σ:St) (H:Hp) (R:It→Hp→Prop),Inv X pins σ H s→wi σ H R →
  wpAny (model X.prog X.w) X.A (eval iter X.env) (fun v s1=>wpAny (model X.prog X.w) X.A (pyIter v) (PIE X pins σ tg R) X.xe s1) X.xe s
instance {X:Cx} {tg iter:Expr} {wi:TI}:CoeFun (PI X tg iter wi) fun _=>∀ (pins:List (Addr×Obj)) (s:Shared) (σ:St) (H:Hp) (R:It→Hp→Prop),Inv X pins σ H s→wi σ H R →
 wpAny (model X.prog X.w) X.A (eval iter X.env) (fun v s1=>wpAny (model X.prog X.w) X.A (pyIter v) (PIE X pins σ tg R) X.xe s1) X.xe s:=⟨fun h=>h.go⟩
theorem go_of {M:Model} {A:Around} {E:Value→Shared→Prop} {s:Shared} {tg:Expr} {it:Addr} {u:Value} {o:Obj} {n:String} {vs:Array Value} {Q:Unit→Shared→Prop} (ho:s.heap.get? it=some o) (hc:o.cls = .type n) (hd:o.data = .fields vs)
 (hn : ["enumerate","zip","dict_itemiterator","dict_reverseitemiterator","odict_iterator","itertools.zip_longest","itertools.pairwise"].contains n=false) (hQ:Q () s):wpAny M A (letOwnedTupleGo tg (.ref it) u) Q E s:=by
 unfold letOwnedTupleGo
 cases tg <;> first
  | exact wpAny_pure hQ
  | (cases u <;> first
   | exact wpAny_pure hQ
   | (refine wpAny_bind (wpAny_load ho ?_)
      rw [hc,hd]
      show wpAny M A (if (["enumerate","zip","dict_itemiterator","dict_reverseitemiterator","odict_iterator","itertools.zip_longest","itertools.pairwise"].contains n&&vs[0]? == some (rawInt _))=true then _ else _) Q E s
      rw [if_neg (by intro h; rw [hn,Bool.false_and] at h; cases h)]
      exact wpAny_pure hQ))
def Itr (lo:Int) (n:Nat):It:=⟨fun i _=>i<n,fun i H x H'=>H'=H∧x = .int (lo + i),fun i _=>n≤i⟩
theorem jX {P:Program} {w:World} {K:PySem.W.Frag} {tg:Expr} (it:Addr) (lo:Int) (n:Nat):Turn P w K tg (Itr lo n) [it] it (fun i h=>IsRangeIter h it (lo + (i:Nat) * 1) ((n:Int) - (i:Nat)) 1) where
 mem:=by simp
 obj:=fun i h st b hb=>by
  have e:b=it:=by simpa using hb
  subst e
  exact ⟨_,st,fun v z=>by
   have z':Data.fields _=Data.cell v:=z
   cases z'⟩
 keep:=fun i h h' st k=>k it (by simp) _ st
 item:=by
  intro X hP hw hK hc i pins s σ H E I hf st hg
  subst hP hw hK
  obtain ⟨f0,f1,f2,f3,f4,f5⟩:=hf it (by simp)
  have W:=Walks.range (prog:=X.prog) (w:=X.w) (I.ok.hd hc) it lo 1 n
  refine W.item i s _ _ hg st fun v h' tk hv st' kk=>?_
  obtain ⟨t,rfl⟩:=hv
  have I1:Inv X pins σ H { s with heap:=h',toks:=tk }:=I.turned (fun b o hb e=>kk b o (by simpa using hb) e) f0 f1 f3 f4 f5
  refine ⟨_,rfl,go_of (s:={ s with heap:=h',toks:=tk }) (n:="range_iterator") st' rfl rfl (by decide) ⟨.int (lo + i),H,I1,⟨t,?_⟩,⟨rfl,rfl⟩,st',fun b hb=>(hf b hb).1⟩⟩
  rw [Int.mul_one]
 done:=by
  intro X hP hw hK hc i pins s σ H E I hf st hg
  subst hP hw hK
  obtain ⟨f0,f1,f2,f3,f4,f5⟩:=hf it (by simp)
  exact wpAny_pyNext_range_end (I.ok.hd hc) st (by have:n≤i:=hg; omega) fun h' eb=>⟨rfl,I.turned (t':=s.toks) (fun b o hb e=>eb b o hb e) f0 f1 f3 f4 f5⟩
 self:=fun _ _ _ _ _ st h=>wpAny_pyIter_rangeiter st h
section
variable {X:Cx} {tg:Expr}
theorem jm {pins:List (Addr×Obj)} {σ:St} {H:Hp} {s:Shared} {R:It→Hp→Prop} {E:Value→Shared→Prop} {lo hi:Int} {t u v:Tok} {tk:Nat} (I:Inv X pins σ H s) (h1 : -(2 ^ 62)≤lo) (h2:lo<2 ^ 62) (h3 : -(2 ^ 62)≤hi) (h4:hi<2 ^ 62)
 (q:R (Itr lo (hi - lo).toNat) H):wpAny (model X.prog X.w) X.A (pyIter (.ref s.heap.objs.size)) (PIE X pins σ tg R) E { s with heap:=s.heap.push { cls:=.type "range",data:=.fields #[.int lo t,.int hi u,.int 1 v] },toks:=tk }:=by
 refine wpAny_pyIter_range (IsRange.new ..) (small_one h1 h2 h3 h4) ?_
 have I1:Inv X pins σ H { s with heap:=s.heap.push { cls:=.type "range",data:=.fields #[.int lo t,.int hi u,.int 1 v] },toks:=tk }:=I.kept fun b o e=>Heap.get?_push_of_some _ e
 refine ⟨(s.heap.push { cls:=.type "range",data:=.fields #[.int lo t,.int hi u,.int 1 v] }).objs.size,[(s.heap.push { cls:=.type "range",data:=.fields #[.int lo t,.int hi u,.int 1 v] }).objs.size],_,_,H,rfl,
  I1.kept (t':=tk) fun b o e=>Heap.get?_push_of_some _ e,jX _ lo (hi - lo).toNat,?_,fun b hb=>?_,q⟩
 ·have e1:lo + ((0:Nat):Int) * 1=lo:=by simp
  have e2:(((hi - lo).toNat:Nat):Int) - ((0:Nat):Int)=Builtin.Range.rangeSize lo hi 1:=by rw [rangeSize_one]; split <;> omega
  show IsRangeIter _ _ (lo + ((0:Nat):Int) * 1) ((((hi - lo).toNat:Nat):Int) - ((0:Nat):Int)) 1
  rw [e1,e2]
  exact Heap.get?_push_size _ rfl
 ·have e:b=(s.heap.push { cls:=.type "range",data:=.fields #[.int lo t,.int hi u,.int 1 v] }).objs.size:=by simpa using hb
  subst e
  exact I1.fpOk (Nat.le_refl _) (I1.hok.fresh (Nat.le_refl _))
def iRng1 (ta:TA):TI:=fun σ H R=>ta σ H fun vs H1=>∃ j:Int,vs=[.int j]∧-(2 ^ 62)≤j∧j<2 ^ 62∧R (Itr 0 j.toNat) H1
def iRng2 (ta:TA):TI:=fun σ H R=>ta σ H fun vs H1=>∃ i j:Int,vs=[.int i,.int j]∧(-(2 ^ 62)≤i∧i<2 ^ 62∧-(2 ^ 62)≤j∧j<2 ^ 62)∧R (Itr i (j - i).toNat) H1
theorem lF {a:Expr} {ta:TA} {p pos:Pos} (hg:Gl X "range") (hm:X.mg "range" = none) (ha:PA X [a] ta) (hs:starEach [a] X.env=[(false,eval a X.env)]:=by rfl):PI X tg (.Call (.Name "range" p) [a] [] pos) (iRng1 ta):=by
 (try refine ⟨?_⟩); intro pins s σ H R I h
 refine Call_ (eZ I hg hm boot_range (PyProof.Rows.callWith_type1 (thn (ha pos pins s σ H _ I h) fun us s1 ⟨vs,H1,I1,r1,q1⟩=>?_) hs rfl))
 obtain ⟨j,e,q1,q2,q⟩:=q1
 subst e
 cases r1 with
 | cons r rr =>
  cases rr
  obtain ⟨t,rfl⟩:=r
  exact call_range_1 (jm I1 (by omega) (by omega) q1 q2 (by simpa using q))
theorem lx {a b:Expr} {ta:TA} {p pos:Pos} (hg:Gl X "range") (hm:X.mg "range" = none) (ha:PA X [a,b] ta) (hs:starEach [a,b] X.env=[(false,eval a X.env),(false,eval b X.env)]:=by rfl) (hs2:starEach [b] X.env=[(false,eval b X.env)]:=by rfl) :
 PI X tg (.Call (.Name "range" p) [a,b] [] pos) (iRng2 ta):=by
 (try refine ⟨?_⟩); intro pins s σ H R I h
 refine Call_ (eZ I hg hm boot_range (PyProof.Rows.callWith_type1 (thn (ha pos pins s σ H _ I h) fun us s1 ⟨vs,H1,I1,r1,q1⟩=>?_) (by rw [hs,hs2]) (by rw [hs2]; rfl)))
 obtain ⟨i,j,e,⟨q1,q2,q3,q4⟩,q⟩:=q1
 subst e
 cases r1 with
 | cons r rr =>
  cases rr with
  | cons r' rr =>
   cases rr
   obtain ⟨t,rfl⟩:=r
   obtain ⟨t',rfl⟩:=r'
   exact call_range_2 (jm I1 q1 q2 q3 q4 q)
def tFor (wi:TI) (g:TG) (tb:TS):TS:=fun D σ H=>wi σ H fun J H1=>∃ W:Nat→Nat→St→Hp→Prop,(∃ m,W 0 m σ H1)∧∀ i m σ H,W i m σ H →
 (J.stop i H∧D.nx σ H)∨(J.go i H∧∃ N:St→Hp→Prop,(∀ σ' H',N σ' H'→∃ m',m'<m∧W (i + 1) m' σ' H')∧∀ x H',J.yld i H x H'→g x σ H' fun σ2 H2=>tb { D with nx:=N,ct:=N,bk:=D.nx } σ2 H2)
def f9 (fp:List Addr) (h:Heap):List (Addr×Obj):=fp.filterMap fun b=>(h.get? b).map fun o=>(b,o)
theorem bU {fp:List Addr} {h:Heap} {b:Addr} {o:Obj} (hb:b∈fp) (e:h.get? b=some o):(b,o)∈f9 fp h:=List.mem_filterMap.mpr ⟨b,hb,by rw [e]; rfl⟩
theorem g_ {fp:List Addr} {h:Heap} {p:Addr×Obj} (hp:p∈f9 fp h):p.1∈fp∧h.get? p.1=some p.2:=by
 obtain ⟨b,hb,e⟩:=List.mem_filterMap.mp hp
 cases q:h.get? b with
 | none=>rw [q] at e; cases e
 | some o =>
  rw [q] at e
  have e':(b,o)=p:=Option.some.inj e
  subst e'
  exact ⟨hb,q⟩
theorem Inv.pinned {pins:List (Addr×Obj)} {σ:St} {H:Hp} {s:Shared} {fp:List Addr} (I:Inv X pins σ H s) (hf:∀ b∈fp,e6 X pins H b) (ho:∀ b∈fp,∃ o,s.heap.get? b=some o∧∀ v,o.data≠.cell v):Inv X (pins++f9 fp s.heap) σ H s :=
 I.pins_of fun p hp=>(List.mem_append.mp hp).elim (fun z=>I.pin p (List.mem_append_right _ z)) fun z=>by
  obtain ⟨hb,e⟩:=g_ z
  obtain ⟨f0,f1,f2,_⟩:=hf p.1 hb
  obtain ⟨o,e',d⟩:=ho p.1 hb
  rw [e] at e'; cases e'
  exact ⟨e,f0,f1,f2,d⟩
theorem Inv.unpinned {pins pl:List (Addr×Obj)} {σ:St} {H:Hp} {s:Shared} (I:Inv X (pins++pl) σ H s):Inv X pins σ H s:=I.pins_of fun p hp=>I.pin p (List.mem_append_right _ (List.mem_append_left _ hp))
theorem ol {iter:Expr} {body:List Stmt} {wi:TI} {g:TG} {tb:TS} {pos:Pos} (hp:PassesOwn (model X.prog X.w) X.A X.env X.xe) (hc:X.calm=true) (hi:PI X tg iter wi) (hg:PG X tg g) (hb:PSs X body tb)
 (hs:∀ x,foldedSetIterable iter X.env x=pure x:=by intro _; rfl):PS X (.For tg iter body [] pos) (tFor wi g tb):=by
 (try refine ⟨?_⟩); intro pins s σ H D I h
 refine wpAny_For (thn (hi pins s σ H _ I h) fun v s1 h1=>thn h1 fun itv s2 h2=>?_) hs
 obtain ⟨it,fp,tn,J,H2,e,I2,T,st2,f2,W,⟨m0,w0⟩,turn⟩:=h2
 subst e
 -- what stays true of the iterator's objects through the loop
 have stat:∀ {H':Hp},(∀ b∈fp,H' b=none)→∀ b∈fp,e6 X pins H' b:=fun hn b hb=>⟨hn b hb,(f2 b hb).2⟩
 refine codeAny_forLoop_any (fun n s'=>∃ i σ' H',Inv X pins σ' H' s'∧tn i s'.heap∧(∀ b∈fp,H' b=none)∧W i n σ' H') ?_ m0 ⟨0,σ,H2,I2,st2,fun b hb=>(f2 b hb).1,w0⟩
 rintro n s3 ⟨i,σ3,H3,I3,st3,fr3,w3⟩
 rcases turn i n σ3 H3 w3 with ⟨stop,qn⟩ | ⟨go,N,hN,step⟩
 ·refine wpAny_passesOwn hp (thn (T.done X rfl rfl rfl hc i pins s3 σ3 H3 X.xe I3 (stat fr3) st3 stop) fun r s4 ⟨hr,I4⟩=>?_)
  subst hr
  exact wpAny_execs_nil ⟨σ3,H3,I4,qn⟩
 ·refine wpAny_passesOwn hp (thn (T.item X rfl rfl rfl hc i pins s3 σ3 H3 X.xe I3 (stat fr3) st3 go) fun r s4 ⟨u,hr,h4⟩=>?_)
  subst hr
  refine wpAny_passesOwn hp (thn h4 fun _ s5 ⟨x,H5,I5,r5,y5,st5,fr5⟩=>?_)
  have I5':=I5.pinned (stat fr5) (T.obj _ _ st5)
  refine wpAny_passesOwn hp (thn (hg _ s5 σ3 H5 x u _ I5' r5 (step x H5 y5)) fun _ s6 ⟨σ6,H6,I6,q6⟩=>?_)
  refine wpAny_passesOwn hp (thn (hb _ s6 σ6 H6 _ I6 q6) fun f s7 q7=>?_)
  have again:∀ {σ7:St} {H7:Hp},Inv X (pins++f9 fp s5.heap) σ7 H7 s7→N σ7 H7→∃ m,m<n∧∃ i σ' H',Inv X pins σ' H' s7∧tn i s7.heap∧(∀ b∈fp,H' b=none)∧W i m σ' H':=fun {σ7 H7} I7 n7=>by
   obtain ⟨m',hm,w7⟩:=hN σ7 H7 n7
   refine ⟨m',hm,i + 1,σ7,H7,I7.unpinned,T.keep _ _ _ st5 fun b hb o e=>(I7.pin (b,o) (List.mem_append_right _ (List.mem_append_right _ (bU hb e)))).1,fun b hb=>?_,w7⟩
   obtain ⟨o,e,d⟩:=T.obj _ _ st5 b hb
   exact (I7.pin (b,o) (List.mem_append_right _ (List.mem_append_right _ (bU hb e)))).2.1
  cases f with
  | next=>obtain ⟨σ7,H7,I7,n7⟩:=q7; exact again I7 n7
  | cont=>obtain ⟨σ7,H7,I7,n7⟩:=q7; exact again I7 n7
  | brk=>obtain ⟨σ7,H7,I7,q7⟩:=q7; exact ⟨σ7,H7,I7.unpinned,q7⟩
  | ret v=>obtain ⟨x7,σ7,H7,I7,r7,q7⟩:=q7; exact ⟨x7,σ7,H7,I7.unpinned,r7,q7⟩
end
abbrev R2:=V→V→Hp→VK→Prop
def OpR (X:Cx) (f:Value→Value→Sem Value) (r:R2):Prop :=
 ∀ (pins:List (Addr×Obj)) (s:Shared) (σ:St) (H:Hp) (x y:V) (v u:Value) (Q:VK),Inv X pins σ H s→aX x v→aX y u→r x y H Q →
  wpAny (model X.prog X.w) X.A (f v u) (EP X pins σ Q) X.xe s
def dC (X:Cx) (f:Value) (r:List V→Hp→VK→Prop):Prop :=
 ∀ (pins:List (Addr×Obj)) (s:Shared) (σ:St) (H:Hp) (xs:List V) (us:List Value) (Q:VK),Inv X pins σ H s→aO xs us→r xs H Q →
  wpAny (model X.prog X.w) X.A (call f us) (EP X pins σ Q) X.xe s
def TruR (X:Cx) (r:V→Hp→(Bool→Hp→Prop)→Prop):Prop :=
 ∀ (pins:List (Addr×Obj)) (s:Shared) (σ:St) (H:Hp) (x:V) (v:Value) (Q:Bool→Hp→Prop),Inv X pins σ H s→aX x v→r x H Q →
  wpAny (model X.prog X.w) X.A (truthy v) (TP X pins σ Q) X.xe s
def tOp (r:R2) (ta tb:TE):TE:=fun σ H Q=>ta σ H fun x H1=>tb σ H1 fun y H2=>r x y H2 Q
def rI (C:Int→Int→Prop) (g:Int→Int→V):R2:=fun x y H Q=>∃ i j,x = .int i∧y = .int j∧C i j∧Q (g i j) H
def rI0 (g:Int→Int→V):R2:=fun x y H Q=>∃ i j,x = .int i∧y = .int j∧Q (g i j) H
section
variable {X:Cx} {a b c:Expr} {ta tb tc:TE} {pos:Pos}
theorem binT (ha:PE X a ta) (hb:PE X b tb) {pins:List (Addr×Obj)} {s:Shared} {σ:St} {H:Hp} {R:V→V→Hp→Prop} (I:Inv X pins σ H s)
 (h:ta σ H fun x H1=>tb σ H1 fun y H2=>R x y H2) {Q:Value→Shared→Prop} {f:Value→Value→Sem Value}
 (hf:∀ v u s2 x y H2,Inv X pins σ H2 s2→aX x v→aX y u→R x y H2→wpAny (model X.prog X.w) X.A (f v u) Q X.xe s2) :
 wpAny (model X.prog X.w) X.A (eval a X.env) (fun v s₁=>wpAny (model X.prog X.w) X.A (eval b X.env) (fun u s₂=>wpAny (model X.prog X.w) X.A (f v u) Q X.xe s₂) X.xe s₁) X.xe s:=by
 refine thn (ha pins s σ H _ I h) fun v s1 ⟨x,H1,I1,r1,q1⟩=>?_
 refine thn (hb pins s1 σ H1 _ I1 q1) fun u s2 ⟨y,H2,I2,r2,q2⟩=>?_
 exact hf v u s2 x y H2 I2 r1 r2 q2
theorem om {op:Operator} {r:R2} (ho:OpR X (binaryOp op) r) (ha:PE X a ta) (hb:PE X b tb):PE X (.BinOp a op b pos) (tOp r ta tb):=by
 (try refine ⟨?_⟩); intro pins s σ H Q I h
 exact wpAny_BinOp (binT ha hb I h fun v u s2 x y H2 I2 rx ry q=>ho pins s2 σ H2 x y v u Q I2 rx ry q)
theorem opI {f:Value→Value→Sem Value} {C:Int→Int→Prop} {g:Int→Int→Int}
 (rule:∀ (i j:Int) (t u:Tok) (s:Shared) (Q:Value→Shared→Prop) (E:Value→Shared→Prop),C i j→Q (.int (g i j) s.toks) { s with toks:=s.toks + 1 }→wpAny (model X.prog X.w) X.A (f (.int i t) (.int j u)) Q E s) :
 OpR X f (rI C fun i j=>.int (g i j)):=by
 (try refine ⟨?_⟩); intro pins s σ H x y v u Q I rx ry h
 obtain ⟨i,j,rfl,rfl,hc,q⟩:=h
 obtain ⟨t,rfl⟩:=rx
 obtain ⟨t',rfl⟩:=ry
 exact rule i j t t' s _ _ hc ⟨.int (g i j),H,I.tok _,⟨_,rfl⟩,q⟩
theorem opI0 {f:Value→Value→Sem Value} {g:Int→Int→Int}
 (rule:∀ (i j:Int) (t u:Tok) (s:Shared) (Q:Value→Shared→Prop) (E:Value→Shared→Prop),Q (.int (g i j) s.toks) { s with toks:=s.toks + 1 }→wpAny (model X.prog X.w) X.A (f (.int i t) (.int j u)) Q E s) :
 OpR X f (rI0 fun i j=>.int (g i j)):=by
 (try refine ⟨?_⟩); intro pins s σ H x y v u Q I rx ry h
 obtain ⟨i,j,rfl,rfl,q⟩:=h
 obtain ⟨t,rfl⟩:=rx
 obtain ⟨t',rfl⟩:=ry
 exact rule i j t t' s _ _ ⟨.int (g i j),H,I.tok _,⟨_,rfl⟩,q⟩
theorem opB0 {f:Value→Value→Sem Value} {g:Int→Int→Bool}
 (rule:∀ (i j:Int) (t u:Tok) (s:Shared) (Q:Value→Shared→Prop) (E:Value→Shared→Prop),Q (.bool (g i j)) s→wpAny (model X.prog X.w) X.A (f (.int i t) (.int j u)) Q E s) :
 OpR X f (rI0 fun i j=>.bl (g i j)):=by
 (try refine ⟨?_⟩); intro pins s σ H x y v u Q I rx ry h
 obtain ⟨i,j,rfl,rfl,q⟩:=h
 obtain ⟨t,rfl⟩:=rx
 obtain ⟨t',rfl⟩:=ry
 exact rule i j t t' s _ _ ⟨.bl (g i j),H,I,rfl,q⟩
def CDiv (i j:Int):Prop:=0<j∧j<1073741824
def CPow (i j:Int):Prop:=0≤j∧j≤1000000∧i.natAbs<2 ^ 64
def CMul (i j:Int):Prop:=(-(2 ^ 64)<i∧i<2 ^ 64)∨(-(2 ^ 64)<j∧j<2 ^ 64)
theorem CMul.ok {i j:Int} (h:CMul i j):IntMulOk i j:=by
 rcases h with ⟨h1,h2⟩ | ⟨h1,h2⟩
 ·exact .of_left (intBits_le_64 h1 h2)
 ·exact .of_right (intBits_le_64 h1 h2)
theorem bB:OpR X (binaryOp .Add) (rI0 fun i j=>.int (i + j)):=opI0 fun _ _ _ _ _ _ _ q=>add_int q
theorem du:OpR X (binaryOp .Sub) (rI0 fun i j=>.int (i - j)):=opI0 fun _ _ _ _ _ _ _ q=>sub_int q
theorem fg:OpR X (binaryOp .Mult) (rI CMul fun i j=>.int (i * j)):=opI fun _ _ _ _ _ _ _ hc q=>mul_int q hc.ok
theorem pe:OpR X (binaryOp .FloorDiv) (rI CDiv fun i j=>.int (i / j)):=opI fun i j _ _ _ _ _ hc q=>by
 have h1:(0:Int)<j:=hc.1
 have h2:j<1073741824:=hc.2
 exact floordiv_int (by omega) (by rw [Int.fdiv_eq_ediv_of_nonneg i (by omega)]; exact q) (.inl (PyProof.noPylong_small (by omega)))
theorem dl:OpR X (binaryOp .Mod) (rI (fun _ j=>0<j) fun i j=>.int (i % j)):=opI fun i j _ _ _ _ _ hc q=>by
 have h1:(0:Int)<j:=hc
 exact mod_int' (by omega) (by rw [Int.fmod_eq_emod_of_nonneg i (by omega)]; exact q)
theorem cS:OpR X (binaryOp .Pow) (rI CPow fun i j=>.int (i ^ j.toNat)):=opI fun _ _ _ _ _ _ _ hc q=>pow_int_small hc.1 hc.2.1 hc.2.2 q
end
section
variable {X:Cx} {a b c:Expr} {ta tb tc:TE} {pos:Pos}
theorem gN:OpR X (compareOp .Lt) (rI0 fun i j=>.bl (decide (i<j))):=opB0 fun _ _ _ _ _ _ _ q=>lt_int q
theorem kU:OpR X (compareOp .LtE) (rI0 fun i j=>.bl (decide (i≤j))):=opB0 fun _ _ _ _ _ _ _ q=>le_int q
theorem mH:OpR X (compareOp .Gt) (rI0 fun i j=>.bl (decide (j<i))):=opB0 fun _ _ _ _ _ _ _ q=>gt_int q
theorem aJ (b:Expr) {op:CmpOp} (h:op≠.In:=by decide) (h2:op≠.NotIn:=by decide):behindInMarks op b=false:=by
 have e1:(op == CmpOp.In)=false:=by cases op <;> first | rfl | exact absurd rfl h
 have e2:(op == CmpOp.NotIn)=false:=by cases op <;> first | rfl | exact absurd rfl h2
 cases b <;> simp [behindInMarks,e1,e2]
theorem pT {op:CmpOp} {r:R2} (ho:OpR X (compareOp op) r) (ha:PE X a ta) (hb:PE X b tb) (hm:behindInMarks op b=false):PE X (.Compare a [op] [b] pos) (tOp r ta tb):=by
 (try refine ⟨?_⟩); intro pins s σ H Q I h
 exact wpAny_Compare1 (binT ha hb I h fun v u s2 x y H2 I2 rx ry q=>ho pins s2 σ H2 x y v u Q I2 rx ry q) hm
def qY (t:TE):TT:=fun σ H Q=>t σ H fun x H'=>∃ k,x = .bl k∧Q k H'
theorem pU {op:CmpOp} {r:R2} (ho:OpR X (compareOp op) r) (ha:PE X a ta) (hb:PE X b tb) (hm:behindInMarks op b=false):PT X (.Compare a [op] [b] pos) (qY (tOp r ta tb)):=by
 (try refine ⟨?_⟩); intro pins s σ H Q I h
 refine wpAny_isTrue_Compare1 (thn (ha pins s σ H _ I h) fun v s1 ⟨x,H1,I1,r1,q1⟩=>thn (hb pins s1 σ H1 _ I1 q1) fun u s2 ⟨y,H2,I2,r2,q2⟩ =>
  thn (ho pins s2 σ H2 x y v u _ I2 r1 r2 q2) fun c s3 ⟨z,H3,I3,r3,k,e,q3⟩=>?_) hm
 subst e
 cases r3
 exact wpAny_truthy_bool ⟨H3,I3,q3⟩
def oR (r r':R2) (ta tb tc:TE):TE:=fun σ H Q=>ta σ H fun x H1=>tb σ H1 fun y H2=>r x y H2 fun z H3=>∃ k,z = .bl k ∧
 (if k=true then tc σ H3 fun w' H4=>r' y w' H4 Q else Q (.bl false) H3)
theorem nu {op op':CmpOp} {r r':R2} (ho:OpR X (compareOp op) r) (ho':OpR X (compareOp op') r') (ha:PE X a ta) (hb:PE X b tb) (hc:PE X c tc)
 (hm:lastMarks [op,op'] [b,c]=false:=by with_unfolding_all rfl):PE X (.Compare a [op,op'] [b,c] pos) (oR r r' ta tb tc):=by
 (try refine ⟨?_⟩); intro pins s σ H Q I h
 refine Compare_chain (thn (ha pins s σ H _ I h) fun v s1 ⟨x,H1,I1,r1,q1⟩=>chain_link (thn (hb pins s1 σ H1 _ I1 q1) fun u s2 ⟨y,H2,I2,r2,q2⟩ =>
  thn (ho pins s2 σ H2 x y v u _ I2 r1 r2 q2) fun d s3 ⟨z,H3,I3,r3,k,e,q3⟩=>?_)) hm
 subst e
 cases r3
 refine wpAny_truthy_bool ?_
 cases k with
 | false=>exact ite_ff ⟨.bl false,H3,I3,rfl,q3⟩
 | true=>exact ite_tt (chain_last (thn (hc pins s3 σ H3 _ I3 q3) fun w' s4 ⟨z',H4,I4,r4,q4⟩=>ho' pins s4 σ H4 y z' u w' Q I4 r2 r4 q4))
def TruV (K:PySem.W.Frag) (x:V) (H:Hp) (k:Bool):Prop :=
 match x with
 | .non=>k=false
 | .bl b=>k=b
 | .int i=>k=(i != 0)
 | .str y=>y.length≤sizeLine∧k=((y.length:Int) != 0)
 | .byt y=>y.size≤sizeLine∧k=((y.size:Int) != 0)
 | .ref p=>(∃ xs,SqL K H p xs∧k = !xs.isEmpty)∨(∃ xs,SqT K H p xs∧k = !xs.isEmpty)∨∃ kvs,H p=some (.dK kvs)∧k = !kvs.isEmpty
 | _=>False
theorem jZ {κ:Type} {kvs:List (κ×V)} {vs:List (κ×Value)} (r:KV kvs vs):(!vs.isEmpty) = !kvs.isEmpty:=by
 cases r <;> rfl
theorem gl {xs:List V} {its:List Value} (r:aO xs its):(!its.toArray.isEmpty) = !xs.isEmpty:=by
 cases r <;> simp
theorem eY:(sizeLine:Nat)<2 ^ 63:=by rw [sizeLine_eq]; decide
theorem rC:TruR X (fun x H Q=>∃ k,TruV X.K x H k∧Q k H):=by
 (try refine ⟨?_⟩); intro pins s σ H x v Q I rx h
 obtain ⟨k,e,q⟩:=h
 have hl:=eY
 have hs:sizeLine=16777216:=sizeLine_eq
 cases x with
 | non =>
  cases rx
  have e':k=false:=e
  subst e'
  exact truthy_none ⟨H,I,q⟩
 | bl b =>
  cases rx
  have e':k=b:=e
  subst e'
  exact wpAny_truthy_bool ⟨H,I,q⟩
 | int i =>
  obtain ⟨t,rfl⟩:=rx
  have e':k=(i != 0):=e
  subst e'
  exact PySem.P.truthy_int ⟨H,I,q⟩
 | str y =>
  obtain ⟨t,rfl⟩:=rx
  obtain ⟨hy,e'⟩:y.length≤sizeLine∧k=((y.length:Int) != 0):=e
  subst e'
  exact PySem.P.truthy_str (by omega) ⟨H,I.tok _,q⟩
 | byt y =>
  obtain ⟨t,rfl⟩:=rx
  obtain ⟨hy,e'⟩:y.size≤sizeLine∧k=((y.size:Int) != 0):=e
  subst e'
  exact PySem.W.truthy_bytes (by omega) ⟨H,I.tok _,q⟩
 | ref p =>
  cases rx
  have e':(∃ xs,SqL X.K H p xs∧k = !xs.isEmpty)∨(∃ xs,SqT X.K H p xs∧k = !xs.isEmpty)∨∃ kvs,H p=some (.dK kvs)∧k = !kvs.isEmpty:=e
  rcases e' with ⟨xs,hx,e'⟩ | ⟨xs,hx,e'⟩ | ⟨kvs,hx,e'⟩
  ·subst e'
   obtain ⟨its,r,pl,hz⟩:=I.list hx
   have hlen:=r.length
   exact wpAny_truthy_list pl.isList (by simp only [List.size_toArray]; omega) ⟨H,I.tok _,by rw [gl r]; exact q⟩
  ·subst e'
   obtain ⟨its,r,pl,hz⟩:=I.tuple hx
   have hlen:=r.length
   exact truthy_tuple pl (by simp only [List.size_toArray]; omega) ⟨H,I.tok _,by rw [gl r]; exact q⟩
  ·subst e'
   obtain ⟨hz,hS,vs,r,m⟩:kvs.length≤sizeLine∧(p == sysModules)=false∧∃ vs,KV kvs vs∧s.heap.DictOf (iO X.prog X.w) p vs:=I.hok p _ hx
   have hlen:kvs.length=vs.length:=Paired.length r
   exact wpAny_truthy_dict hS m (by omega) ⟨H,I.tok _,by rw [jZ r]; exact q⟩
 | _=>exact (show False from e).elim
theorem lY (ha:PE X a ta) (he:∀ whole,isTrue a X.env whole=(do let v ← whole; standAt a.pos; holding [v] (truthy v))) :
 PT X a (fun σ H Q=>ta σ H fun x H'=>∃ k,TruV X.K x H' k∧Q k H'):=by
 (try refine ⟨?_⟩); intro pins s σ H Q I h
 exact isTrue_plain (thn (ha pins s σ H _ I h) fun v s1 ⟨x,H1,I1,r1,q1⟩=>rC pins s1 σ H1 x v Q I1 r1 q1) (he _)
theorem nv {x:V} {us:List Value} (r:aO [x] us):∃ u,us=[u]∧aX x u:=by
 cases r with
 | cons r1 r2=>cases r2; exact ⟨_,rfl,r1⟩
theorem gZ {x y:V} {us:List Value} (r:aO [x,y] us):∃ u w',us=[u,w']∧aX x u∧aX y w':=by
 cases r with
 | cons r1 r2 =>
  cases r2 with
  | cons r3 r4=>cases r4; exact ⟨_,_,rfl,r1,r3⟩
theorem e7 (hc:X.calm=true):dC X (.builtin "max") (fun xs H Q=>∃ i j,xs=[.int i,.int j]∧Q (.int (if j > i then j else i)) H):=by
 (try refine ⟨?_⟩); intro pins s σ H xs us Q I r h
 obtain ⟨i,j,rfl,q⟩:=h
 obtain ⟨u,w',rfl,⟨t,rfl⟩,⟨t',rfl⟩⟩:=gZ r
 refine max_two_ints (I.ok.hd hc) fun h' tk k=>⟨_,H,I.kept k,?_,q⟩
 by_cases hj:j > i
 ·rw [if_pos hj,if_pos hj]; exact ⟨_,rfl⟩
 ·rw [if_neg hj,if_neg hj]; exact ⟨_,rfl⟩
theorem d4 (hc:X.calm=true):dC X (.builtin "min") (fun xs H Q=>∃ i j,xs=[.int i,.int j]∧Q (.int (if j<i then j else i)) H):=by
 (try refine ⟨?_⟩); intro pins s σ H xs us Q I r h
 obtain ⟨i,j,rfl,q⟩:=h
 obtain ⟨u,w',rfl,⟨t,rfl⟩,⟨t',rfl⟩⟩:=gZ r
 refine min_two_ints (I.ok.hd hc) fun h' tk k=>⟨_,H,I.kept k,?_,q⟩
 by_cases hj:j<i
 ·rw [if_pos hj,if_pos hj]; exact ⟨_,rfl⟩
 ·rw [if_neg hj,if_neg hj]; exact ⟨_,rfl⟩
end
structure ObjM (h:Heap) (x dx C:Addr) (mA:Str→Option Value):Prop where
 obj:h.get? x=some (PySem.W.instObj C dx)
 ns:h.Ns1 dx mA
 ne:dx≠x
theorem lC {h:Heap} {dx:Addr} {mA:Str→Option Value} (n:h.Ns1 dx mA):∃ od,h.get? dx=some od∧∀ name,PySem.W.lookIn name od=some (mA name):=by
 obtain ⟨o,es,ep,ho,hd,hk,_,hm⟩:=n
 refine ⟨o,ho,fun name=>?_⟩
 have e:=hm name
 unfold nsFind findBy at e
 rw [← Array.find?_toList] at e
 unfold PySem.W.lookIn
 rw [hd]
 dsimp only
 split
 ·rename_i y q
  rw [q] at e
  exact congrArg some e
 ·rename_i q
  rw [q] at e
  have a:es.toList.any (·.refKey)=false:=by
   rw [List.any_eq_false]
   intro y hy
   obtain ⟨z,t,hkey⟩:=hk y (Array.mem_toList_iff.mp hy)
   simp [DictEntry.refKey,hkey]
  have a' : ¬ es.toList.any (·.refKey)=true:=by rw [a]; exact Bool.false_ne_true
  rw [if_neg a']
  exact congrArg some e
theorem ObjM.look {h:Heap} {x dx C:Addr} {mA:Str→Option Value} (I:ObjM h x dx C mA):∃ od,PySem.W.InstAt h x (PySem.W.instObj C dx) C (some od)∧∀ name,PySem.W.lookIn name od=some (mA name) :=
 let ⟨od,ho,hl⟩:=lC I.ns
 ⟨od,⟨I.obj,rfl,rfl,ho⟩,hl⟩
section
variable {prog:Program} {w:World} {A:Around} {E:Value→Shared→Prop} {s:Shared} {K:PySem.W.Frag} {x dx C f:Addr} {mA:Str→Option Value} {name:Str} {v:Value}
end
section
variable {P:Program} {w:World} {H H':Hp} {h h':Heap} {a C dx:Addr} {fs fs':List (Str×V)}
theorem pf (hok:HOk P w H h) (e:H a=some (.ins C dx fs)):∃ mA,ObjM h a dx C mA∧(∀ f,RelO (fs.lookup f) (mA f))∧PySem.Within mA (fs.map (·.1))∧fs.length≤1000∧H dx=some (.own a):=by
 obtain ⟨d,z,ne,ob,mA,n,r,q⟩:=(show aT P w H h a (.ins C dx fs) from hok a _ e)
 exact ⟨mA,⟨ob,n,ne⟩,r,q,z,d⟩
end
structure Cls (K:PySem.W.Frag) (C:Addr):Prop where
 pg:PySem.W.plainGet K C Str.empty=true
 hd:PySem.W.hasDictIn K C=true
 po:PySem.W.plainOver K C=true
 sa:PySem.W.findIn K (.ref C) "__setattr__" = some (some (.builtin "object.__setattr__"))
theorem Cls.get {K:PySem.W.Frag} {C:Addr} (c:Cls K C) (f:Str):PySem.W.plainGet K C f=true:=c.pg
section
variable {X:Cx} {pins:List (Addr×Obj)} {σ:St} {H:Hp} {s:Shared} {a C dx:Addr} {fs:List (Str×V)} {f:Str} {v:V} {A:Around} {E:Value→Shared→Prop}
end
section
variable {X:Cx} {o e value:Expr} {f:Str} {pos pos' tpos:Pos} {ta tv:TE}
end
section
variable {X:Cx} {pins:List (Addr×Obj)} {σ:St} {H:Hp} {s:Shared} {A:Around} {E:Value→Shared→Prop} {Q:Value→Shared→Prop} {c:Value} {b:Bool}
inductive TyOf (K:PySem.W.Frag) (H:Hp):V→Value→Prop where
 | non:TyOf K H .non (.type "NoneType")
 | bl (x:Bool):TyOf K H (.bl x) (.type "bool")
 | int (i:Int):TyOf K H (.int i) (.type "int")
 | str (x:Str):TyOf K H (.str x) (.type "str")
 | flt (x:UInt64):TyOf K H (.flt x) (.type "float")
 | lst {a:Addr} {xs:List V} (e:H a=some (.lst xs)):TyOf K H (.ref a) (.type "list")
 | frz {a:Addr} {o:Obj} {xs:List V} (e:H a=some (.frz o (.lst xs))):TyOf K H (.ref a) (.type "list")
 | tup {a:Addr} {xs:List V} (e:H a=some (.tup xs)):TyOf K H (.ref a) (.type "tuple")
 | dK {a:Addr} {kvs:List (Key×V)} (e:H a=some (.dK kvs)):TyOf K H (.ref a) (.type "dict")
 | dT {a:Addr} {kvs:List (List Key×V)} (e:H a=some (.dT kvs)):TyOf K H (.ref a) (.type "dict")
 | ins {a C dx:Addr} {fs:List (Str×V)} (e:H a=some (.ins C dx fs)) (cl:Cls K C) (ha:PySem.W.findIn K (.ref C) "__class__" = some (some (.builtin "object.__class__")))
  (hn:PySem.W.specialIn K (.builtin "object.__class__") "__get__" = some (some (.builtin "getset_descriptor.__get__"))) (htk:PySem.W.takesIn K (.builtin "object.__class__")=some true)
  (hm:PySem.W.mroIn K C (.type "object")=some true):TyOf K H (.ref a) (.ref C)
theorem gS {x:V} {u t:Value} (I:Inv X pins σ H s) (rx:aX x u) (ty:TyOf X.K H x t) (e:PySem.W.kitOne X.K t c=some b) (h:∀ tk,Q (.bool b) { s with toks:=tk }) :
 wpAny (model X.prog X.w) A (call (.builtin "isinstance") [u,c]) Q E s:=by
 cases ty with
 | non=>cases (show u=Value.none from rx); exact PySem.W.kia_one PySem.W.kitx_none I.kIn True.intro e (fun z=>nomatch z) h
 | bl y=>cases (show u=Value.bool y from rx); exact PySem.W.kia_one PySem.W.kitx_bool I.kIn True.intro e (fun z=>nomatch z) h
 | int i=>obtain ⟨t,q⟩:=(show ∃ t,u=Value.int i t from rx); cases q; exact PySem.W.kia_one PySem.W.kitx_int I.kIn True.intro e (fun z=>nomatch z) h
 | str y=>obtain ⟨t,q⟩:=(show ∃ t,u=Value.str y t from rx); cases q; exact PySem.W.kia_one PySem.W.kitx_str I.kIn True.intro e (fun z=>nomatch z) h
 | flt y=>obtain ⟨t,q⟩:=(show ∃ t,u=Value.float y t from rx); cases q; exact PySem.W.kia_one PySem.W.kitx_float I.kIn True.intro e (fun z=>nomatch z) h
 | @lst a xs ea =>
  cases (show u=Value.ref a from rx)
  obtain ⟨_,_,n,_,h1⟩:=(show aT X.prog X.w H s.heap a (.lst xs) from I.hok a _ ea)
  exact PySem.W.kia_one PySem.W.kitx_list I.kIn ⟨_,h1,rfl⟩ e (fun z=>nomatch z) h
 | @frz a ob xs ea =>
  cases (show u=Value.ref a from rx)
  obtain ⟨_,_,_,n,_,h1⟩:=(show aT X.prog X.w H s.heap a (.frz ob (.lst xs)) from I.hok a _ ea)
  exact PySem.W.kia_one PySem.W.kitx_list I.kIn ⟨_,h1,rfl⟩ e (fun z=>nomatch z) h
 | @tup a xs ea =>
  cases (show u=Value.ref a from rx)
  obtain ⟨_,_,_,p⟩:=(show aT X.prog X.w H s.heap a (.tup xs) from I.hok a _ ea)
  obtain ⟨o,h1,h2,_⟩:=p
  exact PySem.W.kia_one PySem.W.kitx_tuple I.kIn ⟨o,h1,h2⟩ e (fun z=>nomatch z) h
 | @dK a kvs ea =>
  cases (show u=Value.ref a from rx)
  obtain ⟨_,_,vs,_,p⟩:=(show aT X.prog X.w H s.heap a (.dK kvs) from I.hok a _ ea)
  obtain ⟨o,es,ep,h1,h2,_⟩:=p
  exact PySem.W.kia_one PySem.W.kitx_dict I.kIn ⟨o,h1,h2.1⟩ e (fun z=>nomatch z) h
 | @dT a kvs ea =>
  cases (show u=Value.ref a from rx)
  obtain ⟨_,_,xs,_,o,es,ep,h1,h2,_⟩:=(show aT X.prog X.w H s.heap a (.dT kvs) from I.hok a _ ea)
  exact PySem.W.kia_one PySem.W.kitx_dict I.kIn ⟨o,h1,h2.1⟩ e (fun z=>nomatch z) h
 | @ins a C dx fs ea cl ha hn htk hm =>
  cases (show u=Value.ref a from rx)
  obtain ⟨mA,O,_⟩:=pf I.hok ea
  obtain ⟨od,J,_⟩:=O.look
  exact PySem.W.kia_one (PySem.W.kitx_own (cl.get _) cl.hd ha hn htk hm) I.kIn J e (fun z=>nomatch z) h
end
structure Room (k:Nat) (A:Around):Prop where
 hd:A.handled=none
 dp:A.depth + 3 * k + 5<recursionLimit
 un:A.units + 16 * k + 200<cLine
 gd:A.guards=some []
theorem Room.mono {j k:Nat} {A:Around} (r:Room k A) (h:j≤k):Room j A:=⟨r.hd,by have:=r.dp; omega,by have:=r.un; omega,r.gd⟩
theorem Room.deeper {k:Nat} {A:Around} (r:Room (k + 1) A) (env:Env):Room k (A.deeper env) :=
 ⟨r.hd,by have:=r.dp; show A.depth + 1 + 3 * k + 5<_; omega,by have:=r.un; show A.units + 3 + 16 * k + 200<_; omega,r.gd⟩
theorem jJ {A:Around} {C:Addr} {us:List Value} {kw:List (Str×Value)}:(A.under (.builtin "type.__call__" ⟨.ref C :: us,kw⟩)).depth=A.depth + 1:=by
 first | rfl | simp [Around.under,Code.weight,Code.isCreation,Code.isGuard,Code.isCaller,Code.frames,Code.isFrame,guardIds]
theorem jN {A:Around} {C:Addr} {us:List Value} {kw:List (Str×Value)}:(A.under (.builtin "type.__call__" ⟨.ref C :: us,kw⟩)).units=A.units + 1:=by
 first | rfl | simp [Around.under,Code.cUnits,Code.frames,Code.isFrame]
theorem Room.make {k:Nat} {A:Around} (r:Room (k + 1) A) (C:Addr) (us:List Value) (kw:List (Str×Value)):Room k (A.under (.builtin "type.__call__" ⟨.ref C :: us,kw⟩)) :=
 ⟨r.hd,by have:=r.dp; rw [jJ]; omega,by have:=r.un; rw [jN]; omega,r.gd⟩
theorem Room.depth {k:Nat} {A:Around} (r:Room k A):A.depth<recursionLimit:=by have:=r.dp; omega
theorem Room.units {k:Nat} {A:Around} (r:Room k A):A.units + 64<cLine:=by have:=r.un; omega
def tNil:TA:=fun _ H Q=>Q [] H
def tCons (ta:TE) (tr:TA):TA:=fun σ H Q=>ta σ H fun x H1=>tr σ H1 fun xs H2=>Q (x :: xs) H2
section
variable {X:Cx} {e:Expr} {es:List Expr} {te:TE} {t:TA} {pos:Pos}
theorem bw:PA X [] tNil:=⟨fun _ _ _ _ H Q I h=>Calls.spliced_nil ⟨[],H,I,.nil,h⟩⟩
theorem aL (ha:PE X e te) (hr:PA X es t) (hs:starEach (e :: es) X.env=(false,eval e X.env) :: starEach es X.env:=by rfl):PA X (e :: es) (tCons te t):=by
 (try refine ⟨?_⟩); intro pos pins s σ H Q I h
 rw [hs]
 show wpAny _ _ (spliced ((false,eval e X.env) :: backTo pos (starEach es X.env))) _ _ s
 refine Calls.spliced_cons (thn (ha pins s σ H _ I h) fun u s1 ⟨x,H1,I1,r1,q1⟩=>?_)
 exact thn (hr pos pins s1 σ H1 _ I1 q1) fun us s2 ⟨xs,H2,I2,r2,q2⟩=>⟨x :: xs,H2,I2,.cons r1 r2,q2⟩
def tTup (t:TA):TE:=fun σ H Q=>t σ H fun xs H1=>xs.length≤sizeLine∧∀ p,H1 p=none→Q (.ref p) (upd H1 p (.tup xs))
def tLst (t:TA):TE:=fun σ H Q=>t σ H fun xs H1=>xs.length≤sizeLine∧∀ p,H1 p=none→Q (.ref p) (upd H1 p (.lst xs))
theorem j5 {x1} (h:PA X es t):PE X (.Tuple es x1 pos) (tTup t):=by
 (try refine ⟨?_⟩); intro pins s σ H Q I hq
 refine wpAny_Tuple_spliced (thn (h pos pins s σ H _ I hq) fun us s1 ⟨xs,H1,I1,r,z,q⟩=>⟨by rw [← r.length]; exact z,?_⟩)
 have hf:H1 s1.heap.objs.size=none:=I1.hok.fresh (Nat.le_refl _)
 refine ⟨.ref s1.heap.objs.size,upd H1 s1.heap.objs.size (.tup xs),I1.laid (t':=s1.toks) (fun b u e=>Heap.get?_push_of_some _ e) (Nat.le_refl _) ?_,rfl,q _ hf⟩
 exact ⟨z,us,r,⟨_,Heap.get?_push_size _ rfl,rfl,_,rfl⟩⟩
theorem n9 (h:PA X es t):PE X (.List es pos) (tLst t):=by
 (try refine ⟨?_⟩); intro pins s σ H Q I hq
 refine wpAny_List_spliced (thn (h pos pins s σ H _ I hq) fun us s1 ⟨xs,H1,I1,r,z,q⟩=>⟨by rw [← r.length]; exact z,?_⟩)
 have hf:H1 s1.heap.objs.size=none:=I1.hok.fresh (Nat.le_refl _)
 refine ⟨.ref s1.heap.objs.size,upd H1 s1.heap.objs.size (.lst xs),I1.laid (t':=s1.toks) (fun b u e=>Heap.get?_push_of_some _ e) (Nat.le_refl _) ?_,rfl,q _ hf⟩
 exact ⟨z,us,0,r,Heap.get?_push_size _ rfl⟩
end
abbrev Sp:=List V→Hp→VK→XK→Prop
abbrev CXT:=List Env→Hp→Shared→XK→Value→Shared→Prop
structure Env0 (P:Program) (w:World) (K:PySem.W.Frag) (mg:Str→Option Value) (base:Heap) (A:Around) (outer:List Env) (s:Shared) (H:Hp):Prop where
 frames:A.frames=some outer
 mod:Mod K mg base
 bs:∀ b o,base.get? b=some o→s.heap.get? b=some o∧H b=none
 bsz:base.objs.size≤s.heap.objs.size
 funs:s.heap.FunFrames base outer
 frf:∀ b∈frs outer,H b=none
 hok:HOk P w H s.heap
 bare:AllBare s.gens
 tb:TbM base H
def CE (outer:List Env) (P:Program) (w:World) (H:Hp) (s:Shared) (Q:VK) (u:Value) (s':Shared):Prop :=
 ∃ v H',s'.os=s.os∧AllBare s'.gens∧Un (frs outer) [] H H' s.heap s'.heap∧HOk P w H' s'.heap∧aX v u∧Q v H'
def CR (CX:CXT) (outer:List Env) (P:Program) (w:World) (H:Hp) (s:Shared) (Q:VK) (E:XK) (r:Result) (s':Shared):Prop :=
 match r with
 | .ok (.ret u)=>CE outer P w H s Q u s'
 | .ok _=>False
 | .error e=>CX outer H s E e s'
structure FnOk (P:Program) (w:World) (K:PySem.W.Frag) (mg:Str→Option Value) (base:Heap) (CX:CXT) (k:Nat) (f:Addr) (fd:FuncData) (ps:List Str) (sp:Sp):Prop where
 len:∀ vs H Q E,sp vs H Q E→vs.length=ps.length
 run:∀ (A:Around) (outer:List Env) (s:Shared) (H:Hp) (args:Args) (us:List Value) (vs:List V) (Q:VK) (E:XK),Room k A→Env0 P w K mg base A outer s H→BindsTo s fd args (ps.zip us)→aO vs us→sp vs H Q E →
  codeAny (model P w) A (.call (.ref f) args) (CR CX outer P w H s Q E) s
theorem FnOk.imp {P:Program} {w:World} {K:PySem.W.Frag} {mg:Str→Option Value} {base:Heap} {CX:CXT} {k:Nat} {f:Addr} {fd:FuncData} {ps:List Str} {sp sp':Sp} (F:FnOk P w K mg base CX k f fd ps sp)
 (h:∀ vs H Q E,sp' vs H Q E→sp vs H Q E):FnOk P w K mg base CX k f fd ps sp' :=
 ⟨fun vs H Q E q=>F.len vs H Q E (h _ _ _ _ q),fun A outer s H args us vs Q E hr he hb hv hs=>F.run A outer s H args us vs Q E hr he hb hv (h _ _ _ _ hs)⟩
theorem Env0.make {P:Program} {w:World} {K:PySem.W.Frag} {mg:Str→Option Value} {base:Heap} {A:Around} {outer:List Env} {s:Shared} {H:Hp} (e:Env0 P w K mg base A outer s H) (C:Addr) (us:List Value) (kw:List (Str×Value)) :
 Env0 P w K mg base (A.under (.builtin "type.__call__" ⟨.ref C :: us,kw⟩)) outer s H:=⟨by first | exact e.frames | (simpa [Around.under,Code.envs,Code.isFrame,pushEnvs] using e.frames),e.mod,e.bs,e.bsz,e.funs,e.frf,e.hok,e.bare,e.tb⟩
section
variable {X:Cx} {pins:List (Addr×Obj)} {σ:St} {H:Hp} {s s':Shared}
theorem Inv.env0 (I:Inv X pins σ H s):Env0 X.prog X.w X.K X.mg X.base X.A X.stack s H :=
 ⟨I.ok.frames,I.ok.mod,I.bs,Nat.le_trans I.ok.bsz I.sz,I.stack,I.stkFree,I.hok,I.bare,I.ok.tb.un I.base⟩
theorem Inv.after {Q:VK} {u:Value} (I:Inv X pins σ H s) (h:CE X.stack X.prog X.w H s Q u s'):EP X pins σ Q u s':=by
 obtain ⟨v,H',os,bare,un,hok,r,q⟩:=h
 obtain ⟨hh,g,d,t,os'⟩:=s'
 obtain rfl:os'=s.os:=os
 exact ⟨v,H',I.call (h':=hh) (g':=g) (d':=d) (t':=t) (ch:=[]) un hok bare (fun b z=>absurd z (by simp)),r,q⟩
end
def tCall (sp:Sp) (dvs:List V) (E:XK) (t:TA):TE:=fun σ H Q=>t σ H fun vs H1=>sp (vs++dvs) H1 Q E
def bS (K:PySem.W.Frag) (fd:FuncData) (ps:List Str) (ds:List Value):Prop :=
 ∀ (s:Shared) (us:List Value),K.In s.heap→(us++ds).length=ps.length→BindsTo s fd ⟨us,[]⟩ (ps.zip (us++ds))
theorem bS.all {K:PySem.W.Frag} {fd:FuncData} {ps:List Str} (h:∀ us:List Value,us.length=ps.length→bindArgs fd ⟨us,[]⟩=pure (ps.zip us)):bS K fd ps []:=fun s us _ hl=>by
 rw [List.append_nil] at hl ⊢
 exact .of_eq (h us hl)
def jD (CX:CXT) (X:Cx) (E:XK):Prop:=∀ (pins:List (Addr×Obj)) (σ:St) (H:Hp) (s:Shared) (e:Value) (s':Shared),Inv X pins σ H s→CX X.stack H s E e s'→X.xe e s'
section
variable {X:Cx} {CX:CXT} {k:Nat} {f C:Addr} {fd:FuncData} {ps:List Str} {sp:Sp} {dvs:List V} {ds:List Value} {E:XK} {x m:Str} {p pos apos:Pos} {e o:Expr} {es:List Expr} {ta:TE} {t:TA}
theorem sh {pins:List (Addr×Obj)} {σ:St} {H:Hp} {s:Shared} {Q:VK} {us:List Value} {vs:List V} (F:FnOk X.prog X.w X.K X.mg X.base CX k f fd ps sp) (hr:Room k X.A) (hb:bS X.K fd ps ds) (hd:aO dvs ds) (hx:jD CX X E)
 (I:Inv X pins σ H s) (r:aO vs us) (h:sp (vs++dvs) H Q E):wpAny (model X.prog X.w) X.A (call (.ref f) us) (EP X pins σ Q) X.xe s:=by
 have r2:aO (vs++dvs) (us++ds):=r.append hd
 have hl:(us++ds).length=ps.length:=by rw [← r2.length]; exact F.len _ _ _ _ h
 refine wpAny_call (codeAny_mono (F.run X.A X.stack s H ⟨us,[]⟩ (us++ds) (vs++dvs) Q E hr I.env0 (hb s us I.kIn hl) r2 h) fun r s' hq=>?_)
 cases r with
 | error e=>exact hx pins σ H s e s' I hq
 | ok fl =>
  cases fl with
  | ret u=>exact I.after hq
  | next=>exact False.elim hq
  | brk=>exact False.elim hq
  | cont=>exact False.elim hq
theorem kJ (F:FnOk X.prog X.w X.K X.mg X.base CX k f fd ps sp) (hr:Room k X.A) (hg:Gl X x) (hm:X.mg x=some (.ref f)) (hk:PySem.W.keepIn X.K (.ref f)=true) (hb:bS X.K fd ps ds) (hd:aO dvs ds) (hx:jD CX X E)
 (ha:PA X (e :: es) t) (hdb:(x == ("__debug__":Str))=false:=by decide) (he:starEach (e :: es) X.env=(false,eval e X.env) :: starEach es X.env:=by rfl) (hpl:(backTo pos (starEach es X.env)).any (·.1)=false:=by rfl) :
 PE X (.Call (.Name x p) (e :: es) [] pos) (tCall sp dvs E t):=by
 (try refine ⟨?_⟩); intro pins s σ H Q I h
 refine wpAny_Call_Name_kw (b3 I hg hm ?_ hdb)
 refine PySem.W.callWith_K (h₀:=X.base) I.ok.mod.kin hk (thn (ha pos pins s σ H _ I h) fun us s1 ⟨vs,H1,I1,r,q⟩=>⟨I1.kIn,?_⟩) he hpl
 exact sh F hr hb hd hx I1 r q
structure Mk (K:PySem.W.Frag) (C f:Addr):Prop where
 makes:PySem.W.makesIn K C=true
 init:PySem.W.findIn K (.ref C) "__init__" = some (some (.ref f))
 fn:PySem.W.isFn K (.ref f)=true
 kp:PySem.W.keepIn K (.ref C)=true
end
section
variable {X:Cx} {CX:CXT} {k:Nat} {f C:Addr} {fd:FuncData} {ps ks:List Str} {sp:Sp} {E:XK} {x m:Str} {p pos apos kpos:Pos} {e o:Expr} {es:List Expr} {kws:List Keyword} {te ta:TE} {t tk:TA} {nm:Option Str}
variable {g:List Value→List Value→List Value} {gV:List V→List V→List V}
end
structure FnScope (N P:List Str) (sc:Scope):Prop where
 kind:sc.kind = .function
 co:sc.isCoroutine=false
 gen:sc.isGenerator=false
 nd:N.Nodup
 pre:N.take P.length=P
 par:∀ x∈P,sc.names.lookup x=some .local∨sc.names.lookup x=some .cell
 nofree:∀ y∈sc.names,y.2≠.free
theorem gQ {kindOf:Str→Option NameKind} {x:Str}:∀ {binds:List (Str×Value)} {m:Str→Option Value},(∀ v,(x,v) ∉ binds)→bindL kindOf binds m x=m x
 | [],_,_=>rfl
 | (n,v) :: r,m,h=>by
  unfold bindL
  rw [gQ fun w hw=>h w (List.mem_cons_of_mem _ hw)]
  split
  ·have:x≠n:=by rintro rfl; exact h v List.mem_cons_self
   simp [this]
  ·rfl
theorem hX {kindOf:Str→Option NameKind} {x:Str}:∀ {binds:List (Str×Value)} {m:Str→Option Value},(∀ v,(x,v) ∉ binds)→bindC kindOf binds m x=m x
 | [],_,_=>rfl
 | (n,v) :: r,m,h=>by
  unfold bindC
  rw [hX fun w hw=>h w (List.mem_cons_of_mem _ hw)]
  split
  ·rfl
  ·have:x≠n:=by rintro rfl; exact h v List.mem_cons_self
   simp [this]
theorem gF {kindOf:Str→Option NameKind} {x:Str} {v:Value}:∀ {P:List Str} {vs:List Value} {i:Nat} {m:Str→Option Value},P.Nodup→P[i]? = some x→vs[i]? = some v→kindOf x=some .local →
 bindL kindOf (P.zip vs) m x=some v
 | [],_,_,_,_,h,_,_=>by simp at h
 | _ :: _,[],_,_,_,_,h,_=>by simp at h
 | p :: P,w :: vs,0,m,nd,h1,h2,hk=>by
  simp at h1 h2; subst h1; subst h2
  show bindL kindOf ((p,w) :: P.zip vs) m p=_
  unfold bindL
  rw [gQ fun v hv=>(List.nodup_cons.mp nd).1 (List.of_mem_zip hv).1,if_pos hk]
  simp
 | p :: P,w :: vs,i + 1,m,nd,h1,h2,hk=>by
  show bindL kindOf ((p,w) :: P.zip vs) m x=_
  unfold bindL
  exact gF (i:=i) (List.nodup_cons.mp nd).2 (by simpa using h1) (by simpa using h2) hk
theorem gX {kindOf:Str→Option NameKind} {x:Str} {v:Value}:∀ {P:List Str} {vs:List Value} {i:Nat} {m:Str→Option Value},P.Nodup→P[i]? = some x→vs[i]? = some v→kindOf x≠some .local →
 bindC kindOf (P.zip vs) m x=some v
 | [],_,_,_,_,h,_,_=>by simp at h
 | _ :: _,[],_,_,_,_,h,_=>by simp at h
 | p :: P,w :: vs,0,m,nd,h1,h2,hk=>by
  simp at h1 h2; subst h1; subst h2
  show bindC kindOf ((p,w) :: P.zip vs) m p=_
  unfold bindC
  rw [hX fun v hv=>(List.nodup_cons.mp nd).1 (List.of_mem_zip hv).1,if_neg hk]
  simp
 | p :: P,w :: vs,i + 1,m,nd,h1,h2,hk=>by
  show bindC kindOf ((p,w) :: P.zip vs) m x=_
  unfold bindC
  exact gX (i:=i) (List.nodup_cons.mp nd).2 (by simpa using h1) (by simpa using h2) hk
def cw (N:List Str) (vs:List V):St:=vs.map some++List.replicate (N.length - vs.length) none
def gt (CX:CXT) (P:Program) (w:World) (K:PySem.W.Frag) (mg:Str→Option Value) (base:Heap) (N:List Str) (qual:Str) (scope:Scope) (f:Addr) (cd:Value) (A:Around) (outer:List Env) (s:Shared) (H:Hp) (E:XK):Cx where
 prog:=P
 w:=w
 K:=K
 mg:=mg
 base:=base
 A:=A.deeper (envOfC qual scope s.heap.objs.size f cd)
 N:=N
 s₀:=s
 H₀:=H
 env:=envOfC qual scope s.heap.objs.size f cd
 outer:=outer
 stack:=envOfC qual scope s.heap.objs.size f cd :: outer
 ex:=[]
 calm:=true
 fn:=fun _=>true
 pn:=[]
 xe:=fun e s'=>wpAny (model P w) (A.deeper (envOfC qual scope s.heap.objs.size f cd)) (leaving (envOfC qual scope s.heap.objs.size f cd) e) (fun _ s''=>CX outer H s E e s'') (fun e' s''=>CX outer H s E e' s'') s'
theorem i9 {sc:Scope} {n:Nat} {x:Str} (h:sc.names.lookup x=some .cell):∃ c,(cellsFrom n sc.names []).lookup x=some c:=by
 have q:=PySem.W.cellsFrom_some sc.names n [] (.inl h)
 exact Option.isSome_iff_exists.mp q
theorem lg {CX:CXT} {P:Program} {w:World} {K:PySem.W.Frag} {mg:Str→Option Value} {base:Heap} {N ps:List Str} {qual:Str} {scope:Scope} {f:Addr} {cd:Value} {A:Around} {outer:List Env} {s s1:Shared} {H:Hp} {E:XK} {us:List Value} {vs:List V}
 (S:FnScope N ps scope) (hd:A.handled=none) (e0:Env0 P w K mg base A outer s H) (hl:vs.length=ps.length) (r:aO vs us)
 (x:InCallC s s.heap.objs.size (bindL (envOfC qual scope s.heap.objs.size f cd).kindOf (ps.zip us) fun _=>none) (cellsFrom (s.heap.objs.size + 1) scope.names []) (bindC (envOfC qual scope s.heap.objs.size f cd).kindOf (ps.zip us) fun _=>none) s1) :
 Inv (gt CX P w K mg base N qual scope f cd A outer s H E) [] (cw N vs) H s1:=by
 have hpl:ps.length≤N.length:=by have:=congrArg List.length S.pre; rw [List.length_take] at this; omega
 obtain ⟨h1,tk,rfl,hk⟩:=x.done
 have noA:∀ b:Addr,b ∉ (gt CX P w K mg base N qual scope f cd A outer s H E).ex:=fun b z=>absurd (show b∈([]:List Addr) from z) (by simp)
 refine ⟨⟨e0.mod,S.kind,rfl,rfl,Nat.le_refl _,fun y z c h1 h2=>?_,fun y hy=>?_,fun y c _ h=>?_,fun _=>hd,Around.frames_deeper e0.frames,.inr ⟨rfl,rfl⟩,fun b z=>absurd z (noA b),e0.bs,e0.bsz,fun b _ _=>noA b,fun b z=>absurd z (noA b),e0.funs,e0.frf,e0.tb⟩,
  rfl,e0.bare,Un.kept hk,⟨_,x.toInCall.ns,fun i y v h1 h2 h3=>?_⟩,fun y c h=>⟨_,x.cell y c h⟩,e0.hok.fresh (Nat.le_refl _),fun y c h=>?_,fun p hp=>absurd (show p∈([]:List (Addr×Obj)) from hp) (by simp),e0.hok.kept hk,?_⟩
 ·exact name_of_addr x.apart (PySem.mem_of_lookup h1) (PySem.mem_of_lookup h2)
 ·have hy:scope.names.lookup y=some .cell∨scope.names.lookup y=some .free:=hy
  rcases hy with hy | hy
  ·exact i9 hy
  ·exact absurd rfl (S.nofree _ (PySem.mem_of_lookup hy))
 ·exact Nat.le_of_lt (x.above y c (PySem.mem_of_lookup h))
 ·have hi:i<vs.length:=by
   unfold cw at h2
   by_cases hi:i<vs.length
   ·exact hi
   ·rw [List.getElem?_append_right (by simpa using hi)] at h2
    rw [List.getElem?_replicate] at h2
    split at h2 <;> cases h2
  have ha:vs[i]? = some v:=by
   unfold cw at h2
   rw [List.getElem?_append_left (by simpa using hi),List.getElem?_map] at h2
   cases e:vs[i]? with
   | none=>rw [e] at h2; cases h2
   | some a=>rw [e] at h2; cases h2; rfl
  obtain ⟨u,hu,rv⟩:=r.get ha
  have hp:ps[i]? = some y:=by
   rw [← S.pre,List.getElem?_take_of_lt (by omega)]; exact h1
  have ndP:ps.Nodup:=by rw [← S.pre]; exact S.nd.sublist (List.take_sublist _ _)
  refine ⟨u,rv,?_⟩
  rcases S.par y (List.mem_of_getElem? hp) with k | k
  ·exact .inl ⟨k,gF ndP hp hu k⟩
  ·obtain ⟨c,e⟩:=i9 (n:=s.heap.objs.size + 1) k
   refine .inr ⟨.inl k,c,e,?_⟩
   have q:=x.cell y c e
   rw [gX ndP hp hu (by show scope.names.lookup y≠_; rw [k]; decide)] at q
   exact q
 ·exact e0.hok.fresh (Nat.le_of_lt (x.above y c (PySem.mem_of_lookup h)))
 ·unfold cw
  show _=N.length
  rw [List.length_append,List.length_map,List.length_replicate]
  omega
theorem qL {CX:CXT} {P:Program} {w:World} {K:PySem.W.Frag} {mg:Str→Option Value} {base:Heap} {k:Nat} {f:Addr} {name qual:Str} {params:Arguments} {body:List Stmt} {scope:Scope} {dV kV doc pm cdv ct oc:Value} {an od:Option Addr}
 {osl:Array (Option Value)} {N ps:List Str} {sp:Sp} (lk:K.lookup f=some ⟨oc,od,.func (PySem.W.fnOf name qual params body scope dV kV doc pm an cdv ct),osl⟩) (hcd:PySem.W.codeIn K cdv qual=true) (S:FnScope N ps scope)
 (len:∀ vs H Q E,sp vs H Q E→vs.length=ps.length)
 (hbody:∀ (A:Around) (outer:List Env) (s:Shared) (H:Hp) (vs:List V) (Q:VK) (E:XK),Room k (A.deeper (envOfC qual scope s.heap.objs.size f cdv))→sp vs H Q E →
  ∃ t,PSs (gt CX P w K mg base N qual scope f cdv A outer s H E) body t∧t { nx:=fun _ H'=>Q .non H',rt:=Q } (cw N vs) H) :
 FnOk P w K mg base CX (k + 1) f (PySem.W.fnOf name qual params body scope dV kV doc pm an cdv ct) ps sp:=by
 refine ⟨len,fun A outer s H args us vs Q E hr e0 hb r hsp=>?_⟩
 have hl:=len _ _ _ _ hsp
 have KX:K.In s.heap:=e0.mod.kin.keeps fun b o e=>(e0.bs b o e).1
 have lim:s.heap.NoLimit:=e0.mod.nolimit.keeps fun b o e=>(e0.bs b o e).1
 have hkind:∀ y∈ps.zip us,scope.names.lookup y.1=some .local∨(scope.names.lookup y.1=some .cell∧((cellsFrom (s.heap.objs.size + 1) scope.names []).lookup y.1).isSome=true):=fun ⟨n,v⟩ hy=>by
  rcases S.par n (List.of_mem_zip hy).1 with q | q
  ·exact .inl q
  ·exact .inr ⟨q,PySem.W.cellsFrom_some _ _ _ (.inl q)⟩
 refine codeAny_call_function hr.depth (KX _ _ lk) rfl S.co S.gen rfl (PySem.W.codeRec_of KX hcd) (hb _ _ _ _ ?_)
 refine wpAny_newFunctionEnv_cells S.kind hkind fun env he s1 x=>?_
 subst he
 refine ⟨lim.keeps x.toInCall.keep,codeAny_func ?_⟩
 obtain ⟨t,ht,hq⟩:=hbody A outer s H vs Q E (hr.deeper _) hsp
 have I:Inv (gt CX P w K mg base N qual scope f cdv A outer s H E) [] (cw N vs) H s1:=lg S hr.hd e0 hl r x
 refine wpAny_mono (ht [] s1 (cw N vs) H _ I hq) (fun fl s' hs=>?_) fun e s' hs=>hs
 have fin:∀ {σ':St} {H':Hp} {v:V} {u:Value},Inv (gt CX P w K mg base N qual scope f cdv A outer s H E) [] σ' H' s'→aX v u→Q v H'→CE outer P w H s Q u s' :=
  fun {σ' H' v u} J rv q=>⟨v,H',J.os,J.bare,J.base,J.hok,rv,q⟩
 cases fl with
 | ret u =>
  obtain ⟨v,σ',H',J,rv,q⟩:=hs
  exact fin J rv q
 | next =>
  obtain ⟨σ',H',J,q⟩:=hs
  exact fin (v:=V.non) (u:=Value.none) J rfl q
 | brk =>
  obtain ⟨_,_,_,q⟩:=hs
  exact False.elim q
 | cont =>
  obtain ⟨_,_,_,q⟩:=hs
  exact False.elim q
section
variable {X:Cx} {x:Str} {p pos:Pos} {e:Expr} {es:List Expr} {t:TA} {id T:String} {r:List V→Hp→VK→Prop}
def tCB (r:List V→Hp→VK→Prop) (t:TA):TE:=fun σ H Q=>t σ H fun vs H1=>r vs H1 Q
theorem eL (hc:dC X (.builtin id) r) (hg:Gl X x) (hm:X.mg x=none) (hv:bootBuiltins x=some (.builtin id)) (ha:PA X (e :: es) t) (hn:x ≠ "__name__":=by decide) (hdb:(x == ("__debug__":Str))=false:=by decide)
 (he:starEach (e :: es) X.env=(false,eval e X.env) :: starEach es X.env:=by rfl) (hpl:(backTo pos (starEach es X.env)).any (·.1)=false:=by rfl):PE X (.Call (.Name x p) (e :: es) [] pos) (tCB r t):=by
 (try refine ⟨?_⟩); intro pins s σ H Q I h
 refine wpAny_Call_Name_kw (eZ I hg hm hv ?_ hn hdb)
 exact PyProof.Rows.callWith_builtin1 (thn (ha pos pins s σ H _ I h) fun us s1 ⟨vs,H1,I1,r1,q1⟩=>hc pins s1 σ H1 vs us Q I1 r1 q1) he hpl
theorem g9 (hc:dC X (.type T) r) (hg:Gl X x) (hm:X.mg x=none) (hv:bootBuiltins x=some (.type T)) (ha:PA X (e :: es) t) (hn:x ≠ "__name__":=by decide) (hdb:(x == ("__debug__":Str))=false:=by decide)
 (he:starEach (e :: es) X.env=(false,eval e X.env) :: starEach es X.env:=by rfl) (hpl:(backTo pos (starEach es X.env)).any (·.1)=false:=by rfl):PE X (.Call (.Name x p) (e :: es) [] pos) (tCB r t):=by
 (try refine ⟨?_⟩); intro pins s σ H Q I h
 refine wpAny_Call_Name_kw (eZ I hg hm hv ?_ hn hdb)
 exact PyProof.Rows.callWith_type1 (thn (ha pos pins s σ H _ I h) fun us s1 ⟨vs,H1,I1,r1,q1⟩=>hc pins s1 σ H1 vs us Q I1 r1 q1) he hpl
end
end L2
namespace HT
open PySem PyProof.Rows
section
open PySem.SeqAt
open PySem.AutoSeq1 (wpAny_loadPart')
open PySem.MeetsSeq PySem.MeetsSeq2 PySem.MeetsSeq3
end
section
variable {prog:Program} {w:World} {A:Around} {E:Value→Shared→Prop} {s:Shared}
def sIx (n d:Nat):Option Int→Nat
 | none=>d
 | some v=>if v<0 then (v + (n:Int)).toNat else min v.toNat n
theorem sIx_none (n d:Nat):sIx n d none=d:=rfl
theorem sIx_nat (n d k:Nat):sIx n d (some (k:Int))=min k n:=by
 show (if (k:Int)<0 then ((k:Int) + (n:Int)).toNat else min (k:Int).toNat n)=min k n
 rw [if_neg (by omega),Int.toNat_natCast]
end
end HT
namespace L2
open PySem PySem.Spec PyProof.Rows
abbrev TO:=St→Hp→(Option Int→Hp→Prop)→Prop
structure PO (X:Cx) (e:Option Expr) (t:TO):Prop where
 go:∀ (pins:List (Addr×Obj)) (s:Shared) (σ:St) (H:Hp) (Q:Option Int→Hp→Prop),Inv X pins σ H s→t σ H Q →
  wpAny (model X.prog X.w) X.A (evalPart e X.env) (fun u s'=>∃ o H',Inv X pins σ H' s'∧IsPart u o∧Q o H') X.xe s
instance {X:Cx} {e:Option Expr} {t:TO}:CoeFun (PO X e t) fun _=>∀ (pins:List (Addr×Obj)) (s:Shared) (σ:St) (H:Hp) (Q:Option Int→Hp→Prop),Inv X pins σ H s→t σ H Q →
 wpAny (model X.prog X.w) X.A (evalPart e X.env) (fun u s'=>∃ o H',Inv X pins σ H' s'∧IsPart u o∧Q o H') X.xe s:=⟨fun h=>h.go⟩
def qo:TO:=fun _ H Q=>Q none H
def tPart (t:TE):TO:=fun σ H Q=>t σ H fun x H1=>∃ i,x = .int i∧Q (some i) H1
section
variable {X:Cx} {e:Expr} {te:TE} {lo hi:Option Expr} {tl th:TO} {pos p2:Pos}
theorem qz:PO X none qo:=by
 (try refine ⟨?_⟩); intro pins s σ H Q I h
 rw [evalPart_none]
 exact wpAny_pure ⟨none,H,I,.none,h⟩
theorem pw (h:PE X e te):PO X (some e) (tPart te):=by
 (try refine ⟨?_⟩); intro pins s σ H Q I hw
 rw [evalPart_some]
 refine thn (h pins s σ H _ I hw) fun u s1 ⟨x,H1,I1,r1,q1⟩=>?_
 obtain ⟨i,rfl,q⟩:=q1
 obtain ⟨t,rfl⟩:=r1
 exact ⟨some i,H1,I1,.int i t,q⟩
def SlR (X:Cx) (r:V→Option Int→Option Int→Hp→VK→Prop):Prop :=
 ∀ (pins:List (Addr×Obj)) (s:Shared) (σ:St) (H:Hp) (x:V) (v vl vu:Value) (lo hi:Option Int) (sl:Addr) (Q:VK),Inv X pins σ H s→aX x v→s.heap.IsSliceOf sl vl vu .none→IsPart vl lo→IsPart vu hi→r x lo hi H Q →
  ∃ T id,typeLookup (.type T) "__getitem__" = pure (some (.builtin id))∧s.TypeIs v T∧wpAny (model X.prog X.w) X.A (getItem v (.ref sl)) (EP X pins σ Q) X.xe s
def tSl (r:V→Option Int→Option Int→Hp→VK→Prop) (te:TE) (tl th:TO):TE:=fun σ H Q=>te σ H fun x H1=>tl σ H1 fun l H2=>th σ H2 fun u H3=>r x l u H3 Q
theorem mI {r:V→Option Int→Option Int→Hp→VK→Prop} (hr:SlR X r) (he:PE X e te) (hl:PO X lo tl) (hu:PO X hi th):PE X (.Subscript e (.Slice lo hi none p2) pos) (tSl r te tl th):=by
 (try refine ⟨?_⟩); intro pins s σ H Q I h
 refine Subscript_ (thn (he pins s σ H _ I h) fun v s1 ⟨x,H1,I1,r1,q1⟩=>?_)
 refine wpAny_Slice (thn (hl pins s1 σ H1 _ I1 q1) fun vl s2 ⟨l,H2,I2,pl,q2⟩=>thn (hu pins s2 σ H2 _ I2 q2) fun vu s3 ⟨u,H3,I3,pu,q3⟩=>?_)
 rw [evalPart_none]
 refine wpAny_pure ?_
 have I4:Inv X pins σ H3 { s3 with heap:=s3.heap.push { cls:=.type "slice",data:=.fields #[vl,vu,.none] } }:=I3.kept (t':=s3.toks) fun b ob q=>Heap.get?_push_of_some _ q
 obtain ⟨T,id,hT,ht,hg⟩:=hr pins { s3 with heap:=s3.heap.push { cls:=.type "slice",data:=.fields #[vl,vu,.none] } } σ H3 x v vl vu l u s3.heap.objs.size Q I4 r1 (Heap.IsSliceOf.new ..) pl pu q3
 show wpAny (model X.prog X.w) X.A (subscriptTail e (.Slice lo hi none p2) v (.ref s3.heap.objs.size)) (EP X pins σ Q) X.xe { s3 with heap:=s3.heap.push { cls:=.type "slice",data:=.fields #[vl,vu,.none] } }
 exact tail_any (ops:=[.ref s3.heap.objs.size,v]) ht hT hg (by with_unfolding_all rfl)
def jF (xs:List V) (lo hi:Option Int):List V:=(xs.drop (HT.sIx xs.length 0 lo)).take (HT.sIx xs.length xs.length hi - HT.sIx xs.length 0 lo)
theorem je (xs:List V) (lo hi:Option Int):(jF xs lo hi).length≤xs.length:=by
 unfold jF
 rw [List.length_take,List.length_drop]
 omega
end
def ixN (n:Nat) (i:Int):Option Nat:=if 0≤i then (if i<n then some i.toNat else none) else if -(n:Int)≤i then some (i + n).toNat else none
def atI {α:Type} (xs:List α) (i:Int):Option α:=(ixN xs.length i).bind fun j=>xs[j]?
theorem km {n:Nat} {i:Int} {j:Nat} (h:ixN n i=some j):seqIndex? i n=some j∧j<n∧-(n:Int)≤i∧i<n:=by
 unfold ixN at h
 by_cases h0 : 0≤i
 ·rw [if_pos h0] at h
  by_cases h1:i<n
  ·rw [if_pos h1] at h
   have e:i.toNat=j:=Option.some.inj h
   exact ⟨by rw [seqIndex_of h0 h1,e],by omega,by omega,h1⟩
  ·rw [if_neg h1] at h; cases h
 ·rw [if_neg h0] at h
  by_cases h1 : -(n:Int)≤i
  ·rw [if_pos h1] at h
   have e:(i + n).toNat=j:=Option.some.inj h
   exact ⟨by rw [seqIndex_neg (by omega) h1,e],by omega,h1,by omega⟩
  ·rw [if_neg h1] at h; cases h
theorem ik {α:Type} {xs:List α} {i:Int} {v : α} (h:atI xs i=some v):∃ j,seqIndex? i xs.length=some j∧xs[j]? = some v∧j<xs.length∧-(xs.length:Int)≤i∧i<xs.length:=by
 unfold atI at h
 cases e:ixN xs.length i with
 | none=>rw [e] at h; cases h
 | some j =>
  rw [e] at h
  obtain ⟨h1,h2,h3,h4⟩:=km e
  exact ⟨j,h1,h,h2,h3,h4⟩
theorem kj {α:Type} {xs:List α} {j:Nat} {v : α} (h:xs[j]? = some v):atI xs (j:Int)=some v:=by
 have hj:j<xs.length:=(List.getElem?_eq_some_iff.mp h).1
 have e:ixN xs.length (j:Int)=some j:=by
  unfold ixN
  rw [if_pos (by omega),if_pos (by omega)]; simp
 unfold atI; rw [e]; exact h
def ii (b:Expr):Prop:=∀ o i,subscripted b false o i=operate [o,i] (getItem o i)
def IxR (X:Cx) (r:R2):Prop :=
 ∀ (value slice:Expr) (pins:List (Addr×Obj)) (s:Shared) (σ:St) (H:Hp) (x y:V) (v u:Value) (Q:VK),Inv X pins σ H s→aX x v→aX y u→r x y H Q →
  subscripted slice false v u=operate [v,u] (getItem v u)→wpAny (model X.prog X.w) X.A (subscriptTail value slice v u) (EP X pins σ Q) X.xe s
def MtR (X:Cx) (id:String) (r:V→List V→Hp→VK→Prop):Prop :=
 ∀ (pins:List (Addr×Obj)) (s:Shared) (σ:St) (H:Hp) (x:V) (xs:List V) (v:Value) (us:List Value) (Q:VK),Inv X pins σ H s→aX x v→aO xs us→r x xs H Q →
  wpAny (model X.prog X.w) X.A (call (.builtin id) (v :: us)) (EP X pins σ Q) X.xe s
section
variable {X:Cx} {a b:Expr} {ta tb:TE} {pos:Pos}
theorem IxR.or {r r':R2} (h:IxR X r) (h':IxR X r'):IxR X (fun x y H Q=>r x y H Q∨r' x y H Q):=by
 intro value slice pins s σ H x y v u Q I rx ry q hs
 rcases q with q | q
 ·exact h value slice pins s σ H x y v u Q I rx ry q hs
 ·exact h' value slice pins s σ H x y v u Q I rx ry q hs
theorem qU {r:R2} (hr:IxR X r) (ha:PE X a ta) (hb:PE X b tb) (hs:ii b):PE X (.Subscript a b pos) (tOp r ta tb):=by
 (try refine ⟨?_⟩); intro pins s σ H Q I h
 exact Subscript_ (binT ha hb I h fun v u s2 x y H2 I2 rx ry q=>hr a b pins s2 σ H2 x y v u Q I2 rx ry q (hs _ _))
def rIxL (K:PySem.W.Frag):R2:=fun x y H Q=>∃ p xs i v,x = .ref p∧y = .int i∧SqL K H p xs∧atI xs i=some v∧Q v H
def rIxT (K:PySem.W.Frag):R2:=fun x y H Q=>∃ p xs i v,x = .ref p∧y = .int i∧SqT K H p xs∧atI xs i=some v∧Q v H
def rIxS:R2:=fun x y H Q=>∃ z i c,x = .str z∧y = .int i∧z.length≤sizeLine∧atI z.cps.toList i=some c∧Q (.str ⟨#[c]⟩) H
theorem qv:IxR X (rIxL X.K):=by
 intro value slice pins s σ H x y v u Q I rx ry h hs
 obtain ⟨p,xs,i,z,rfl,rfl,hq,he,q⟩:=h
 cases rx
 obtain ⟨t,rfl⟩:=ry
 obtain ⟨its,r,pl,hz⟩:=I.list hq
 obtain ⟨j,h1,h2,h3,h4,h5⟩:=ik he
 obtain ⟨w,ew,rw'⟩:=r.get h2
 have hl:=r.length
 have hn:=eY
 have fin:EP X pins σ Q w s:=⟨z,H,I,rw',q⟩
 by_cases h0 : 0≤i
 ·have hj:i.toNat=j:=by
   rw [seqIndex_of h0 h5] at h1
   exact Option.some.inj h1
  exact item_listR pl.isList h0 (by omega) (by rw [hj]; simpa using ew) fin hs
 ·have hj:(i + (its.toArray.size:Int)).toNat=j:=by
   rw [seqIndex_neg (by omega) h4] at h1
   rw [List.size_toArray,← hl]
   exact Option.some.inj h1
  exact subscriptTail_builtinR (x:=w) pl.isList.typeIs slot_list_getitem.lookup
   (wpAny_getItem_list_neg (Q:=fun r s'=>r=w∧EP X pins σ Q r s') pl.isList (by omega) (by rw [List.size_toArray] <;> omega) (by omega) (by rw [hj]; simpa using ew) ⟨rfl,fin⟩) hs
theorem sX:IxR X (rIxT X.K):=by
 intro value slice pins s σ H x y v u Q I rx ry h hs
 obtain ⟨p,xs,i,z,rfl,rfl,hq,he,q⟩:=h
 cases rx
 obtain ⟨t,rfl⟩:=ry
 obtain ⟨its,r,pl,hz⟩:=I.tuple hq
 obtain ⟨j,h1,h2,h3,h4,h5⟩:=ik he
 obtain ⟨w,ew,rw'⟩:=r.get h2
 have hl:=r.length
 have hn:=eY
 have fin:EP X pins σ Q w s:=⟨z,H,I,rw',q⟩
 exact subscriptTail_builtinR (x:=w) pl.typeIs slot_tuple_getitem.lookup
  (getItem_tuple (j:=j) (Q:=fun r s'=>r=w∧EP X pins σ Q r s') pl (by omega) (by omega) (by rw [List.size_toArray,← hl]; exact h1) (by simpa using ew) ⟨rfl,fin⟩) hs
theorem rE:IxR X rIxS:=by
 intro value slice pins s σ H x y v u Q I rx ry h hs
 obtain ⟨z,i,c,rfl,rfl,hz,he,q⟩:=h
 obtain ⟨t,rfl⟩:=rx
 obtain ⟨t',rfl⟩:=ry
 obtain ⟨j,h1,h2,h3,h4,h5⟩:=ik he
 have hl:z.cps.toList.length=z.length:=by simp [Str.length]
 rw [hl] at h1 h4 h5
 have hn:=eY
 exact tail_any (typeIs_str s z t) slot_str_getitem.lookup (getItem_str (c:=c) (by
  have e1:decide (i < -(2 ^ 63:Int))=false:=decide_eq_false (by omega)
  have e2:decide (i ≥ 2 ^ 63)=false:=decide_eq_false (by omega)
  rw [e1,e2,Bool.or_false]) (by rw [h1]; simpa using h2) ⟨.str ⟨#[c]⟩,H,I.tok _,⟨_,rfl⟩,q⟩) hs
def rIx (K:PySem.W.Frag):R2:=fun x y H Q=>rIxL K x y H Q∨rIxT K x y H Q∨rIxS x y H Q
theorem au:IxR X (rIx X.K):=qv.or (sX.or rE)
theorem jW (its:List Value) (n j:Nat) (u:Value):Obj.mapSeq (·.setIfInBounds j u) { cls:=.type "list",data:=.seq its.toArray n } = { cls:=.type "list",data:=.seq (its.set j u).toArray n }:=by
 simp [Obj.mapSeq]
theorem Inv.lst {pins:List (Addr×Obj)} {σ:St} {H:Hp} {s:Shared} {p:Addr} {xs:List V} (I:Inv X pins σ H s) (h:H p=some (.lst xs)) :
 ∃ (its:List Value) (n:Nat),aO xs its∧s.heap.get? p=some { cls:=.type "list",data:=.seq its.toArray n }∧xs.length≤sizeLine:=by
 obtain ⟨z,its,n,r,e⟩:=I.hok p _ h
 exact ⟨its,n,r,e,z⟩
theorem Inv.lstUpd {pins:List (Addr×Obj)} {σ:St} {H:Hp} {s:Shared} {p:Addr} {xs ys:List V} {its its':List Value} {n n':Nat} {f:Obj→Obj} (I:Inv X pins σ H s) (h:H p=some (.lst xs))
 (ho:s.heap.get? p=some { cls:=.type "list",data:=.seq its.toArray n }) (hf:f { cls:=.type "list",data:=.seq its.toArray n } = { cls:=.type "list",data:=.seq its'.toArray n' }) (r:aO ys its') (hz:ys.length≤sizeLine) (t:Nat) :
 Inv X pins σ (upd H p (.lst ys)) { s with heap:=s.heap.update p f,toks:=t }:=by
 have e:(s.heap.update p f).get? p=some { cls:=.type "list",data:=.seq its'.toArray n' }:=by
  rw [Heap.get?_update_self f ho (by rw [hf] <;> rfl),hf]
 refine I.write (x:=p) (e:=p) (by rw [h]; trivial) (.inl rfl) (fun b u hb q=>(Heap.get?_update_other _ _ (Ne.symm hb)).trans q) ⟨_,e⟩ ?_
 exact ⟨hz,its',n',r,e⟩
def rSetL:V→V→V→Hp→(Hp→Prop)→Prop:=fun o i v H Q=>∃ p xs k j,o = .ref p∧i = .int k∧H p=some (.lst xs)∧ixN xs.length k=some j∧Q (upd H p (.lst (xs.set j v)))
theorem mX:PSet X rSetL:=by
 (try refine ⟨?_⟩); intro pins s σ H o i v ov iv u Q I ro ri rv h
 obtain ⟨p,xs,k,j,rfl,rfl,hp,hj,q⟩:=h
 cases ro
 obtain ⟨t,rfl⟩:=ri
 obtain ⟨its,n,r,ho,hz⟩:=I.lst hp
 obtain ⟨h1,h2,h3,h4⟩:=km hj
 have hl:=r.length
 have hn:=eY
 have I':Inv X pins σ (upd H p (.lst (xs.set j v))) { s with heap:=s.heap.update p (Obj.mapSeq (·.setIfInBounds j u)) } :=
  I.lstUpd hp ho (jW its n j u) (r.set rv j) (by rw [List.length_set]; exact hz) s.toks
 by_cases h0 : 0≤k
 ·have hk:k.toNat=j:=by
   rw [seqIndex_of h0 h4] at h1
   exact Option.some.inj h1
  exact PySem.W.ki_setAt ho h0 (by omega) (by rw [List.size_toArray,← hl]; exact h4) (by rw [hk]; exact ⟨_,I',q⟩)
 ·have hk:(k + (its.toArray.size:Int)).toNat=j:=by
   rw [seqIndex_neg (by omega) h3] at h1
   rw [List.size_toArray,← hl]
   exact Option.some.inj h1
  exact PySem.W.ki_setBack ho (by omega) (by rw [List.size_toArray,← hl]; exact h3) (by omega) (by rw [hk]; exact ⟨_,I',q⟩)
theorem iE (lo hi:Option Int) (n:Nat):(sliceBounds lo hi none n).1=((HT.sIx n 0 lo:Nat):Int)∧(sliceBounds lo hi none n).2.1=((HT.sIx n n hi:Nat):Int)∧(sliceBounds lo hi none n).2.2=1:=by
 refine ⟨?_,?_,rfl⟩
 ·cases lo with
  | none=>simp [sliceBounds,HT.sIx]
  | some i =>
   simp only [sliceBounds,HT.sIx,Option.getD_none,show (1:Int) > 0 by decide,if_true]
   by_cases h:i<0
   ·simp only [h,if_true] <;> omega
   ·simp only [h,if_false] <;> omega
 ·cases hi with
  | none=>simp [sliceBounds,HT.sIx]
  | some i =>
   simp only [sliceBounds,HT.sIx,Option.getD_none,show (1:Int) > 0 by decide,if_true]
   by_cases h:i<0
   ·simp only [h,if_true] <;> omega
   ·simp only [h,if_false] <;> omega
theorem gD (its:List Value) (lo hi:Option Int):slicePick its.toArray lo hi none=((its.drop (HT.sIx its.length 0 lo)).take (HT.sIx its.length its.length hi - HT.sIx its.length 0 lo)).toArray:=by
 obtain ⟨h1,h2,h3⟩:=iE lo hi its.toArray.size
 unfold slicePick
 rw [h1,h2,h3]
 simp only [sliceRange_one,pick_run,List.size_toArray] <;> rfl
def rSlL (K:PySem.W.Frag):V→Option Int→Option Int→Hp→VK→Prop:=fun x lo hi H Q=>∃ a xs,x = .ref a∧SqL K H a xs∧∀ p,H p=none→Q (.ref p) (upd H p (.lst (jF xs lo hi)))
theorem pY:SlR X (rSlL X.K):=by
 (try refine ⟨?_⟩); intro pins s σ H x v vl vu lo hi sl Q I rx hs pl pu h
 obtain ⟨a,xs,rfl,hx,q⟩:=h
 cases rx
 obtain ⟨its,r,ht,hz⟩:=I.list hx
 have hlen:=r.length
 refine ⟨"list",_,slot_list_getitem.lookup,ht.isList.typeIs,?_⟩
 refine wpAny_getItem_list_slice ht.isList hs pl pu .none (by simp) ?_ (by rw [List.size_toArray] <;> omega)
 rw [gD,← hlen]
 refine ⟨.ref s.heap.objs.size,_,I.laid (t':=s.toks) (o:=.lst (jF xs lo hi)) (fun b ob q=>Heap.get?_push_of_some _ q) (Nat.le_refl _) ?_,rfl,q _ (I.hok.fresh (Nat.le_refl _))⟩
 exact ⟨Nat.le_trans (je xs lo hi) hz,_,0,(r.drop (HT.sIx xs.length 0 lo)).take (HT.sIx xs.length xs.length hi - HT.sIx xs.length 0 lo),Heap.get?_push_size _ rfl⟩
def em:V→Bool
 | .non=>true
 | .bl _=>true
 | .int _=>true
 | .str _=>true
 | _=>false
def eqV:V→V→Bool
 | .non,.non=>true
 | .bl a,.bl b=>a == b
 | .bl a,.int b=>(if a then 1 else 0) == b
 | .int a,.bl b=>a == (if b then 1 else 0)
 | .int a,.int b=>a == b
 | .str a,.str b=>a == b
 | _,_=>false
theorem sJ {A:Around} {s:Shared} {y x:V} {u v:Value} (ry:aX y u) (rx:aX x v) (fy:em y=true) (fx:em x=true):SeqAt.EqAt A s u v (eqV y x):=by
 cases y with
 | non =>
  cases ry
  cases x with
  | non=>cases rx; exact SeqAt.EqAt.same _
  | bl b=>cases rx; exact SeqAt.EqAt.none_bool b
  | int b=>obtain ⟨t,rfl⟩:=rx; exact SeqAt.EqAt.none_int b t
  | str b=>obtain ⟨t,rfl⟩:=rx; exact SeqAt.EqAt.none_str b t
  | _=>exact absurd (show false=true from fx) Bool.false_ne_true
 | bl a =>
  cases ry
  cases x with
  | non=>cases rx; exact SeqAt.EqAt.bool_none a
  | bl b=>cases rx; exact SeqAt.EqAt.bool_bool a b
  | int b=>obtain ⟨t,rfl⟩:=rx; exact SeqAt.EqAt.bool_int a b t
  | str b=>obtain ⟨t,rfl⟩:=rx; exact SeqAt.EqAt.bool_str a b t
  | _=>exact absurd (show false=true from fx) Bool.false_ne_true
 | int a =>
  obtain ⟨t',rfl⟩:=ry
  cases x with
  | non=>cases rx; exact SeqAt.EqAt.int_none a t'
  | bl b=>cases rx; exact SeqAt.EqAt.int_bool a t' b
  | int b=>obtain ⟨t,rfl⟩:=rx; exact SeqAt.EqAt.int_int a t' b t
  | str b=>obtain ⟨t,rfl⟩:=rx; exact SeqAt.EqAt.int_str a t' b t
  | _=>exact absurd (show false=true from fx) Bool.false_ne_true
 | str a =>
  obtain ⟨t',rfl⟩:=ry
  cases x with
  | non=>cases rx; exact SeqAt.EqAt.str_none a t'
  | bl b=>cases rx; exact SeqAt.EqAt.str_bool a t' b
  | int b=>obtain ⟨t,rfl⟩:=rx; exact SeqAt.EqAt.str_int a t' b t
  | str b=>obtain ⟨t,rfl⟩:=rx; exact SeqAt.EqAt.str_str a t' b t
  | _=>exact absurd (show false=true from fx) Bool.false_ne_true
 | _=>exact absurd (show false=true from fy) Bool.false_ne_true
def eqU (x:V) (u:Value):Bool:=match u with
 | .none=>eqV .non x
 | .bool b=>eqV (.bl b) x
 | .int i _=>eqV (.int i) x
 | .str z _=>eqV (.str z) x
 | _=>false
theorem mO {x y:V} {u:Value} (r:aX y u) (f:em y=true):eqU x u=eqV y x:=by
 cases y with
 | non=>cases r; rfl
 | bl b=>cases r; rfl
 | int i=>obtain ⟨t,rfl⟩:=r; rfl
 | str z=>obtain ⟨t,rfl⟩:=r; rfl
 | _=>exact absurd (show false=true from f) Bool.false_ne_true
theorem iF {x:V}:∀ {xs:List V} {us:List Value},aO xs us→xs.all em=true→us.any (eqU x)=xs.any fun y=>eqV y x
 | _,_,.nil,_=>rfl
 | y :: xs,u :: us,.cons r t,f=>by
  rw [List.all_cons,Bool.and_eq_true] at f
  rw [List.any_cons,List.any_cons,mO r f.1,iF t f.2]
theorem fV {A:Around} {s:Shared} {x:V} {v:Value} (rx:aX x v) (fx:em x=true):∀ {xs:List V} {us:List Value},aO xs us→xs.all em=true→∀ u∈us,SeqAt.EqAt A s u v (eqU x u)
 | _,_,.nil,_=>fun u hu=>by cases hu
 | y :: xs,u :: us,.cons r t,f=>fun u' hu=>by
  rw [List.all_cons,Bool.and_eq_true] at f
  rcases List.mem_cons.mp hu with rfl | hu
  ·rw [mO r f.1]; exact sJ r rx f.1 fx
  ·exact fV rx fx t f.2 u' hu
def inV (x:V) (xs:List V):Bool:=xs.any fun y=>eqV y x
def rIn (K:PySem.W.Frag) (neg:Bool):R2:=fun x y H Q=>∃ p xs,y = .ref p∧(SqL K H p xs∨SqT K H p xs)∧em x=true∧xs.all em=true∧Q (.bl (if neg then !inV x xs else inV x xs)) H
theorem hV:OpR X (compareOp .In) (rIn X.K false):=by
 (try refine ⟨?_⟩); intro pins s σ H x y v u Q I rx ry h
 obtain ⟨p,xs,rfl,hq,fx,fs,q⟩:=h
 cases ry
 rcases hq with hq | hq
 ·obtain ⟨its,r,pl,hz⟩:=I.list hq
  refine SeqAt.in_listAt (eqU x) pl.isList (fun w hw=>fV rx fx r fs w (by simpa using hw)) ⟨.bl _,H,I,rfl,?_⟩
  rw [show its.toArray.any (eqU x)=its.any (eqU x) by simp,iF r fs]
  exact q
 ·obtain ⟨its,r,pl,hz⟩:=I.tuple hq
  refine SeqAt.in_tupleAt (eqU x) pl (fun w hw=>fV rx fx r fs w (by simpa using hw)) ⟨.bl _,H,I,rfl,?_⟩
  rw [show its.toArray.any (eqU x)=its.any (eqU x) by simp,iF r fs]
  exact q
theorem ax:dC X (.builtin "len") (fun xs H Q=>∃ p ys,xs=[.ref p]∧(SqL X.K H p ys∨SqT X.K H p ys)∧Q (.int ys.length) H):=by
 (try refine ⟨?_⟩); intro pins s σ H xs us Q I r h
 obtain ⟨p,ys,rfl,hq,q⟩:=h
 obtain ⟨u,rfl,rx⟩:=nv r
 cases rx
 have hn:=eY
 rcases hq with hq | hq
 ·obtain ⟨its,r',pl,hz⟩:=I.list hq
  have hlen:=r'.length
  exact Calls.call_len_list pl.isList (by simp only [List.size_toArray] <;> omega) ⟨.int ys.length,H,I.tok _,⟨s.toks + 1,by rw [List.size_toArray,hlen]⟩,q⟩
 ·obtain ⟨its,r',pl,hz⟩:=I.tuple hq
  have hlen:=r'.length
  exact len_tuple pl (by simp only [List.size_toArray] <;> omega) ⟨.int ys.length,H,I.tok _,⟨s.toks + 1,by rw [List.size_toArray,hlen]⟩,q⟩
theorem bd:dC X (.type "list") (fun xs H Q=>∃ p ys,xs=[.ref p]∧(SqL X.K H p ys∨SqT X.K H p ys)∧∀ l,H l=none→Q (.ref l) (upd H l (.lst ys))):=by
 (try refine ⟨?_⟩); intro pins s σ H xs us Q I r h
 obtain ⟨p,ys,rfl,hq,q⟩:=h
 obtain ⟨u,rfl,rx⟩:=nv r
 cases rx
 have fin:∀ (its:List Value),aO ys its→ys.length≤sizeLine→∀ (h':Heap) (c':Nat),(∀ b o',s.heap.get? b=some o'→h'.get? b=some o') →
  h'.get? s.heap.objs.size=some { cls:=.type "list",dict:=none,data:=.seq its.toArray c',slots:=#[] }→EP X pins σ Q (.ref s.heap.objs.size) { s with heap:=h' }:=fun its r' hz h' c' kp e =>
  ⟨.ref s.heap.objs.size,_,I.laid (t':=s.toks) kp (Nat.le_refl _) (show aT X.prog X.w _ h' _ (.lst ys) from ⟨hz,its,c',r',e⟩),rfl,q _ (I.hok.fresh (Nat.le_refl _))⟩
 rcases hq with hq | hq
 ·obtain ⟨its,r',pl,hz⟩:=I.list hq
  have hlen:=r'.length
  obtain ⟨o,ho,hc,n,hd⟩:=pl.isList
  exact call_list_seq p (.inl rfl) ho hc hd (fun h' c' kp e=>fin its r' hz h' c' kp e) (by simp only [List.size_toArray] <;> omega)
 ·obtain ⟨its,r',pl,hz⟩:=I.tuple hq
  have hlen:=r'.length
  obtain ⟨o,ho,hc,n,hd⟩:=pl
  exact call_list_seq p (.inr rfl) ho hc hd (fun h' c' kp e=>fin its r' hz h' c' kp e) (by simp only [List.size_toArray] <;> omega)
def tyV (K:PySem.W.Frag) (T:String) (x:V) (H:Hp):Prop:=match x with
 | .str _=>T = "str"
 | .int _=>T = "int"
 | .ref p=>(T = "list" ∧ ∃ xs,SqL K H p xs)∨(T = "tuple" ∧ ∃ o,K.lookup p=some o∧o.cls = .type "tuple" ∧ o.dict=none) ∨
  (T = "dict" ∧ ((∃ kvs,H p=some (.dK kvs))∨∃ kvs,H p=some (.dT kvs)))∨(T = "set" ∧ ∃ S n,H p=some (.set S n))
 | _=>False
theorem oP {pins:List (Addr×Obj)} {σ:St} {H:Hp} {s:Shared} {T:String} {x:V} {v:Value} (I:Inv X pins σ H s) (r:aX x v) (ty:tyV X.K T x H) :
 s.TypeIs v T∧∀ a,v = .ref a→∃ ob,s.heap.get? a=some ob∧ob.dict=none:=by
 cases x with
 | str z =>
  obtain ⟨t,rfl⟩:=r
  cases (show T = "str" from ty)
  exact ⟨typeIs_str s z t,fun _ e=>nomatch e⟩
 | int i =>
  obtain ⟨t,rfl⟩:=r
  cases (show T = "int" from ty)
  exact ⟨typeIs_int s i t,fun _ e=>nomatch e⟩
 | ref p =>
  cases r
  rcases ty with ⟨rfl,xs,hq⟩ | ⟨rfl,o,hk,hc,hd⟩ | ⟨rfl,hk⟩ | ⟨rfl,S,n,hk⟩
  ·obtain ⟨its,_,pl,_⟩:=I.list hq
   refine ⟨pl.isList.typeIs,fun a e=>?_⟩
   cases e
   obtain ⟨o,n,e,c,hd,_⟩:=pl
   exact ⟨o,e,hd⟩
  ·refine ⟨⟨o,I.kIn p o hk,hc⟩,fun a e=>?_⟩
   cases e
   exact ⟨o,I.kIn _ o hk,hd⟩
  ·have z:∃ o,s.heap.get? p=some o∧o.ExactDict:=by
    rcases hk with ⟨kvs,hk⟩ | ⟨kvs,hk⟩
    ·obtain ⟨_,_,_,_,o,_,_,e,ex,_⟩:=I.hok p _ hk
     exact ⟨o,e,ex⟩
    ·obtain ⟨_,_,_,_,o,_,_,e,ex,_⟩:=I.hok p _ hk
     exact ⟨o,e,ex⟩
   obtain ⟨o,e,ex⟩:=z
   refine ⟨⟨o,e,ex.1⟩,fun a e2=>?_⟩
   cases e2
   exact ⟨o,e,ex.2.1⟩
  ·obtain ⟨o,_,_,_,e,ex,_⟩:=I.hok p _ hk
   refine ⟨⟨o,e,ex.1⟩,fun a e2=>?_⟩
   cases e2
   exact ⟨o,e,ex.2.1⟩
 | _=>exact False.elim ty
def tBM0 (K:PySem.W.Frag) (T:String) (r:V→List V→Hp→VK→Prop) (to:TE):TE:=fun σ H Q=>to σ H fun x H1=>tyV K T x H1∧r x [] H1 Q
def tBM (K:PySem.W.Frag) (T:String) (r:V→List V→Hp→VK→Prop) (to:TE) (t:TA):TE:=fun σ H Q=>to σ H fun x H1=>tyV K T x H1∧t σ H1 fun xs H2=>r x xs H2 Q
variable {o e:Expr} {es:List Expr} {to:TE} {t:TA} {name:Str} {apos cpos:Pos} {T id:String} {r:V→List V→Hp→VK→Prop}
theorem sU (pa:PlainAttrs T) (slot:Slot T name id) (hty:typeOf (.builtin id)=pure (.type "method_descriptor")) (hm:MtR X id r) (ho:PE X o to)
 (hbase:attributeBase o name X.env (eval o X.env)=eval o X.env:=by rfl) (hline:(apos.endLine == cpos.line)=true:=by rfl):PE X (.Call (.Attribute o name apos) [] [] cpos) (tBM0 X.K T r to):=by
 (try refine ⟨?_⟩); intro pins s σ H Q I h
 refine wpAny_Call_method0_late hbase hline (thn (ho pins s σ H _ I h) fun v s1 ⟨x,H1,I1,r1,ty,q1⟩=>?_)
 obtain ⟨h1,h2⟩:=oP I1 r1 ty
 exact ⟨T,id,pa,slot,hty,h1,h2,Calls.callWith_builtin rfl (PySem.evalArgs_none (hm pins s1 σ H1 x [] v [] Q I1 r1 .nil q1))⟩
theorem oh (pa:PlainAttrs T) (slot:Slot T name id) (hty:typeOf (.builtin id)=pure (.type "method_descriptor")) (hm:MtR X id r) (ho:PE X o to) (ha:PA X (e :: es) t)
 (hbase:attributeBase o name X.env (eval o X.env)=eval o X.env:=by rfl)
 (hfew:((backTo cpos (starEach (e :: es) X.env)).all (fun x=>!x.1)&&(backToKw cpos (keywordEach [] X.env)).all (fun x=>x.1.isSome)
  && decide ((e :: es).length + ([]:List Keyword).length + (if ([]:List Keyword).isEmpty then 0 else 1)<30))=true:=by rfl)
 (hline:(apos.endLine == cpos.line)=true:=by rfl) (hs:starEach (e :: es) X.env=(false,eval e X.env) :: starEach es X.env:=by rfl) (hplain:(backTo cpos (starEach es X.env)).any (·.1)=false:=by rfl) :
 PE X (.Call (.Attribute o name apos) (e :: es) [] cpos) (tBM X.K T r to t):=by
 (try refine ⟨?_⟩); intro pins s σ H Q I h
 refine wpAny_Call_method_late hbase hfew hline rfl (thn (ho pins s σ H _ I h) fun v s1 ⟨x,H1,I1,r1,ty,q1⟩=>?_)
 obtain ⟨h1,h2⟩:=oP I1 r1 ty
 refine ⟨T,id,pa,slot,hty,h1,h2,?_⟩
 have hA:=ha cpos pins s1 σ H1 _ I1 q1
 rw [hs] at hA ⊢
 refine Calls.callWith_builtin (by show (false||(backTo cpos (starEach es X.env)).any (·.1))=false; rw [hplain] <;> rfl) (Calls.evalArgs_plain ?_)
 exact thn hA fun us s2 ⟨vs,H2,I2,r2,q2⟩=>hm pins s2 σ H2 x vs v us Q I2 r1 r2 q2
/- xs.append(e),list.index on a module's tuple .. are MtR facts of 06m -/
end
def MtM (X:Cx) (id:String) (r:V→List V→Hp→VK→Prop):Prop :=
 ∀ (pins:List (Addr×Obj)) (s:Shared) (σ:St) (H:Hp) (x:V) (xs:List V) (v:Value) (us:List Value) (Q:VK),Inv X pins σ H s→aX x v→aO xs us→r x xs H Q →
  wpAny (model X.prog X.w) X.A (call (.builtin id) (v :: us)) (EP X pins σ Q) X.xe s
theorem aO.one:∀ {x:V} {us:List Value},aO [x] us→∃ u,us=[u]∧aX x u:=fun h=>by
 cases h with
 | cons r q=>cases q; exact ⟨_,rfl,r⟩
theorem aO.zero:∀ {us:List Value},aO [] us→us=[]
 | _,.nil=>rfl
theorem aO.dropLast {xs:List V} {us:List Value} (h:aO xs us):aO xs.dropLast us.dropLast:=by
 induction h with
 | nil=>exact .nil
 | cons r t ih =>
  cases t with
  | nil=>exact .nil
  | cons q t'=>exact .cons r ih
theorem aO.eraseIdx:∀ {xs:List V} {us:List Value} (i:Nat),aO xs us→aO (xs.eraseIdx i) (us.eraseIdx i)
 | _,_,_,.nil=>.nil
 | _,_,0,.cons _ t=>t
 | _,_,i + 1,.cons r t=>.cons r (aO.eraseIdx i t)
theorem aO.rep {xs:List V} {us:List Value} (h:aO xs us):∀ k:Nat,aO (List.replicate k xs).flatten (List.replicate k us).flatten
 | 0=>.nil
 | k + 1=>by
  rw [List.replicate_succ,List.replicate_succ,List.flatten_cons,List.flatten_cons]
  exact aO.append h (aO.rep h k)
theorem jK {α:Type} (l:List α):l.eraseIdx (l.length - 1)=l.dropLast:=by
 induction l with
 | nil=>rfl
 | cons a r ih =>
  cases r with
  | nil=>rfl
  | cons b r =>
   have e:(a :: b :: r).length - 1=((b :: r).length - 1) + 1:=by
    have h1:(a :: b :: r).length=r.length + 2:=rfl
    have h2:(b :: r).length=r.length + 1:=rfl
    omega
   rw [e,List.eraseIdx_cons_succ,ih]
   all_goals rfl
theorem gW (its:List Value):∀ (k:Nat) (acc:List Value),
 List.foldl (fun x1 x2=>x1++x2) acc.toArray (List.replicate k its.toArray)=(acc++(List.replicate k its).flatten).toArray
 | 0,acc=>by simp
 | k + 1,acc=>by
  have e:acc.toArray++its.toArray=(acc++its).toArray:=by simp
  have e2:(acc++its)++(List.replicate k its).flatten=acc++(List.replicate (k + 1) its).flatten:=by
   rw [List.replicate_succ,List.flatten_cons,List.append_assoc]
  rw [← e2,← gW its k (acc++its),← e,List.replicate_succ,List.foldl_cons]
section
variable {X:Cx} {pins:List (Addr×Obj)} {σ:St} {H:Hp} {s:Shared} {l b:Addr} {xs ys zs:List V}
theorem Inv.lset {its its':List Value} {n:Nat} {f:Array Value→Array Value} {t':Nat} (I:Inv X pins σ H s) (hH:H l=some (.lst xs))
 (e:s.heap.get? l=some { cls:=.type "list",data:=.seq its.toArray n }) (hf:f its.toArray=its'.toArray) (hv:aO ys its') (hz:ys.length≤sizeLine) :
 Inv X pins σ (upd H l (.lst ys)) { s with heap:=s.heap.update l (Obj.mapSeq f),toks:=t' }:=by
 have q:=PySem.IsL.update e f
 rw [hf] at q
 refine I.write (x:=l) (e:=l) (by rw [hH]; exact trivial) (.inl rfl) (fun b' u hb hu=>(Heap.get?_update_other s.heap (Obj.mapSeq f) (Ne.symm hb)).trans hu) ⟨_,q⟩ ?_
 exact ⟨hz,its',_,hv,q⟩
theorem Inv.lnew {its:List Value} {t':Nat} (I:Inv X pins σ H s) (hv:aO ys its) (hz:ys.length≤sizeLine) :
 Inv X pins σ (upd H s.heap.objs.size (.lst ys)) { s with heap:=s.heap.push { cls:=.type "list",data:=.seq its.toArray },toks:=t' } :=
 I.laid (fun _ _ q=>Heap.get?_push_of_some _ q) (Nat.le_refl _) ⟨hz,its,0,hv,Heap.get?_push_size _ rfl⟩
theorem Inv.fresh (I:Inv X pins σ H s):H s.heap.objs.size=none:=I.hok.fresh (Nat.le_refl _)
theorem Inv.lstM (I:Inv X pins σ H s) (hH:H l=some (.lst xs)):xs.length≤sizeLine∧∃ (its:List Value) (n:Nat),aO xs its∧xs.length=its.length∧s.heap.get? l=some { cls:=.type "list",data:=.seq its.toArray n }:=by
 obtain ⟨z,its,n,r,e⟩:=I.hok l _ hH
 exact ⟨z,its,n,r,r.length,e⟩
theorem jh {n:Nat} (h:n≤sizeLine):Builtin.List.listTooLong n=false:=by
 unfold Builtin.List.listTooLong
 exact decide_eq_false (by omega)
end
section
variable {X:Cx}
def p6:V→List V→Hp→VK→Prop:=fun x vs H Q=>∃ l xs y,x = .ref l∧vs=[y]∧H l=some (.lst xs)∧xs.length<sizeLine∧Q .non (upd H l (.lst (xs++[y])))
theorem gK:MtM X "list.append" p6:=by
 (try refine ⟨?_⟩); intro pins s σ H x vs v us Q I rx rv h
 obtain ⟨l,xs,y,rfl,rfl,hH,hz,q⟩:=h
 cases rx
 obtain ⟨u,rfl,ru⟩:=rv.one
 obtain ⟨z,its,n,r,hl,e⟩:=I.lstM hH
 refine call_meets F.slot_list_append ⟨_,e,rfl⟩ F.entry_list_append (F.args_list_append_2 _ _) (PySem.list_append l its.toArray n u (by rw [List.size_toArray]; omega)) ⟨e,?_⟩
 refine ⟨.non,_,I.lset (its':=its++[u]) hH e (by simp) (r.append (.cons ru .nil)) ?_,rfl,q⟩
 rw [List.length_append,List.length_singleton]
 omega
def p5:V→List V→Hp→VK→Prop:=fun x vs H Q=>∃ l b xs zs,x = .ref l∧vs=[.ref b]∧H l=some (.lst xs)∧H b=some (.lst zs)∧xs.length + zs.length≤sizeLine∧Q .non (upd H l (.lst (xs++zs)))
theorem s_:MtM X "list.extend" p5:=by
 (try refine ⟨?_⟩); intro pins s σ H x vs v us Q I rx rv h
 obtain ⟨l,b,xs,zs,rfl,rfl,hH,hB,hz,q⟩:=h
 cases rx
 obtain ⟨u,rfl,ru⟩:=rv.one
 cases ru
 obtain ⟨z,its,n,r,hl,e⟩:=I.lstM hH
 obtain ⟨z2,its2,n2,r2,hl2,e2⟩:=I.lstM hB
 have hsz:its.toArray.size + its2.toArray.size≤sizeLine:=by rw [List.size_toArray,List.size_toArray]; omega
 have hlong : ¬ (!its.toArray.isEmpty&&Builtin.List.listTooLong (its.toArray.size + its2.toArray.size))=true:=by
  rw [jh hsz,Bool.and_false]
  exact Bool.false_ne_true
 refine call_meets F.slot_list_extend ⟨_,e,rfl⟩ F.entry_list_extend (F.args_list_extend_2 _ _)
  (AutoSeq1.list_extend_list_list_0 l its.toArray n b its2.toArray n2 hlong (by rw [List.size_toArray]; omega) (by omega)) ⟨e,e2,?_⟩
 refine ⟨.non,_,I.lset (its':=its++its2) hH e (by simp) (r.append r2) ?_,rfl,q⟩
 rw [List.length_append]
 omega
def rPop:V→List V→Hp→VK→Prop:=fun x vs H Q=>∃ l xs y,x = .ref l∧vs=[]∧H l=some (.lst xs)∧xs[xs.length - 1]? = some y∧Q y (upd H l (.lst xs.dropLast))
theorem mt_pop:MtM X "list.pop" rPop:=by
 (try refine ⟨?_⟩); intro pins s σ H x vs v us Q I rx rv h
 obtain ⟨l,xs,y,rfl,rfl,hH,hy,q⟩:=h
 cases rx
 have hus:=rv.zero
 subst hus
 obtain ⟨z,its,n,r,hl,e⟩:=I.lstM hH
 obtain ⟨u,hu,ru⟩:=r.get hy
 have hy':its.toArray[its.toArray.size - 1]? = some u:=by
  show its.toArray[its.length - 1]? = some u
  rw [← Array.getElem?_toList,← hl]
  exact hu
 refine call_meets F.slot_list_pop ⟨_,e,rfl⟩ F.entry_list_pop (F.args_list_pop_1 _) (MeetsSeq.list_pop_last l its.toArray n u hy' (by rw [List.size_toArray]; omega)) ⟨e,?_⟩
 refine ⟨y,_,I.lset (its':=its.dropLast) hH e ?_ r.dropLast ?_,ru,q⟩
 ·show its.toArray.eraseIdxIfInBounds (its.toArray.size - 1)=its.dropLast.toArray
  rw [List.size_toArray,List.eraseIdxIfInBounds_toArray,jK]
 ·rw [List.length_dropLast]
  omega
def rT:V→List V→Hp→VK→Prop:=fun x vs H Q=>∃ l xs,x = .ref l∧vs=[]∧H l=some (.lst xs)∧Q .non (upd H l (.lst []))
theorem l_:MtM X "list.clear" rT:=by
 (try refine ⟨?_⟩); intro pins s σ H x vs v us Q I rx rv h
 obtain ⟨l,xs,rfl,rfl,hH,q⟩:=h
 cases rx
 have hus:=rv.zero
 subst hus
 obtain ⟨z,its,n,r,hl,e⟩:=I.lstM hH
 refine call_meets F.slot_list_clear ⟨_,e,rfl⟩ F.entry_list_clear (F.args_list_clear_1 _) (AutoSeq1.list_clear_list_0 l its.toArray n (by rw [List.size_toArray]; omega)) ⟨e,?_⟩
 exact ⟨.non,_,I.lset (its':=[]) (ys:=[]) hH e rfl .nil (Nat.zero_le _),rfl,q⟩
def rCat:R2:=fun x y H Q=>∃ l b xs zs,x = .ref l∧y = .ref b∧H l=some (.lst xs)∧H b=some (.lst zs)∧xs.length + zs.length≤sizeLine∧∀ p,H p=none→Q (.ref p) (upd H p (.lst (xs++zs)))
theorem rh:OpR X (binaryOp .Add) rCat:=by
 (try refine ⟨?_⟩); intro pins s σ H x y v u Q I rx ry h
 obtain ⟨l,b,xs,zs,rfl,rfl,hH,hB,hz,q⟩:=h
 cases rx
 cases ry
 obtain ⟨z,its,n,r,hl,e⟩:=I.lstM hH
 obtain ⟨z2,its2,n2,r2,hl2,e2⟩:=I.lstM hB
 refine PySem.P.add_list e e2 ?_ (by rw [List.size_toArray,List.size_toArray]; omega)
 have ea:its.toArray++its2.toArray=(its++its2).toArray:=by simp
 rw [ea]
 exact ⟨.ref _,_,I.lnew (t':=s.toks) (r.append r2) (by rw [List.length_append]; omega),rfl,q _ I.fresh⟩
def rRep:R2:=fun x y H Q=>∃ l k xs,x = .ref l∧y = .int k∧H l=some (.lst xs)∧-(2 ^ 63)≤k∧k<2 ^ 63∧xs.length * k.toNat≤sizeLine ∧
 ∀ p,H p=none→Q (.ref p) (upd H p (.lst (List.replicate k.toNat xs).flatten))
theorem qa {α:Type} (xs:List α) (k:Nat):(List.replicate k xs).flatten.length=k * xs.length:=by
 induction k with
 | zero=>simp
 | succ k ih=>rw [List.replicate_succ,List.flatten_cons,List.length_append,ih,Nat.succ_mul,Nat.add_comm]
theorem nJ:OpR X (binaryOp .Mult) rRep:=by
 (try refine ⟨?_⟩); intro pins s σ H x y v u Q I rx ry h
 obtain ⟨l,k,xs,rfl,rfl,hH,h1,h2,hz,q⟩:=h
 cases rx
 obtain ⟨t,rfl⟩:=ry
 obtain ⟨z,its,n,r,hl,e⟩:=I.lstM hH
 have hlen:its.toArray.size * k.toNat≤sizeLine:=by rw [List.size_toArray,← hl]; exact hz
 have hcap : ¬ its.toArray.size * k.toNat > (2 ^ 63 - 1) / 8:=by
  have:(sizeLine:Nat)≤(2 ^ 63 - 1) / 8:=by decide
  omega
 have hfit : ¬ (!Builtin.List.listFitsIndex k)=true:=by
  rw [fitsIndex_both h1 h2]
  exact Bool.false_ne_true
 have hlong : ¬ Builtin.List.listTooLong (its.toArray.size * k.toNat)=true:=by
  rw [jh hlen]
  exact Bool.false_ne_true
 have hnew:List.foldl (fun x1 x2=>x1++x2) #[] (List.replicate (if its.toArray.isEmpty=true then 0 else k.toNat) its.toArray)=(List.replicate k.toNat its).flatten.toArray:=by
  have f0:∀ m:Nat,List.foldl (fun x1 x2=>x1++x2) #[] (List.replicate m its.toArray)=(List.replicate m its).flatten.toArray:=fun m=>by
   have:=gW its m []
   rw [List.nil_append] at this
   exact this
  rw [f0]
  cases its with
  | nil=>simp
  | cons a r'=>rw [if_neg (by simp)]
 refine wpAny_binaryOp_repeat_ref (T:="list") (U:="int") (by decide) ⟨_,e,rfl⟩ (fun s'=>typeIs_int s' k t) noFill_list_mul F.fills_int_mul F.slot_int_rmul repeat_list F.slot_int_index.lookup
  (call_meets F.slot_int_rmul (typeIs_int s k t) F.entry_int_rmul (F.args_int_rmul_2 _ _) (int___rmul___int_list k t l its.toArray n)
   ⟨e,rfl,⟨_,e,rfl⟩,call_meets F.slot_list_mul ⟨_,e,rfl⟩ F.entry_list_mul (F.args_list_mul_2 _ _) (AutoListH.list___mul___list_int_3 l its.toArray n k t hfit hcap hlong) ⟨e,?_⟩⟩)
 rw [hnew]
 exact ⟨.ref _,_,I.lnew (t':=s.toks) (r.rep k.toNat) (by rw [qa,Nat.mul_comm]; exact hz),rfl,q _ I.fresh⟩
end
section
variable {prog:Program} {w:World} {A:Around} {E:Value→Shared→Prop} {s:Shared}
end
section
variable {X:Cx}
end
end L2
namespace Att
open PySem PySem.W PySem.Calls PyProof.Rows
theorem fw {P:Params} {h:Heap}:∀ (ns:List Int) (vs:List Value),WellAll P h vs (ns.map WData.int)→IntsAre vs ns:=by
 intro ns
 induction ns with
 | nil =>
  intro vs w
  rw [List.map_nil] at w
  cases w
  exact .nil
 | cons n ns ih =>
  intro vs w
  rw [List.map_cons] at w
  cases w with
  | cons a b =>
   cases a
   exact .cons _ _ (ih _ b)
theorem lA {l:OpenLaw} {n:Nat} (hn:l.most=some n) {P:Params} {h:Heap} {args:List WData} {vals:List Value}
 (hpre:l.row.toRowW.claim.pre args=true) (hwl:WellAll P h vals args) :
 ∃ a vs ns,vals=[Value.ref a]∧args=[WData.list (ns.map WData.int)]∧h.get? a=some { cls:=.type "list",data:=.seq vs.toArray }∧IntsAre vs ns∧ns.length≤n:=by
 have hsh:WShape.hasAll [] args [.list .int]=true:=(pre_splitW hpre).1
 have hc:l.pre.holds [] { args:=args } = true:=(pre_splitW hpre).2
 obtain ⟨d,r,rfl,h1,h2⟩:=hasAllW_cons hsh
 obtain rfl:=hasAllW_nil h2
 obtain ⟨xs,rfl,h3⟩:=hasW_list h1
 obtain ⟨ns,rfl⟩:=items_int h3
 have hlen:ns.length≤n:=by
  unfold OpenLaw.pre at hc
  have h4:(WTm.not (.lt (.lit (.int (n:Int))) (.len (.arg 0)))).holds [] { args:=[.list (ns.map .int)] } = true:=by
   have h4:=(holds_andW hc).1
   rw [hn] at h4
   exact h4
  have h5:=condW_of h4 (w_not (w_lt w_lit (w_len_list (w_arg rfl))))
  rw [List.length_map] at h5
  refine Nat.le_of_not_lt fun q=>?_
  have q':(n:Int)<((ns.length:Nat):Int):=by omega
  first
   | (rw [decide_eq_true q'] at h5; exact absurd h5 (by decide))
   | (simp at h5; omega)
 cases hwl with
 | cons w1 w2 =>
  cases w2
  cases w1 with
  | list ho hall=>exact ⟨_,_,ns,rfl,rfl,ho,fw ns _ hall,hlen⟩
theorem ll (l:OpenLaw) (args:List WData):l.row.toRowW.claim.post args (.bool true) args=true :=
 postW_of (r:=l.row.toRowW) (X:=(true == true))
  (show WShape.has [] (.bool true) .bool=true by first | rfl | decide | simp [WShape.has,WShape.arms,WShape.armsAll])
  (show (WTm.eq .res (.lit (.bool true))).value [] { args:=args,res:=some (.bool true),after:=args } = some (.bool (true == true)) from w_eq_bool (w_res rfl) w_lit) rfl
theorem attach_call {l:OpenLaw} {n:Nat} {q:Program} {loose:List Str} {XP:(Str→Option Value)→Heap→Prop} {YP:World→Heap→Prop} {d:DefRec}
 (hn:l.most=some n) (hdf:d.params.defaults=[])
 (call:∀ (w:World) (s₀ s₁:Shared) (mg mb:Str→Option Value) (fa:Addr) (o:Obj) (pm cd doc:Value) (a:Addr) (vs:List Value) (ns:List Int),
  Ground q loose [] XP w s₀ mg mb s₁.heap→YP w s₁.heap →
  s₁.heap.get? fa=some o→o.data = .func (docDef d.name d.params d.body d.scope pm cd doc)→s₁.heap.CodeRec cd d.name→mg d.name=some (.ref fa) →
  s₁.heap.get? a=some { cls:=.type "list",data:=.seq vs.toArray }→IntsAre vs ns→ns.length≤n→s₁.gens = #[] →
  codeAny (model l.prog w) callerA (.call (.ref fa) ⟨[.ref a],[]⟩) (fun r s'=>r = .ok (.ret (.bool true))∧OldK s₁.heap s'.heap∧s'.os=s₁.os∧AllBare s'.gens) s₁) :
 WalkO q loose XP YP l.row.toRowW d [] (fun f vs=>PySem.call f vs):=by
 intro w s₀ s₁ mg mb G Y fa o pm cd doc dV kV ho hd hcd hD hmg hg args vals as hpre hlay hrd hwl hlo
 obtain rfl:dV = .none:=Dflts.none hD hdf
 obtain rfl:kV = .none:=Dflts.noKw hD
 obtain ⟨a,vs,ns,rfl,rfl,hobj,hints,hlen⟩:=lA hn hpre hwl
 refine enter_call (codeAny_mono (call w s₀ s₁ mg mb fa o pm cd doc a vs ns G Y ho (fd_plain hd) hcd hmg hobj hints hlen hg) fun r s' hq=>?_)
 obtain ⟨rfl,h2,h3,h4⟩:=hq
 exact ⟨.inl ⟨.bool true,.bool true,[],rfl,fun _=>rfl,.bool true,ll l _,fun _=>⟨List.Pairwise.nil,fun _ hm=>(nomatch hm)⟩⟩,h2,h3,h4⟩
section
variable {prog:Program} {w:World} {A:Around} {E:Value→Shared→Prop} {s:Shared} {K:Frag}
end
end Att
namespace L2
open PySem PySem.Spec PyProof.Rows
theorem g7:∀ {vs:List Value} {ns:List Int},IntsAre vs ns→aO (ns.map V.int) vs
 | _,_,.nil=>.nil
 | _,_,.cons n t h=>.cons ⟨t,rfl⟩ (g7 h)
def Only (H:Hp):Prop:=∀ b,H b=none∨∃ o xs,H b=some (.frz o (.lst xs))
theorem o7 {P:Program} {w:World} {K:PySem.W.Frag} {mg mb:Str→Option Value} {CX:CXT} {k:Nat} {fa a:Addr} {fd:FuncData} {x:Str} {sp:Sp} {s₁:Shared} {vs:List Value} {ns:List Int}
 (KX:K.In s₁.heap) (hns:s₁.heap.Ns mainGlobals mg) (hb:s₁.heap.Ns builtinsNs mb) (hbb:∀ x:Str,x ≠ "__name__" → mb x=bootBuiltins x) (hlim:s₁.heap.NoLimit) (hg:s₁.gens = #[])
 (ha:s₁.heap.get? a=some { cls:=.type "list",data:=.seq vs.toArray }) (hi:IntsAre vs ns) (hl:ns.length≤sizeLine) (hr:Room k callerA)
 (F:∀ base:Heap,K.In base→base.Ns mainGlobals mg→FnOk P w K mg base CX k fa fd [x] sp) (hbind:∀ (s:Shared) (u:Value),BindsTo s fd ⟨[u],[]⟩ [(x,u)])
 (hsp:∀ H:Hp,Only H→SqL K H a (ns.map V.int)→sp [.ref a] H (fun v _=>v = .bl true) fun _ _ _=>False)
 (hCX:∀ H e s',CX [] H s₁ (fun _ _ _=>False) e s'→False) :
 codeAny (model P w) callerA (.call (.ref fa) ⟨[.ref a],[]⟩) (fun r s'=>r = .ok (.ret (.bool true))∧OldK s₁.heap s'.heap∧s'.os=s₁.os∧AllBare s'.gens) s₁:=by
 have rv:=g7 hi
 have lenV:=hi.length
 -- from an abstract heap in which nothing but the script may be tracked
 have core:∀ H:Hp,Only H→SqL K H a (ns.map V.int)→HOk P w H s₁.heap→(∀ b,H b≠none→b=a)→(H a≠none→K.lookup a=none) →
  codeAny (model P w) callerA (.call (.ref fa) ⟨[.ref a],[]⟩) (fun r s'=>r = .ok (.ret (.bool true))∧OldK s₁.heap s'.heap∧s'.os=s₁.os∧AllBare s'.gens) s₁:=by
  intro H hO hS hok hA hK
  have base_of:∀ {b:Addr} {o:Obj},s₁.heap.get? b=some o→H b=none→(eC s₁.heap H).get? b=some o:=fun e n=>mD e n
  have noA:∀ {b:Addr} {o:Obj} {es:Array DictEntry} {ep:Nat},s₁.heap.get? b=some o→o.data = .dict es ep→H b=none:=fun {b o es ep} e d=>by
   cases q:H b with
   | none=>rfl
   | some u =>
    have e':b=a:=hA b (by rw [q]; simp)
    subst e'
    rw [ha] at e; cases e
    have d':Data.seq vs.toArray _=Data.dict es ep:=d
    cases d'
  have nsK:∀ {b:Addr} {m:Str→Option Value},s₁.heap.Ns b m→(eC s₁.heap H).Ns b m:=fun {b m} ⟨o,es,ep,e,d,r⟩=>⟨o,es,ep,base_of e (noA e d),d,r⟩
  have hKb:K.In (eC s₁.heap H):=fun b o e=>base_of (KX b o e) (by
   cases q:H b with
   | none=>rfl
   | some u =>
    have e':b=a:=hA b (by rw [q]; simp)
    subst e'
    rw [hK (by rw [q]; simp)] at e; cases e)
  have hM:Mod K mg (eC s₁.heap H):=⟨hKb,nsK hns,⟨mb,nsK hb,hbb⟩,let ⟨mc,h1,h2⟩:=hlim; ⟨mc,nsK h1,h2⟩⟩
  have e0:Env0 P w K mg (eC s₁.heap H) callerA [] s₁ H:=⟨rfl,hM,fun b o e=>pD e,Nat.le_of_eq (eW _ _),trivial,fun b hb=>absurd (show b∈([]:List Addr) from hb) (by simp),hok,.of_eq hg,TbM.hid⟩
  refine codeAny_mono ((F _ hKb (nsK hns)).run callerA [] s₁ H ⟨[.ref a],[]⟩ [.ref a] [.ref a] _ _ hr e0 (hbind s₁ (.ref a)) (.cons rfl .nil) (hsp H hO hS)) fun r s' h=>?_
  cases r with
  | error e=>exact (hCX H e s' h).elim
  | ok fl =>
   cases fl with
   | next=>exact False.elim h
   | brk=>exact False.elim h
   | cont=>exact False.elim h
   | ret u =>
    obtain ⟨v,H',os,bare,un,hok',r',q⟩:=h
    have q':v = .bl true:=q
    subst q'
    obtain rfl:u=Value.bool true:=r'
    refine ⟨rfl,OldK.of_keep fun b o e=>?_,os,bare⟩
    cases q:H b with
    | none=>exact un.keep b o e q (by intro z; exact absurd (show b∈([]:List Addr) from z) (by simp)) (by simp)
    | some u =>
     rcases hO b with z | ⟨ob,xs,z⟩
     ·rw [q] at z; cases z
     ·have z2:=un.frzs b ob _ z
      obtain ⟨e1,_⟩:=hok b _ z
      obtain ⟨e2,_⟩:=hok' b _ z2
      rw [e] at e1; cases e1
      exact e2
 cases hk:K.lookup a with
 | some o =>
  -- the script is one of the module's own objects
  have e:=KX a o hk
  rw [ha] at e
  cases e
  refine core (fun _=>none) (fun _=>.inl rfl) (.inr ⟨_,vs.toArray,_,hk,rfl,rfl,rfl,by rw [List.size_toArray,lenV]; exact hl,by simpa using rv⟩) (fun b u z=>by have z':(none:Option HO)=some u:=z; cases z') (fun b z=>absurd rfl z) fun z=>absurd rfl z
 | none =>
  refine core (fun b=>if b=a then some (.frz { cls:=.type "list",data:=.seq vs.toArray } (.lst (ns.map V.int))) else none) (fun b=>?_) (.inl (.inr ⟨{ cls:=.type "list",data:=.seq vs.toArray },if_pos rfl⟩)) (fun b u z=>?_) (fun b z=>?_) fun _=>hk
  ·by_cases hb:b=a
   ·exact .inr ⟨_,_,if_pos hb⟩
   ·exact .inl (if_neg hb)
  ·by_cases hb:b=a
   ·have z':=(if_pos hb).symm.trans z
    cases z'
    subst hb
    exact ⟨ha,by rw [List.length_map]; exact hl,vs,_,rv,ha⟩
   ·have z':=(if_neg hb).symm.trans z
    cases z'
  ·by_cases hb:b=a
   ·exact hb
   ·exact absurd (if_neg hb) z
theorem pQ {l:PySem.W.OpenLaw} {n k:Nat} {q:Program} {loose:List Str} {XP:(Str→Option Value)→Heap→Prop} {YP:World→Heap→Prop} {d:DefRec} {K:Params→PySem.W.Frag} {CX:World→CXT} {sp:World→Sp} {x:Str}
 (hn:l.most=some n) (hn2:n≤sizeLine) (hdf:d.params.defaults=[]) (hr:Room k callerA)
 (hY:∀ (w:World) (h:Heap),YP w h→(K w.params).In h)
 (F:∀ (w:World) (mg:Str→Option Value) (fa:Addr) (h:Heap),(K w.params).In h→h.Ns mainGlobals mg→mg d.name=some (.ref fa) →
  ∃ fd:FuncData,(∀ (s:Shared) (u:Value),BindsTo s fd ⟨[u],[]⟩ [(x,u)]) ∧
   ∀ base:Heap,(K w.params).In base→base.Ns mainGlobals mg→FnOk l.prog w (K w.params) mg base (CX w) k fa fd [x] (sp w))
 (hsp:∀ (w:World) (H:Hp) (a:Addr) (ns:List Int),ns.length≤n→Only H→SqL (K w.params) H a (ns.map V.int)→sp w [.ref a] H (fun v _=>v = .bl true) fun _ _ _=>False)
 (hCX:∀ (w:World) (H:Hp) (s:Shared) (e:Value) (s':Shared),CX w [] H s (fun _ _ _=>False) e s'→False) :
 PySem.W.WalkO q loose XP YP l.row.toRowW d [] (fun f vs=>PySem.call f vs):=by
 refine Att.attach_call hn hdf fun w s₀ s₁ mg mb fa o pm cd doc a vs ns G Y ho hd hcd hmg hobj hints hlen hg=>?_
 have KX:=hY w _ Y
 obtain ⟨fd,hb,hF⟩:=F w mg fa _ KX G.T.g hmg
 exact o7 KX G.T.g G.T.b G.T.builtins G.T.nolimit hg hobj hints (Nat.le_trans hlen hn2) hr hF hb (fun H hO hS=>hsp w H a ns hlen hO hS) fun H e s'=>hCX w H s₁ e s'
end L2
/- THE LAST THEOREM (shape; LID,My.* are yours):
   My.Adr: a structure of the addresses that your layer names (classes,functions); My.Txt K t: a structure (Prop) of the equations over K;
   My.txt_mk : {K} {implicit addresses ..} (e1:nsIn K mainGlobals "law" = some (some (.ref f))) (e2:K.lookup f=some ⟨oc,od,.func (fnOf "law" "law" params body scope dV kV doc pm an cdv ct),sl⟩) (e3:codeIn K cdv "law" = true) ..:∃ t,My.Txt K t
(the tactic k_is has no namespace: write k_is) -/
namespace L2
open PySem PySem.Spec PyProof.Rows
def bH (s:Stmt) (j:Nat):Stmt:=match s with
 | .ClassDef _ _ _ body _ _ _ _ _ _ _=>body.getD j (.Pass ⟨0,0,0,0⟩)
 | _=>.Pass ⟨0,0,0,0⟩
def dg (s:Stmt):Arguments:=match s with
 | .FunctionDef _ a _ _ _ _ _ _ _ _=>a
 | _=>{ posonlyargs:=[],args:=[],vararg:=none,kwonlyargs:=[],kw_defaults:=[],kwarg:=none,defaults:=[] }
def bI (s:Stmt):List Stmt:=match s with
 | .FunctionDef _ _ b _ _ _ _ _ _ _=>b
 | _=>[]
def ag (s:Stmt):Scope:=match s with
 | .FunctionDef _ _ _ _ _ _ sc _ _ _=>sc
 | _=>{ kind:=.function,names:=[],isGenerator:=false,isCoroutine:=false }
abbrev CX0:CXT:=fun _ _ _ _ _ _=>False
abbrev E0:XK:=fun _ _ _=>False
theorem qQ {X:Cx}:jD CX0 X E0:=fun _ _ _ _ _ _ _ h=>h.elim
structure Fun (K:PySem.W.Frag) (x qual:Str) (st:Stmt) (f:Addr) (fd:FuncData):Prop where
 ex:∃ (oc:Value) (od:Option Addr) (kV doc pm:Value) (an:Option Addr) (cdv ct:Value) (osl:Array (Option Value)),
  fd=PySem.W.fnOf x qual (dg st) (bI st) (ag st) .none kV doc pm an cdv ct∧K.lookup f=some ⟨oc,od,.func fd,osl⟩∧PySem.W.codeIn K cdv qual=true
 kp:PySem.W.keepIn K (.ref f)=true
section
variable {P:Program} {w:World} {K:PySem.W.Frag} {mg:Str→Option Value} {base:Heap}
theorem Fun.ok {x qual:Str} {st:Stmt} {f:Addr} {fd:FuncData} {N ps:List Str} {k:Nat} {sp:Sp} (F:Fun K x qual st f fd) (S:FnScope N ps (ag st)) (len:∀ vs H Q E,sp vs H Q E→vs.length=ps.length)
 (hbody:∀ (cdv:Value) (A:Around) (outer:List Env) (s:Shared) (H:Hp) (vs:List V) (Q:VK) (E:XK),Room k (A.deeper (envOfC qual (ag st) s.heap.objs.size f cdv))→sp vs H Q E →
  ∃ t,PSs (gt CX0 P w K mg base N qual (ag st) f cdv A outer s H E).nox (bI st) t∧t { nx:=fun _ H'=>Q .non H',rt:=Q } (cw N vs) H):FnOk P w K mg base CX0 (k + 1) f fd ps sp:=by
 obtain ⟨oc,od,kV,doc,pm,an,cdv,ct,osl,rfl,lk,hcd⟩:=F.ex
 refine qL lk hcd S len fun A outer s H vs Q E hr hsp=>?_
 obtain ⟨t,h,q⟩:=hbody cdv A outer s H vs Q E hr hsp
 exact ⟨t,h.nox,q⟩
theorem Fun.binds {x qual:Str} {st:Stmt} {f:Addr} {fd:FuncData} {ps:List Str} (F:Fun K x qual st f fd)
 (h:∀ (kV doc pm:Value) (an:Option Addr) (cdv ct:Value) (us:List Value),us.length=ps.length→bindArgs (PySem.W.fnOf x qual (dg st) (bI st) (ag st) .none kV doc pm an cdv ct) ⟨us,[]⟩=pure (ps.zip us)):bS K fd ps []:=by
 obtain ⟨oc,od,kV,doc,pm,an,cdv,ct,osl,rfl,lk,hcd⟩:=F.ex
 exact .all (h kV doc pm an cdv ct)
theorem f7 {x qual:Str} {st:Stmt} {f:Addr} {oc:Value} {od an:Option Addr} {osl:Array (Option Value)} {kV doc pm cdv ct:Value} (l:K.lookup f=some ⟨oc,od,.func (PySem.W.fnOf x qual (dg st) (bI st) (ag st) .none kV doc pm an cdv ct),osl⟩)
 (c:PySem.W.codeIn K cdv qual=true) (k:PySem.W.keepIn K (.ref f)=true):Fun K x qual st f (PySem.W.fnOf x qual (dg st) (bI st) (ag st) .none kV doc pm an cdv ct):=⟨⟨oc,od,kV,doc,pm,an,cdv,ct,osl,rfl,l,c⟩,k⟩
end
theorem de {n:Nat} (h:n≤1000):n<sizeLine:=Nat.lt_of_le_of_lt h (by decide)
section
variable {X:Cx}
theorem pv (i:Nat) {x:Str} {pos:Pos} (hN:X.N[i]? = some x:=by rfl) (hv:Vis X.env.scope x:=by first | exact Or.inl rfl | exact Or.inr (Or.inl rfl) | exact Or.inr (Or.inr rfl)) (hd:(x == ("__debug__":Str))=false:=by decide)
 (hcd:(x == ("__classdict__":Str))=false:=by decide):PE X (.Name x pos) (tVar i):=dX hN hv hd hcd
end
theorem eG {c A B:Prop} [Decidable c] (h1:c→A) (h2 : ¬ c→B):if c then A else B:=by
 by_cases h:c
 ·rw [if_pos h]
  exact h1 h
 ·rw [if_neg h]
  exact h2 h
def aD (H H':Hp):Prop:=∀ b o,H b=some o→H' b=some o
theorem aD.refl (H:Hp):aD H H:=fun _ _ h=>h
theorem aD.trans {H H1 H2:Hp} (a:aD H H1) (b:aD H1 H2):aD H H2:=fun c o h=>b c o (a c o h)
inductive D where
 | non | bl (b:Bool) | int (i:Int) | str (x:Str) | tup (ds:List D) | lst (ds:List D) | dct | dic (ks:List Key) (ds:List D) | obj (C:Addr) (ks:List Str) (ds:List D) | scr (φ:Addr→Prop) (ns:List Int) | ext (φ:Hp→Addr→Prop)
mutual
def Rep (H:Hp):D→V→Prop
 | .non,v=>v = .non
 | .bl b,v=>v = .bl b
 | .int i,v=>v = .int i
 | .str x,v=>v = .str x
 | .tup ds,v=>∃ a xs,v = .ref a∧H a=some (.tup xs)∧Reps H ds xs
 | .lst ds,v=>∃ a xs,v = .ref a∧H a=some (.lst xs)∧Reps H ds xs
 | .dct,v=>∃ a kvs,v = .ref a∧H a=some (.dK kvs)
 | .dic ks ds,v=>∃ a xs,v = .ref a∧H a=some (.dK (ks.zip xs))∧ks.length=ds.length∧Reps H ds xs
 | .obj C ks ds,v=>∃ a dx xs,v = .ref a∧H a=some (.ins C dx (ks.zip xs))∧ks.length=ds.length∧Reps H ds xs
 | .scr φ ns,v=>∃ a,v = .ref a∧((∃ o,H a=some (.frz o (.lst (ns.map V.int))))∨φ a)
 | .ext φ,v=>∃ a H0,v = .ref a∧aD H0 H∧φ H0 a
def Reps (H:Hp):List D→List V→Prop
 | [],xs=>xs=[]
 | d :: ds,xs=>∃ v vs,xs=v :: vs∧Rep H d v∧Reps H ds vs
end
theorem Reps.length {H:Hp}:∀ {ds:List D} {xs:List V},Reps H ds xs→xs.length=ds.length
 | [],xs,h=>by rw [Reps] at h; subst h; rfl
 | d :: ds,xs,h=>by
  rw [Reps] at h
  obtain ⟨v,vs,rfl,_,h2⟩:=h
  have:=Reps.length h2
  simp [this]
mutual
theorem Rep.mono {H H':Hp} (e:aD H H'):∀ (d:D) (v:V),Rep H d v→Rep H' d v
 | .non,v,h=>by rw [Rep] at *; exact h
 | .bl b,v,h=>by rw [Rep] at *; exact h
 | .int i,v,h=>by rw [Rep] at *; exact h
 | .str x,v,h=>by rw [Rep] at *; exact h
 | .tup ds,v,h=>by
  rw [Rep] at *
  obtain ⟨a,xs,h1,h2,h3⟩:=h
  exact ⟨a,xs,h1,e _ _ h2,Reps.mono e ds xs h3⟩
 | .lst ds,v,h=>by
  rw [Rep] at *
  obtain ⟨a,xs,h1,h2,h3⟩:=h
  exact ⟨a,xs,h1,e _ _ h2,Reps.mono e ds xs h3⟩
 | .dct,v,h=>by
  rw [Rep] at *
  obtain ⟨a,kvs,h1,h2⟩:=h
  exact ⟨a,kvs,h1,e _ _ h2⟩
 | .dic ks ds,v,h=>by
  rw [Rep] at *
  obtain ⟨a,xs,h1,h2,h3,h4⟩:=h
  exact ⟨a,xs,h1,e _ _ h2,h3,Reps.mono e ds xs h4⟩
 | .obj C ks ds,v,h=>by
  rw [Rep] at *
  obtain ⟨a,dx,xs,h1,h2,h3,h4⟩:=h
  exact ⟨a,dx,xs,h1,e _ _ h2,h3,Reps.mono e ds xs h4⟩
 | .scr φ ns,v,h=>by
  rw [Rep] at *
  obtain ⟨a,h1,h2⟩:=h
  refine ⟨a,h1,?_⟩
  rcases h2 with ⟨o,h2⟩ | h2
  ·exact .inl ⟨o,e _ _ h2⟩
  ·exact .inr h2
 | .ext φ,v,h=>by
  rw [Rep] at *
  obtain ⟨a,H0,h1,h2,h3⟩:=h
  exact ⟨a,H0,h1,fun b o q=>e _ _ (h2 b o q),h3⟩
theorem Reps.mono {H H':Hp} (e:aD H H'):∀ (ds:List D) (xs:List V),Reps H ds xs→Reps H' ds xs
 | [],xs,h=>by rw [Reps] at *; exact h
 | d :: ds,xs,h=>by
  rw [Reps] at *
  obtain ⟨v,vs,h1,h2,h3⟩:=h
  exact ⟨v,vs,h1,Rep.mono e d v h2,Reps.mono e ds vs h3⟩
end
def D.ty:D→String
 | .non => "NoneType" | .bl _ => "bool" | .int _ => "int" | .str _ => "str" | .tup _ => "tuple" | .lst _ => "list" | .dct => "dict" | .dic _ _ => "dict" | .obj _ _ _ => "object" | .scr _ _ => "list" | .ext _ => "object"
def D.isS:D→Bool
 | .scr _ _=>true
 | .ext _=>true
 | .obj _ _ _=>true
 | _=>false
theorem Rep.ty {K:PySem.W.Frag} {H:Hp} {d:D} {v:V} (h:Rep H d v) (hs:d.isS=false):TyOf K H v (.type d.ty):=by
 cases d with
 | non=>rw [Rep] at h; subst h; exact .non
 | bl b=>rw [Rep] at h; subst h; exact .bl b
 | int i=>rw [Rep] at h; subst h; exact .int i
 | str x=>rw [Rep] at h; subst h; exact .str x
 | tup ds=>rw [Rep] at h; obtain ⟨a,xs,rfl,h2,_⟩:=h; exact .tup h2
 | lst ds=>rw [Rep] at h; obtain ⟨a,xs,rfl,h2,_⟩:=h; exact .lst h2
 | dct=>rw [Rep] at h; obtain ⟨a,kvs,rfl,h2⟩:=h; exact .dK h2
 | dic ks ds=>rw [Rep] at h; obtain ⟨a,xs,rfl,h2,_⟩:=h; exact .dK h2
 | scr φ ns=>cases hs
 | ext φ=>cases hs
 | obj C ks ds=>cases hs
theorem d6 {H:Hp}:∀ {ds:List D} {xs:List V} {r:Nat},Reps H ds xs→r<ds.length→∃ v d,xs[r]? = some v∧ds[r]? = some d∧Rep H d v
 | [],_,_,_,h=>absurd h (Nat.not_lt_zero _)
 | d :: ds,xs,0,h,_=>by obtain ⟨v,vs,rfl,h1,_⟩:=h; exact ⟨v,d,rfl,rfl,h1⟩
 | d :: ds,xs,r + 1,h,hl=>by
  obtain ⟨v,vs,rfl,_,h2⟩:=h
  obtain ⟨v',d',e1,e2,e3⟩:=d6 (r:=r) h2 (by simpa using hl)
  exact ⟨v',d',by simpa using e1,by simpa using e2,e3⟩
theorem kl {H:Hp} {a:Addr} {xs:List V} {ds:List D} (h:H a=some (.tup xs)) (r:Reps H ds xs):Rep H (.tup ds) (.ref a):=by rw [Rep]; exact ⟨a,xs,rfl,h,r⟩
theorem fP {H:Hp} {a:Addr} {xs:List V} {ds:List D} (h:H a=some (.lst xs)) (r:Reps H ds xs):Rep H (.lst ds) (.ref a):=by rw [Rep]; exact ⟨a,xs,rfl,h,r⟩
theorem bp {H:Hp}:Reps H [] []:=by rw [Reps]
theorem bq {H:Hp} {d:D} {v:V} {ds:List D} {vs:List V} (h:Rep H d v) (r:Reps H ds vs):Reps H (d :: ds) (v :: vs):=by rw [Reps]; exact ⟨v,vs,rfl,h,r⟩
theorem bD {H:Hp} (i:Int):Rep H (.int i) (.int i):=by rw [Rep]
theorem bY {H:Hp} (i:Bool):Rep H (.bl i) (.bl i):=by rw [Rep]
theorem qA {H:Hp} (i:Str):Rep H (.str i) (.str i):=by rw [Rep]
theorem fL {H:Hp}:Rep H .non .non:=by rw [Rep]
theorem nX {H:Hp} {p:Addr} (h:H p=none) (o:HO):aD H (upd H p o):=fun b u q=>by rw [ah (ay q h)]; exact q
section
variable {X:Cx}
def lv (d:D) (T:String):Option Bool:=if d.isS=true then none else if (Value.type d.ty == Value.type T)=true then some true else if PySem.W.kitMeta T=true then (fastBuiltinMro d.ty).map (·.contains (.type T)) else none
theorem lW (K:PySem.W.Frag) (d:D) (T:String) (hs:d.isS=false):PySem.W.kitOne K (.type d.ty) (.type T)=lv d T:=by
 unfold lv; rw [hs,if_neg (by decide)]; rfl
def rIsI:List V→Hp→VK→Prop:=fun xs H Q=>∃ x T d b,xs=[x,.ty T]∧Rep H d x∧lv d T=some b∧Q (.bl b) H
theorem iY:dC X (.builtin "isinstance") rIsI:=by
 intro pins s σ H xs us Q I r h
 obtain ⟨x,T,d,b,rfl,hd,e,q⟩:=h
 obtain ⟨u,w',rfl,ru,rw'⟩:=gZ r
 cases (show w'=Value.type T from rw')
 have hs:d.isS=false:=by
  cases z:d.isS with
  | false=>rfl
  | true=>unfold lv at e; rw [z,if_pos rfl] at e; cases e
 rw [← lW X.K d T hs] at e
 exact gS I ru (hd.ty hs) e fun tk=>⟨.bl b,H,I.tok tk,rfl,q⟩
def Sm (i:Int):Prop:=i.natAbs<2 ^ 8000
theorem Sm.log {i:Int} (h:Sm i):i.natAbs.log2<8000:=by
 by_cases h0:i.natAbs=0
 ·rw [h0]; decide
 ·exact (Nat.log2_lt h0).mpr h
def CDivB (i j:Int):Prop:=0<j∧Sm j
theorem o6:OpR X (binaryOp .FloorDiv) (rI CDivB fun i j=>.int (i / j)):=opI fun i j _ _ _ _ _ hc q=>by
 refine floordiv_int (Int.ne_of_gt hc.1) ?_ (.inl (PyProof.noPylong_of_log2 (Nat.lt_of_lt_of_le hc.2.log (by decide))))
 rw [Int.fdiv_eq_ediv_of_nonneg _ (Int.le_of_lt hc.1)]
 exact q
end
theorem bi:bootBuiltins "len" = some (.builtin "len"):=by decide +kernel
theorem jQ:bootBuiltins "max" = some (.builtin "max"):=by decide +kernel
theorem iN:bootBuiltins "min" = some (.builtin "min"):=by decide +kernel
theorem aA:bootBuiltins "isinstance" = some (.builtin "isinstance"):=by decide +kernel
theorem s8:bootBuiltins "int" = some (.type "int"):=by decide +kernel
theorem ph:bootBuiltins "bool" = some (.type "bool"):=by decide +kernel
theorem dY:bootBuiltins "tuple" = some (.type "tuple"):=by decide +kernel
theorem br:bootBuiltins "list" = some (.type "list"):=by decide +kernel
theorem rH:bootBuiltins "str" = some (.type "str"):=by decide +kernel
theorem iA:bootBuiltins "enumerate" = some (.type "enumerate"):=by decide +kernel
section
variable {X:Cx} {pins:List (Addr×Obj)} {σ:St} {H:Hp} {s:Shared} {pos:Pos}
end
end L2
namespace L2
open PySem
theorem b9 {i:Int} {n:Nat} (h:i.natAbs≤n) (hn:n<2 ^ 8000):Sm i:=Nat.lt_of_le_of_lt h hn
end L2
namespace L2
open PySem PySem.Spec PyProof.Rows
def CL (env:Env):List (Str×Addr)→Prop
 | []=>True
 | p :: r=>env.cells.lookup p.1=some p.2∧CL env r
theorem CL.get {env:Env}:∀ {cl:List (Str×Addr)},CL env cl→∀ {x:Str} {c:Addr},cl.lookup x=some c→env.cells.lookup x=some c
 | [],_,x,c,h=>by simp at h
 | (y,d) :: r,h,x,c,e=>by
  rw [List.lookup_cons] at e
  cases hx:x == y with
  | true =>
   rw [hx] at e
   have e1:x=y:=by simpa using hx
   have e2:d=c:=Option.some.inj e
   subst e1 e2
   exact h.1
  | false =>
   rw [hx] at e
   exact CL.get h.2 e
theorem dQ {env:Env}:∀ {names:List (Str×NameKind)} {x:Str} {k:NameKind},
 (names.map fun (n,k)=>if (k == NameKind.free&&env.scope.kind == .function&&env.kindOf n == some .cell) then (n,NameKind.cell) else (n,k)).lookup x=some k →
 ∃ k',names.lookup x=some k'∧(k'=k∨(k' = .free∧k = .cell))
 | [],x,k,h=>by simp at h
 | (n,kn) :: r,x,k,h=>by
  have ih:=@dQ env r x k
  by_cases hc:(kn == NameKind.free&&env.scope.kind == .function&&env.kindOf n == some .cell)=true
  ·have h':List.lookup x ((n,NameKind.cell) :: (r.map fun (n,k)=>if (k == NameKind.free&&env.scope.kind == .function&&env.kindOf n == some .cell) then (n,NameKind.cell) else (n,k)))=some k:=by
    rw [List.map_cons] at h
    simp only [hc,if_true] at h
    exact h
   rw [List.lookup_cons] at h' ⊢
   cases hx:x == n with
   | true =>
    rw [hx] at h'
    have:kn = .free:=by
     simp only [Bool.and_eq_true,beq_iff_eq] at hc
     exact hc.1.1
    exact ⟨kn,rfl,.inr ⟨this,(Option.some.inj h').symm⟩⟩
   | false=>rw [hx] at h'; exact ih h'
  ·have h':List.lookup x ((n,kn) :: (r.map fun (n,k)=>if (k == NameKind.free&&env.scope.kind == .function&&env.kindOf n == some .cell) then (n,NameKind.cell) else (n,k)))=some k:=by
    rw [List.map_cons] at h
    simp only [hc] at h
    exact h
   rw [List.lookup_cons] at h' ⊢
   cases hx:x == n with
   | true=>rw [hx] at h'; exact ⟨kn,rfl,.inl (Option.some.inj h')⟩
   | false=>rw [hx] at h'; exact ih h'
def bv (X:Cx) (scope:Scope) (cl:List (Str×Addr)) (N:List Str) (C:Addr) (s₀:Shared) (H₀:Hp) (ex:List Addr):Cx where
 prog:=X.prog
 w:=X.w
 K:=X.K
 mg:=X.mg
 base:=X.base
 A:=X.A
 N:=N
 s₀:=s₀
 H₀:=H₀
 env:=compEnvC scope cl C X.env
 outer:=X.stack
 stack:=X.stack
 ex:=ex
 fn:=fun _=>false
 calm:=X.calm
 pn:=[]
 xe:=fun _ _=>False
def okJ (X:Cx) (scope:Scope) (j:Nat):Bool:=match X.N[j]? with
 | some x=>(match X.env.scope.names.lookup x with | some .cell=>true | _=>false)&&(match scope.names.lookup x with | some .free=>true | _=>false)
 | none=>false
def bC (own:List Str) (js:List Nat) (σ:St):St:=own.map (fun _=>none)++js.map fun j=>(σ[j]?).getD none
def cR (X:Cx) (own:List Str) (js:List Nat):List Str:=own++js.map fun j=>(X.N[j]?).getD (Str.ofString "")
structure CompOk (X:Cx) (scope:Scope) (cl:List (Str×Addr)) (own:List Str) (js:List Nat):Prop where
 clos:closureFor scope X.env=pure cl
 kind:scope.kind = .function
 names:∀ x∈scope.names,x.2 = .local→scope.names.lookup x.1=some .local
 ncell:(scope.names.all fun y=>match y.2 with | .cell=>false | _=>true)=true
 has:(scope.names.all fun y=>match y.2 with | .free=>(cl.lookup y.1).isSome | _=>true)=true
 cells:CL X.env cl
 js:js.all (okJ X scope)=true
theorem CompOk.nc {X:Cx} {scope:Scope} {cl:List (Str×Addr)} {own:List Str} {js:List Nat} (c:CompOk X scope cl own js):∀ y∈scope.names,y.2≠.cell:=fun y hy e=>by
 have:=List.all_eq_true.mp c.ncell y hy
 rw [e] at this
 cases this
theorem CompOk.fr {X:Cx} {scope:Scope} {cl:List (Str×Addr)} {own:List Str} {js:List Nat} (c:CompOk X scope cl own js) {x:Str} (h:scope.names.lookup x=some .free):∃ d,cl.lookup x=some d:=by
 have:=List.all_eq_true.mp c.has (x,.free) (PySem.mem_of_lookup h)
 exact Option.isSome_iff_exists.mp this
section
variable {X:Cx} {pins:List (Addr×Obj)} {σ:St} {H:Hp} {s:Shared} {scope:Scope} {cl:List (Str×Addr)} {own:List Str} {js:List Nat}
theorem jV {h1:Heap} {C:Addr} {fp:List Addr} {t':Nat} (c:CompOk X scope cl own js) (I:Inv X pins σ H s) (hf:∀ b∈fp,e6 X pins H b) (hlt:∀ b∈fp,b<s.heap.objs.size)
 (hC:s.heap.objs.size≤C) (hk:∀ b o,s.heap.get? b=some o→h1.get? b=some o) (hn:h1.Ns C fun _=>none) :
 Inv (bv X scope cl (cR X own js) C s H fp) [] (bC own js σ) H { s with heap:=h1,toks:=t' }:=by
 have kindOfY:∀ x k,(bv X scope cl (cR X own js) C s H fp).env.kindOf x=some k→∃ k',scope.names.lookup x=some k'∧(k'=k∨(k' = .free∧k = .cell)):=fun x k e=>dQ (env:=X.env) (names:=scope.names) e
 refine ⟨⟨I.ok.mod,c.kind,I.ok.glob,I.ok.blt,hC,fun x y d h1 h2=>I.ok.inj x y d (c.cells.get h1) (c.cells.get h2),fun x hx=>?_,fun x d h=>(by cases h),I.ok.hd,I.ok.frames,.inl rfl,fun b hb=>⟨?_,fun x d e=>(hf b hb).2.2.2.2.1 x d (c.cells.get e)⟩,
  fun b o e=>I.bs b o e,Nat.le_trans I.ok.bsz I.sz,fun b o e hb=>?_,fun b hb z=>?_,I.stack,I.stkFree,I.ok.tb.un I.base⟩,rfl,I.bare,Un.kept hk,⟨_,hn,fun i x v e1 e2 e3=>?_⟩,fun x d e=>?_,I.hok.fresh hC,fun x d e=>I.freeC x d (c.cells.get e),fun p hp=>(by cases hp),I.hok.kept hk,?_⟩
 ·rcases hx with hx | hx
  ·obtain ⟨k',e1,e2⟩:=kindOfY x _ hx
   rcases e2 with e2 | ⟨e2,_⟩
   ·exact absurd e2 (c.nc _ (PySem.mem_of_lookup e1))
   ·subst e2; exact c.fr e1
  ·obtain ⟨k',e1,e2⟩:=kindOfY x _ hx
   rcases e2 with e2 | ⟨_,e2⟩
   ·subst e2; exact c.fr e1
   ·cases e2
 ·exact Nat.ne_of_lt (Nat.lt_of_lt_of_le (hlt b hb) hC)
 ·rcases (hf b hb).2.2.2.1 with z | z
  ·exact I.ok.noex b o e z
  ·exact absurd (Nat.lt_of_lt_of_le (Heap.lt_size e) (Nat.le_trans I.ok.bsz z)) (Nat.lt_irrefl _)
 ·rcases List.mem_cons.mp (I.stkSub b z) with q | q
  ·exact (hf b hb).2.1 q
  ·exact (hf b hb).2.2.1 q
 ·-- a name taken from the frame
  have e1:(cR X own js)[i]? = some x:=e1
  unfold cR at e1
  unfold bC at e2
  by_cases hi:i<own.length
  ·rw [List.getElem?_append_left (by simpa using hi),List.getElem?_map,List.getElem?_eq_getElem hi] at e2
   cases e2
  ·rw [List.getElem?_append_right (by simpa using Nat.not_lt.mp hi),List.getElem?_map,List.length_map] at e2
   rw [List.getElem?_append_right (Nat.not_lt.mp hi),List.getElem?_map] at e1
   cases ej:js[i - own.length]? with
   | none=>rw [ej] at e2; cases e2
   | some j =>
    rw [ej] at e1 e2
    have hj:=List.all_eq_true.mp c.js j (List.mem_of_getElem? ej)
    unfold okJ at hj
    have e1':(X.N[j]?).getD (Str.ofString "")=x:=Option.some.inj e1
    have e2':(σ[j]?).getD none=some v:=Option.some.inj e2
    cases en:X.N[j]? with
    | none=>rw [en] at hj; cases hj
    | some y =>
     rw [en] at hj e1'
     have e1'':y=x:=e1'
     subst e1''
     have hv : σ[j]? = some (some v):=by
      cases es : σ[j]? with
      | none=>rw [es] at e2'; cases e2'
      | some ov=>rw [es] at e2'; rw [show ov=some v from e2']
     dsimp only at hj
     rw [Bool.and_eq_true] at hj
     have k1:X.env.scope.names.lookup y=some .cell:=by
      have:=hj.1
      split at this
      ·assumption
      ·cases this
     have k2:scope.names.lookup y=some .free:=by
      have:=hj.2
      split at this
      ·assumption
      ·cases this
     obtain ⟨m,_,hl⟩:=I.loc
     obtain ⟨u,ru,l⟩:=hl j y v en hv (.inr (.inl k1))
     refine ⟨u,ru,?_⟩
     rcases l with ⟨l,_⟩ | ⟨_,d,ed,z⟩
     ·rw [show X.env.kindOf y=some .cell from k1] at l; cases l
     ·obtain ⟨d',ed'⟩:=c.fr k2
      have:=c.cells.get ed'
      rw [ed] at this
      cases this
      obtain ⟨o,ho,hd⟩:=z
      refine .inr ⟨?_,d,ed',⟨o,hk _ _ ho,hd⟩⟩
      have e3:(bv X scope cl (cR X own js) C s H fp).env.scope.names.lookup y=some .local∨(bv X scope cl (cR X own js) C s H fp).env.scope.names.lookup y=some .cell∨(bv X scope cl (cR X own js) C s H fp).env.scope.names.lookup y=some .free:=e3
      rcases e3 with e3 | e3 | e3
      ·obtain ⟨k',q1,q2⟩:=kindOfY y _ e3
       rw [k2] at q1
       cases q1
       rcases q2 with q2 | ⟨_,q2⟩ <;> cases q2
      ·exact .inl e3
      ·exact .inr e3
 ·obtain ⟨v,o,ho,hd⟩:=I.cell x d (c.cells.get e)
  exact ⟨v,o,hk _ _ ho,hd⟩
 ·show (bC own js σ).length=(cR X own js).length
  unfold bC cR
  simp
structure PIf (X:Cx) (ifs:List Expr) (t:TT):Prop where
 go:∀ (pins:List (Addr×Obj)) (s:Shared) (σ:St) (H:Hp) (Q:Bool→Hp→Prop),Inv X pins σ H s→t σ H Q →
  wpAny (model X.prog X.w) X.A (forIn ifs true fun c r=>if r=true then do let ok ← isTrue c X.env (eval c X.env); pure (ForInStep.yield ok) else pure (ForInStep.yield r)) (TP X pins σ Q) X.xe s
def tYes:TT:=fun _ H Q=>Q true H
theorem pH:PIf X [] tYes:=⟨fun pins s σ H Q I h=>wpAny_tests_nil ⟨H,I,h⟩⟩
theorem eh {prog:Program} {w:World} {A:Around} {R:Result→Shared→Prop} {s:Shared} {elt target iter:Expr} {ifs:List Expr} {scope:Scope} {pos:Pos} {it acc:Value} {env:Env} (I:Nat→Shared→Prop)
 (turn:∀ n s,I n s→wpAny (model prog w) A (pyNext it) (fun r s₁=>match r with
  | none=>R (.ok .next) s₁
  | some v=>wpAny (model prog w) A (letOwnedTupleGo target it v) (fun _ s₁=>wpAny (model prog w) A (assign target env v) (fun _ s₂ =>
   wpAny (model prog w) A (forIn ifs true fun c r=>if r=true then do let ok ← isTrue c env (eval c env); pure (ForInStep.yield ok) else pure (ForInStep.yield r)) (fun ok s₃ =>
    if ok=true then wpAny (model prog w) A (eval elt env) (fun x s₄ =>
     wpAny (model prog w) A (call (.builtin "list.append") [acc,x]) (fun _ s₅=>∃ m,m<n∧I m s₅) (fun _ _=>False) s₄) (fun _ _=>False) s₃
    else ∃ m,m<n∧I m s₃) (fun _ _=>False) s₂) (fun _ _=>False) s₁) (fun _ _=>False) s₁) (fun _ _=>False) s)
 (n:Nat) (h:I n s) :
 codeAny (model prog w) A (.compLoop (.ListComp elt [⟨target,iter,ifs,0⟩] scope pos) 0 it acc env) R s:=by
 refine codeAny_loop rfl I (fun n s hI=>?_) n h
 show wpAny _ A ((compTurn (.ListComp elt [⟨target,iter,ifs,0⟩] scope pos) 0 it acc env).onRaise (fun x=>do noteFrame x env; theTreesLotGoes x)) _ _ s
 refine wpAny_noted ?_
 rw [compTurn_list]
 refine wpAny_bind (wpAny_standAt (wpAny_bind (wpAny_mono (turn n s hI) (fun r s₁ h₁=>?_) fun _ _ h'=>h'.elim)))
 cases r with
 | none=>exact wpAny_pure h₁
 | some v =>
  refine wpAny_bind (wpAny_mono h₁ (fun _ s₁ h₁=>?_) fun _ _ h'=>h'.elim)
  refine wpAny_bind (wpAny_mono h₁ (fun _ s₂ h₂=>wpAny_bind (wpAny_mono h₂ (fun ok s₃ h₃=>?_) fun _ _ h'=>h'.elim)) fun _ _ h'=>h'.elim)
  cases ok with
  | false=>exact wpAny_pure ⟨rfl,h₃⟩
  | true =>
   exact wpAny_bind (wpAny_bind (wpAny_mono h₃ (fun x s₄ h₄=>wpAny_bind (wpAny_mono h₄ (fun _ s₅ h₅=>wpAny_pure (wpAny_pure ⟨rfl,h₅⟩)) fun _ _ h'=>h'.elim)) fun _ _ h'=>h'.elim))
def kept:St→St→Prop
 | [],[]=>True
 | none :: r,_ :: r'=>kept r r'
 | some v :: r,y :: r'=>y=some v∧kept r r'
 | [],_ :: _=>False
 | _ :: _,[]=>False
theorem eP:∀ {a b:St},kept a b→a.length=b.length
 | [],[],_=>rfl
 | none :: r,_ :: r',h=>congrArg (· + 1) (eP (a:=r) (b:=r') h)
 | some v :: r,y :: r',h=>congrArg (· + 1) (eP (a:=r) (b:=r') h.2)
 | [],_ :: _,h=>False.elim h
 | none :: _,[],h=>False.elim h
 | some _ :: _,[],h=>False.elim h
theorem dG:∀ {a b:St},kept a b→∀ (i:Nat) (v:V),a[i]? = some (some v)→b[i]? = some (some v)
 | [],[],_,i,v,e=>by simp at e
 | none :: r,_ :: r',h,0,v,e=>by simp at e
 | none :: r,_ :: r',h,i + 1,v,e=>by simpa using dG (a:=r) (b:=r') h i v (by simpa using e)
 | some w :: r,y :: r',h,0,v,e=>by simp at e; subst e; simp [h.1]
 | some w :: r,y :: r',h,i + 1,v,e=>by simpa using dG (a:=r) (b:=r') h.2 i v (by simpa using e)
 | [],_ :: _,h,_,_,_=>False.elim h
 | none :: _,[],h,_,_,_=>False.elim h
 | some _ :: _,[],h,_,_,_=>False.elim h
def kT (J:It) (g:TG) (tt:TT) (te:TE) (σ0:St) (H:Hp) (Z:List V→Hp→Prop):Prop :=
 ∃ W:Nat→Nat→List V→Hp→Prop,(∃ m,W 0 m [] H)∧∀ i m acc H,W i m acc H →
  (J.stop i H∧acc.length≤sizeLine∧Z acc H)∨(J.go i H∧acc.length<sizeLine∧∃ N:List V→Hp→Prop,(∀ acc' H',N acc' H'→∃ m',m'<m∧W (i + 1) m' acc' H') ∧
   ∀ x H',J.yld i H x H'→g x σ0 H' fun σ2 H2=>kept σ0 σ2∧tt σ2 H2 fun b H3=>if b=true then te σ2 H3 fun v H4=>N (acc++[v]) H4 else N acc H3)
theorem HOk.adopt {P:Program} {w:World} {H:Hp} {h:Heap} {a:Addr} {o:HO} (x:HOk P w H h) (hn:H a=none) (new:aT P w (upd H a o) h a o):HOk P w (upd H a o) h:=fun b u e=>by
 by_cases hb:b=a
 ·subst hb; rw [av] at e; cases e; exact new
 ·rw [ah hb] at e
  exact (x b u e).stay (fun c v _ q=>q) (fun c q=>by rw [ah (ay q hn)]; exact q) (fun c xs q=>by rw [ah (ay q hn)]; exact q) fun c ob u q=>by rw [ah (ay q hn)]; exact q
theorem gM {elt tg iter:Expr} {ifs:List Expr} {pos:Pos} {J:It} {fp:List Addr} {it:Addr} {tn:Nat→Heap→Prop} {g:TG} {tt:TT} {te:TE} {Z:List V→Hp→Prop} {E:Value→Shared→Prop}
 {RR:Value→Addr→Result→Shared→Prop} (c:CompOk X scope cl own js) (hc:X.calm=true) (I:Inv X pins σ H s) (T:Turn X.prog X.w X.K tg J fp it tn) (t0:tn 0 s.heap) (hf:∀ b∈fp,e6 X pins H b)
 (inner:∀ (C:Addr) (s₀:Shared) (H₀:Hp) (ex:List Addr),PG (bv X scope cl (cR X own js) C s₀ H₀ ex) tg g∧PIf (bv X scope cl (cR X own js) C s₀ H₀ ex) ifs tt∧PE (bv X scope cl (cR X own js) C s₀ H₀ ex) elt te)
 (hW:kT J g tt te (bC own js σ) H Z)
 (hRR:∀ (D C:Addr) (s':Shared) (acc:List V) (H':Hp),(∃ m,s'.heap.Ns C m)→H' D=none→Z acc H'→s.heap.objs.size≤C→C≠X.env.locals→(upd H' D (.lst acc)) C=none→(∀ h',Heap.SameBut C s'.heap h'→Inv X pins σ (upd H' D (.lst acc)) { s' with heap:=h' })→RR (.ref D) C (.ok .next) s') :
 wpAny (model X.prog X.w) X.A (newList []) (fun acc s₃=>wpAny (model X.prog X.w) X.A (newFunctionEnv scope X.env.globals cl [] X.env.qual none .none (some X.env)) (fun cenv s₄ =>
  codeAny (model X.prog X.w) X.A (.compStart (.ListComp elt [⟨tg,iter,ifs,0⟩] scope pos) 0 (.ref it) acc { cenv with scope:=relabel scope X.env }) (RR acc cenv.locals) s₄) E s₃) E s:=by
 refine wpAny_newObj_type (wpAny_newFunctionEnv c.nc (by intro y hy; simp at hy) (fun h₁ hns₁ hsb₁=>?_) c.kind)
 dsimp only at hns₁ hsb₁ ⊢
 generalize hH2:s.heap.push { cls:=.type "list",dict:=none,data:=.seq ([]:List Value).toArray } = H2 at hns₁ hsb₁ ⊢
 have hCs:H2.objs.size=s.heap.objs.size + 1:=by rw [← hH2,Heap.size_push]
 have hns₁:h₁.Ns H2.objs.size (fun _=>none):=hns₁
 have hCle:s.heap.objs.size≤H2.objs.size:=by rw [hCs]; exact Nat.le_succ _
 have hDC:s.heap.objs.size≠H2.objs.size:=by rw [hCs]; exact Nat.ne_of_lt (Nat.lt_succ_self _)
 have below:∀ b,b<s.heap.objs.size→b≠H2.objs.size∧b≠s.heap.objs.size:=fun b hb=>⟨by rw [hCs]; exact Nat.ne_of_lt (Nat.lt_succ_of_lt hb),Nat.ne_of_lt hb⟩
 have old:∀ b o,s.heap.get? b=some o→h₁.get? b=some o:=fun b o e=>hsb₁.extBut b o (below b (Heap.lt_size e)).1 (Heap.get?_push_of_some _ (hH2 ▸ Heap.get?_push_of_some _ e))
 have hD1:h₁.get? s.heap.objs.size=some { cls:=.type "list",data:=.seq ([]:List Value).toArray }:=hsb₁.extBut _ _ hDC (Heap.get?_push_of_some _ (hH2 ▸ Heap.get?_push_size _ rfl))
 have hlt:∀ b∈fp,b<s.heap.objs.size:=fun b hb=>by
  obtain ⟨o,e,_⟩:=T.obj 0 _ t0 b hb
  exact Heap.lt_size e
 have hCL:H2.objs.size≠X.env.locals:=fun z=>absurd (Nat.lt_of_lt_of_le I.lt (by rw [← z]; exact hCle)) (Nat.lt_irrefl _)
 have hDfs:s.heap.objs.size ∉ frs X.stack:=fun z=>by
  rcases List.mem_cons.mp (I.stkSub _ z) with q | q
  ·exact absurd I.lt (by rw [← q]; exact Nat.lt_irrefl _)
  ·exact I.nofs (Nat.le_refl _) q
 have hfs:∀ b∈fp,b ∉ frs X.stack:=fun b hb z=>by
  rcases List.mem_cons.mp (I.stkSub b z) with q | q
  ·exact (hf b hb).2.1 q
  ·exact (hf b hb).2.2.1 q
 have hDcell:∀ x d,cl.lookup x=some d→d≠s.heap.objs.size:=fun x d e=>by
  obtain ⟨v,q⟩:=I.cell x d (c.cells.get e)
  exact Nat.ne_of_lt q.lt
 have fresh:H s.heap.objs.size=none:=I.hok.fresh (Nat.le_refl _)
 obtain ⟨W,⟨m0,w0⟩,turn⟩:=hW
 have loop:∀ s₃:Shared,s₃ = { s with heap:=h₁,toks:=s.toks + ([]:List (Str×Value)).length } →
  codeAny (model X.prog X.w) X.A (.compLoop (.ListComp elt [⟨tg,iter,ifs,0⟩] scope pos) 0 (.ref it) (.ref s.heap.objs.size) (compEnvC scope cl H2.objs.size X.env)) (RR (.ref s.heap.objs.size) H2.objs.size) s₃:=by
  rintro s₃ rfl
  have I0:=jV (t':=s.toks + ([]:List (Str×Value)).length) c I hf hlt hCle old hns₁
  obtain ⟨hg,hi,he⟩:=inner H2.objs.size s H fp
  generalize hY:bv X scope cl (cR X own js) H2.objs.size s H fp=Y at I0 hg hi he
  have Yp:Y.prog=X.prog:=by rw [← hY]; rfl
  have Yw:Y.w=X.w:=by rw [← hY]; rfl
  have YK:Y.K=X.K:=by rw [← hY]; rfl
  have YA:Y.A=X.A:=by rw [← hY]; rfl
  have Ye:Y.env=compEnvC scope cl H2.objs.size X.env:=by rw [← hY]; rfl
  have Yl:Y.env.locals=H2.objs.size:=by rw [← hY]; rfl
  have Yc:Y.env.cells=cl:=by rw [← hY]; rfl
  have Yf:Y.fs=frs X.stack:=by rw [← hY]; rfl
  have Yx:Y.ex=fp:=by rw [← hY]; rfl
  have Ys:Y.s₀=s:=by rw [← hY]; rfl
  have YH:Y.H₀=H:=by rw [← hY]; rfl
  have Yn:Y.pn=[]:=by rw [← hY]; rfl
  have Yo:Y.calm=true:=by rw [← hY]; exact hc
  have YE:Y.xe=fun _ _=>False:=by rw [← hY]; rfl
  have fpY:∀ {H':Hp} (pn:List (Addr×Obj)),(∀ b∈fp,H' b=none)→(∀ b∈fp,∀ p∈pn,p.1≠b)→∀ b∈fp,e6 Y pn H' b:=fun pn hn hp b hb =>
   ⟨hn b hb,by rw [Yl]; exact (below b (hlt b hb)).1,by rw [Yf]; exact hfs b hb,.inl (by rw [Yx]; exact hb),fun x d e=>(hf b hb).2.2.2.2.1 x d (c.cells.get (by rw [← Yc]; exact e)),fun p hp'=>hp b hb p (by rw [Yn] at hp'; exact hp')⟩
  refine eh (fun n s'=>∃ i acc its k H',Inv Y [] (bC own js σ) H' s'∧tn i s'.heap∧(∀ b∈fp,H' b=none)∧W i n acc H'∧H' s.heap.objs.size=none∧s'.heap.get? s.heap.objs.size=some { cls:=.type "list",data:=.seq (its:List Value).toArray k }∧aO acc its) ?_ m0
   ⟨0,[],[],0,H,I0,T.keep 0 _ _ t0 (fun b hb o e=>old b o e),fun b hb=>(hf b hb).1,w0,fresh,hD1,.nil⟩
  rintro n s' ⟨i,acc,its,k,H',I',tn',fr',w',hD',oD',hv'⟩
  have hpinD:∀ b∈fp,∀ p∈[(s.heap.objs.size,({ cls:=.type "list",data:=.seq its.toArray k }:Obj))],p.1≠b:=fun b hb p hp=>by
   rw [List.mem_singleton] at hp
   subst hp
   exact fun z=>(below b (hlt b hb)).2 z.symm
  have ID:Inv Y [(s.heap.objs.size,({ cls:=.type "list",data:=.seq its.toArray k }:Obj))] (bC own js σ) H' s':=I'.pins_of fun p hp=>by
   rw [List.mem_singleton] at hp
   subst hp
   exact ⟨oD',hD',by rw [Yl]; exact hDC,by rw [Yf]; exact hDfs,fun v z=>by cases z⟩
  rcases turn i n acc H' w' with ⟨stop,hlen,hz⟩ | ⟨go,hlen,N,hN,step⟩
  ·have hd:=T.done Y Yp Yw YK Yo i _ s' (bC own js σ) H' (fun _ _=>False) ID (fpY _ fr' hpinD) tn' stop
   rw [YA] at hd
   refine thn hd fun r s1 ⟨hr,I1⟩=>?_
   subst hr
   obtain ⟨oD1,_⟩:=I1.pin _ (List.mem_append_right _ (List.mem_singleton.mpr rfl))
   have hC0:H' H2.objs.size=none:=by have:=I1.free; rw [Yl] at this; exact this
   have B1:Un (frs X.stack) fp H H' s.heap s1.heap:=by have:=I1.base; rw [Yf,Yx,YH,Ys] at this; exact this
   refine hRR s.heap.objs.size H2.objs.size s1 acc H' (by obtain ⟨m,hn,_⟩:=I1.loc; rw [Yl] at hn; exact ⟨m,hn⟩) hD' hz hCle hCL (by rw [ah (Ne.symm hDC)]; exact hC0) fun h' hsb=>?_
   have at':∀ b o,b≠H2.objs.size→s1.heap.get? b=some o→h'.get? b=some o:=fun b o hb e=>by rw [hsb.2 b hb]; exact e
   refine I.call' (s':={ s1 with heap:=h' }) (ch:=fp) (by have:=I1.os; rw [Ys] at this; exact this) ⟨fun b o q nn hb hx=>?_,fun b o q nn hb hx=>?_,fun b o q nn hx=>?_,fun b o q hx=>?_,fun b xs q=>?_,fun b o u q=>?_,fun b ps q0 q=>?_⟩ ?_ I1.bare fun b hb=>⟨(hf b hb).2.2.2.1,(hf b hb).2.1,(hf b hb).2.2.2.2.1,(hf b hb).2.2.2.2.2⟩
   ·exact at' b o (below b (Heap.lt_size q)).1 (B1.keep b o q nn hb hx)
   ·obtain ⟨sl,e⟩:=B1.slot b o q nn hb hx
    exact ⟨sl,at' b _ (below b (Heap.lt_size q)).1 e⟩
   ·rw [ah (below b (Heap.lt_size q)).2]; exact B1.free b o q nn hx
   ·obtain ⟨o',e⟩:=B1.there b o q hx
    exact ⟨o',at' b _ (below b (Heap.lt_size q)).1 e⟩
   ·have q':=B1.tups b xs q
    rw [ah (ay q' hD')]; exact q'
   ·have q':=B1.frzs b o u q
    rw [ah (ay q' hD')]; exact q'
   ·obtain ⟨more,q'⟩:=B1.tbls b ps _ q
    exact ⟨more,by rw [ah (ay q' hD')]; exact q'⟩
   ·have hok1:HOk X.prog X.w H' h':=fun a o e=>by
     have hok:=I1.hok
     rw [Yp,Yw] at hok
     refine (hok a o e).stay (fun b u hb q=>at' b u ?_ q) (fun _ q=>q) (fun _ _ q=>q) fun _ _ _ q=>q
     rcases hb with rfl | hb
     ·exact ay e hC0
     ·exact ay hb hC0
    exact hok1.adopt hD' ⟨hlen,its,k,hv',at' _ _ hDC oD1⟩
  ·have hd:=T.item Y Yp Yw YK Yo i _ s' (bC own js σ) H' (fun _ _=>False) ID (fpY _ fr' hpinD) tn' go
   rw [YA] at hd
   refine thn hd fun r s1 ⟨u,hr,h4⟩=>?_
   subst hr
   have h4:=h4
   refine thn h4 fun _ s2 ⟨x,H5,I5,r5,y5,tn5,fr5⟩=>?_
   have I5':=I5.pinned (fpY _ fr5 hpinD) (T.obj _ _ tn5)
   have hg':=hg.go _ s2 _ H5 x u _ I5' r5 (step x H5 y5)
   rw [Yp,Yw,YA,Ye,YE] at hg'
   refine thn hg' fun _ s3 ⟨σ6,H6,I6,kp6,q6⟩=>?_
   have hi':=hi.go _ s3 σ6 H6 _ I6 q6
   rw [Yp,Yw,YA,Ye,YE] at hi'
   refine thn hi' fun ok s4 ⟨H7,I7,q7⟩=>?_
   cases ok with
   | false =>
    rw [if_neg Bool.false_ne_true] at q7 ⊢
    obtain ⟨m',hm,w7⟩:=hN _ _ q7
    obtain ⟨oD7,hD7,_⟩:=I7.pin _ (List.mem_append_right _ (List.mem_append_left _ (List.mem_singleton.mpr rfl)))
    refine ⟨m',hm,i + 1,acc,its,k,H7,(I7.pins_of (pins':=[]) fun p hp=>(by cases hp)).weak (eP kp6) (dG kp6),T.keep _ _ _ tn5 fun b hb o e=>(I7.pin (b,o) (List.mem_append_right _ (List.mem_append_right _ (bU hb e)))).1,fun b hb=>?_,w7,hD7,oD7,hv'⟩
    obtain ⟨o,e,_⟩:=T.obj _ _ tn5 b hb
    exact (I7.pin (b,o) (List.mem_append_right _ (List.mem_append_right _ (bU hb e)))).2.1
   | true =>
    rw [if_pos rfl] at q7 ⊢
    have he':=he.go _ s4 σ6 H7 _ I7 q7
    rw [Yp,Yw,YA,Ye,YE] at he'
    refine thn he' fun v s5 ⟨xv,H8,I8,r8,n8⟩=>?_
    obtain ⟨m',hm,w8⟩:=hN _ _ n8
    obtain ⟨oD8,hD8,_⟩:=I8.pin _ (List.mem_append_right _ (List.mem_append_left _ (List.mem_singleton.mpr rfl)))
    have hsz:its.toArray.size<sizeLine:=by rw [List.size_toArray,← hv'.length]; exact hlen
    refine call_meets F.slot_list_append ⟨_,oD8,rfl⟩ F.entry_list_append (F.args_list_append_2 _ _) (PySem.list_append s.heap.objs.size its.toArray k v (Nat.le_of_lt hsz)) ⟨oD8,?_⟩
    have q:=PySem.IsL.update oD8 (fun a=>a.push v)
    have J8:Inv Y (f9 fp s2.heap) σ6 H8 s5:=I8.pins_of fun p hp=>I8.pin p (List.mem_append_right _ (List.mem_append_right _ hp))
    have ne8:∀ b,b∈fp→b≠s.heap.objs.size:=fun b hb=>(below b (hlt b hb)).2
    have J9:=J8.turned (t':=s5.toks) (h':=s5.heap.update s.heap.objs.size (Obj.mapSeq fun a=>a.push v)) (it:=s.heap.objs.size) (fun b o hb e=>(Heap.get?_update_other s5.heap _ (Ne.symm hb)).trans e) hD8 (by rw [Yl]; exact hDC) (.inr (by rw [Ys]; exact Nat.le_refl _)) (fun x d e=>hDcell x d (by rw [← Yc]; exact e))
     (fun p hp=>by
      rw [Yn,List.nil_append] at hp
      obtain ⟨hb,_⟩:=g_ hp
      exact ne8 _ hb)
    have keep9:∀ b o,b∈fp→s2.heap.get? b=some o→(s5.heap.update s.heap.objs.size (Obj.mapSeq fun a=>a.push v)).get? b=some o:=fun b o hb e=>(J9.pin (b,o) (List.mem_append_right _ (bU hb e))).1
    refine ⟨m',hm,i + 1,acc++[xv],its++[v],(if ((its++[v]).toArray.size == its.toArray.size)=true then k else k + 1),H8,(J9.pins_of (pins':=[]) fun p hp=>(by cases hp)).weak (eP kp6) (dG kp6),T.keep _ _ _ tn5 fun b hb o e=>keep9 b o hb e,fun b hb=>?_,w8,hD8,?_,hv'.append (.cons r8 .nil)⟩
    ·obtain ⟨o,e,_⟩:=T.obj _ _ tn5 b hb
     exact (J9.pin (b,o) (List.mem_append_right _ (bU hb e))).2.1
    ·have q':=q
     simp only [List.push_toArray] at q'
     exact q'
 exact codeAny_compStart_list (loop _ rfl) (T.self _ 0 _ _ _ (T.keep 0 _ _ t0 (fun b hb o e=>old b o e)) (loop _ rfl))
def kq (wi:TI) (g:TG) (tt:TT) (te:TE) (own:List Str) (js:List Nat):TE:=fun σ H Q=>wi σ H fun J H1=>kT J g tt te (bC own js σ) H1 fun acc H2=>∀ p,H2 p=none→Q (.ref p) (upd H2 p (.lst acc))
theorem qB {elt tg iter:Expr} {ifs:List Expr} {pos:Pos} {wi:TI} {g:TG} {tt:TT} {te:TE} (own:List Str) (js:List Nat) (c:CompOk X scope cl own js) (hc:X.calm=true) (hi:PI X tg iter wi)
 (inner:∀ (C:Addr) (s₀:Shared) (H₀:Hp) (ex:List Addr),PG (bv X scope cl (cR X own js) C s₀ H₀ ex) tg g∧PIf (bv X scope cl (cR X own js) C s₀ H₀ ex) ifs tt∧PE (bv X scope cl (cR X own js) C s₀ H₀ ex) elt te)
 (hs:∀ x,foldedSetIterable iter X.env x=pure x:=by intro _; rfl):PE X (.ListComp elt [⟨tg,iter,ifs,0⟩] scope pos) (kq wi g tt te own js):=by
 refine ⟨fun pins s σ H Q I h=>?_⟩
 rw [eval_ListComp]
 refine wpAny_comprehension_free (use:=none) rfl hs c.clos c.kind c.names (thn (hi.go pins s σ H _ I h) fun v s1 h1=>thn h1 fun itv s2 h2=>?_)
 obtain ⟨it,fp,tn,J,H2,e,I2,T,st2,f2,hW⟩:=h2
 subst e
 refine gM (RR:=fun acc C=>compPost (model X.prog X.w) X.A X.xe none (EP X pins σ Q) acc C) c hc I2 T st2 f2 inner hW ?_
 intro D C s' acc H' hn hD hz hDC hCL hUC hI
 exact ⟨hn.choose,hn.choose_spec,fun h' hsb=>⟨.ref D,_,hI h' hsb,rfl,hz D hD⟩⟩
theorem jz {elt tg iter:Expr} {ifs:List Expr} {pos spos py:Pos} {wi:TI} {g:TG} {tt:TT} {te:TE} {i:Nat} {y:Str} (own:List Str) (js:List Nat) (c:CompOk X scope cl own js) (hc:X.calm=true) (hN:X.N.Nodup) (hy:X.N[i]? = some y) (hx:Loc X.env.scope y) (hi:PI X tg iter wi)
 (inner:∀ (C:Addr) (s₀:Shared) (H₀:Hp) (ex:List Addr),PG (bv X scope cl (cR X own js) C s₀ H₀ ex) tg g∧PIf (bv X scope cl (cR X own js) C s₀ H₀ ex) ifs tt∧PE (bv X scope cl (cR X own js) C s₀ H₀ ex) elt te)
 (hsw:swapsWith (.ListComp elt [⟨tg,iter,ifs,0⟩] scope pos) (some (.Name y py)) spos.line X.env=pure true:=by rfl)
 (hs:∀ x,foldedSetIterable iter X.env x=pure x:=by intro _; rfl) (hf:X.fn y=true∨X.env.scope.names.lookup y=some .local:=by first | exact .inl rfl | exact .inr rfl | assumption) :
 PS X (.Assign [.Name y py] (.ListComp elt [⟨tg,iter,ifs,0⟩] scope pos) spos) (lz (kq wi g tt te own js) (fX i)):=by
 refine ⟨fun pins s σ H D I h=>?_⟩
 rw [exec_Assign_Name_used _ _ _ _ hsw]
 refine wpAny_bind (wpAny_standAt (wpAny_bind ?_))
 show wpAny _ X.A (do let _ ← comprehension (.ListComp elt [⟨tg,iter,ifs,0⟩] scope pos) scope X.env _ (newList []) false (eval iter X.env) (some (assign (.Name y py) X.env))) _ _ s
 refine wpAny_bind (wpAny_mono (wpAny_comprehension_free (use:=some (assign (.Name y py) X.env)) (Q:=fun _ s'=>SP X pins D .next s') rfl hs c.clos c.kind c.names
  (thn (hi.go pins s σ H _ I h) fun v s1 h1=>thn h1 fun itv s2 h2=>?_)) (fun _ s' hq=>wpAny_pure (wpAny_pure hq)) fun _ _ e=>e)
 obtain ⟨it,fp,tn,J,H2,e,I2,T,st2,f2,hW⟩:=h2
 subst e
 refine gM (RR:=fun acc C=>compPost (model X.prog X.w) X.A X.xe (some (assign (.Name y py) X.env)) (fun _ s'=>SP X pins D .next s') acc C) c hc I2 T st2 f2 inner hW ?_
 intro D' C s' acc H' hn hD hz hDC hCL hUC hI
 show wpAny _ X.A (assign (.Name y py) X.env (.ref D')) _ _ _
 have I9:=hI s'.heap (Heap.SameBut.refl _ _)
 obtain ⟨m,hm⟩:=hn
 refine wpAny_assign_Name (gO (v:=.ref D') I9 hN hy hx rfl (fun s'' I'' ⟨a,sb,ha⟩=>?_) hf)
 have aC:C≠a:=by
  rcases ha with ha | ha
  ·rw [ha]; exact hCL
  ·intro z
   subst z
   obtain ⟨v,q⟩:=I2.cell y C ha
   exact absurd (Nat.lt_of_lt_of_le q.lt hDC) (Nat.lt_irrefl _)
 refine ⟨m,hm.sameBut sb aC,fun h' hsb=>?_⟩
 refine ⟨σ.set i (some (.ref D')),upd H' D' (.lst acc),I''.turned (t':=s''.toks) (it:=C) (fun b o hb e=>by rw [hsb.2 b hb]; exact e) ?_ hCL (.inr (Nat.le_trans I2.sz hDC)) (fun x d e z=>?_) (fun p hp z=>?_),hz D' hD⟩
 ·exact hUC
 ·obtain ⟨v,q⟩:=I2.cell x d e
  rw [z] at q
  exact absurd (Nat.lt_of_lt_of_le q.lt hDC) (Nat.lt_irrefl _)
 ·have q:=Heap.lt_size (I2.pin p hp).1
  rw [z] at q
  exact absurd (Nat.lt_of_lt_of_le q hDC) (Nat.lt_irrefl _)
end
def Ite (a:Addr):It :=
 ⟨fun i H=>∃ xs x,H a=some (.lst xs)∧xs[i]? = some x,fun i H v H'=>∃ p x,H p=none∧v = .ref p∧H'=upd H p (.tup [.int i,x])∧∀ xs,H a=some (.lst xs)→xs[i]? = some x,fun i H=>∃ xs,H a=some (.lst xs)∧xs.length≤i⟩
theorem lD {P:Program} {w:World} {K:PySem.W.Frag} {es:List Expr} {k:Nat} {pos:Pos} (a e it:Addr) (hne:e≠it) :
 Turn P w K (.Tuple es k pos) (Ite a) [e,it] e (fun i h=>(∃ old,IsEnum h e it i old)∧h.IsListIter it a i) where
 mem:=by simp
 obj:=fun i h st b hb=>by
  rw [List.mem_cons,List.mem_singleton] at hb
  rcases hb with rfl | rfl
  ·obtain ⟨⟨old,q⟩,_⟩:=st
   exact ⟨_,q,fun v z=>by cases z⟩
  ·obtain ⟨_,o,q,c,d⟩:=st
   exact ⟨o,q,fun v z=>by rw [d] at z; cases z⟩
 keep:=fun i h h' st kp=>⟨by obtain ⟨old,q⟩:=st.1; exact ⟨old,kp e (by simp) _ q⟩,st.2.at fun o q=>kp it (by simp) o q⟩
 item:=by
  intro X hP hw hK hc i pins s σ H E I hf st hg
  subst hP hw hK
  obtain ⟨xs,x,hq,hx⟩:=hg
  obtain ⟨⟨old,he⟩,hit⟩:=st
  obtain ⟨its,rv,p,hz⟩:=I.list (SqL.of hq)
  obtain ⟨u,hu,ru⟩:=rv.get hx
  obtain ⟨f0,f1,f2,f3,f4,f5⟩:=hf e (by simp)
  obtain ⟨g0,g1,g2,g3,g4,g5⟩:=hf it (by simp)
  refine wpAny_pyNext_enum_item he hit p.isList (x:=u) (by simpa using hu) hne fun h' eo it' ht hsz hk=>?_
  refine ⟨.ref s.heap.objs.size,rfl,?_⟩
  refine wpAny_letOwnedTupleGo_enum eo fun h2 he2 hs2=>?_
  have fr:H s.heap.objs.size=none:=I.hok.fresh (Nat.le_refl _)
  have ne2:∀ b,b<s.heap.objs.size→b≠s.heap.objs.size:=fun b hb=>Nat.ne_of_lt hb
  have ee:e<s.heap.objs.size:=Heap.lt_size he
  have k2:∀ b o,b≠e→b≠it→s.heap.get? b=some o→h2.get? b=some o:=fun b o h1 h2' q=>(hs2.2 b h1).trans (hk b o h1 h2' q)
  have ht2:h2.get? s.heap.objs.size=some { cls:=.type "tuple",data:=.seq #[.int i s.toks,u] }:=(hs2.2 _ (Nat.ne_of_gt ee)).trans ht
  have trk:∀ b v,H b=some v→b≠e∧b≠it:=fun b v q=>⟨ay q f0,ay q g0⟩
  have hok0:HOk X.prog X.w H h2:=fun b o q=>(I.hok b o q).stay (fun c v hc q'=>by
   rcases hc with rfl | hc
   ·exact k2 c v (trk c _ q).1 (trk c _ q).2 q'
   ·exact k2 c v (trk c _ hc).1 (trk c _ hc).2 q') (fun _ z=>z) (fun _ _ z=>z) fun _ _ _ z=>z
  have I1:Inv X pins σ (upd H s.heap.objs.size (.tup [.int i,x])) { s with heap:=h2,toks:=s.toks + 1 }:=by
   refine I.step (g':=s.gens) (d':=s.drawn) (ch:=[e,it]) (fun b hb=>?_) (fun b o _ _ hc q _=>k2 b o (fun z=>hc (by simp [z])) (fun z=>hc (by simp [z])) q) (fun b o _ _ hc q _=>⟨o.slots,k2 b o (fun z=>hc (by simp [z])) (fun z=>hc (by simp [z])) q⟩)
    (fun b o _ q n=>by rw [ah (ne2 b (Heap.lt_size q))]; exact n) (fun b o hc q=>⟨o,k2 b o (fun z=>hc (by simp [z])) (fun z=>hc (by simp [z])) q⟩) (fun b ys q=>by rw [ah (ay q fr)]; exact q) (fun b o v q=>by rw [ah (ay q fr)]; exact q)
    (fun b ps _ q=>⟨#[],by rw [ah (ay q fr),q]; simp⟩) (fun m hm=>?_) ?_ I.bare
   ·rw [List.mem_cons,List.mem_singleton] at hb
    rcases hb with rfl | rfl
    ·exact ⟨f3,f1,f4,f5⟩
    ·exact ⟨g3,g1,g4,g5⟩
   ·obtain ⟨o,es',ep,ho,r⟩:=hm
    exact ⟨o,es',ep,k2 _ o (Ne.symm f1) (Ne.symm g1) ho,r⟩
   ·exact hok0.adopt fr ⟨by show 2≤sizeLine; decide,[.int i s.toks,u],.cons ⟨_,rfl⟩ (.cons ru .nil),⟨_,ht2,rfl,_,rfl⟩⟩
  refine ⟨.ref s.heap.objs.size,_,I1,rfl,⟨_,x,fr,rfl,rfl,fun ys hy=>by rw [hq] at hy; cases hy; exact hx⟩,⟨⟨_,by simpa using he2⟩,it'.extBut hs2.extBut (Ne.symm hne)⟩,fun b hb=>?_⟩
  have:H b=none:=(hf b hb).1
  have hb':b<s.heap.objs.size:=by
   rw [List.mem_cons,List.mem_singleton] at hb
   rcases hb with rfl | rfl
   ·exact ee
   ·obtain ⟨o,q,_⟩:=hit; exact Heap.lt_size q
  rw [ah (ne2 b hb')]
  exact this
 done:=by
  intro X hP hw hK hc i pins s σ H E I hf st hg
  subst hP hw hK
  obtain ⟨xs,hq,hx⟩:=hg
  obtain ⟨⟨old,he⟩,hit⟩:=st
  obtain ⟨its,rv,p,hz⟩:=I.list (SqL.of hq)
  obtain ⟨g0,g1,g2,g3,g4,g5⟩:=hf it (by simp)
  have hl:=rv.length
  exact wpAny_pyNext_enum_end (I.ok.hd hc) he hit p.isList (by simp; omega) fun h' eb=>⟨rfl,I.turned (t':=s.toks) (fun b o hb e=>eb b o hb e) g0 g1 g3 g4 g5⟩
 self:=fun _ _ _ _ _ st h=>by
  obtain ⟨⟨old,he⟩,_⟩:=st
  exact wpAny_pyIter_enum he h
section
variable {X:Cx} {es:List Expr} {k:Nat} {tpos:Pos}
def iEnum (ta:TA):TI:=fun σ H R=>ta σ H fun vs H1=>∃ a,vs=[.ref a]∧(∃ xs,H1 a=some (.lst xs))∧R (Ite a) H1
theorem pO {l:Expr} {ta:TA} {p pos:Pos} (hg:Gl X "enumerate") (hm:X.mg "enumerate" = none) (ha:PA X [l] ta) (hs:starEach [l] X.env=[(false,eval l X.env)]:=by rfl):PI X (.Tuple es k tpos) (.Call (.Name "enumerate" p) [l] [] pos) (iEnum ta):=by
 refine ⟨fun pins s σ H R I h=>?_⟩
 refine wpAny_Call_Name_kw (eZ I hg hm iA ?_)
 refine PyProof.Rows.callWith_type1 (thn (ha pos pins s σ H _ I h) fun us s1 ⟨vs,H1,I1,r1,a,e,⟨xs,hx⟩,q⟩=>?_) hs rfl
 subst e
 obtain ⟨u,rfl,ru⟩:=nv r1
 cases ru
 obtain ⟨_,its,n,rv,ho⟩:=(show aT X.prog X.w H1 s1.heap a (.lst xs) from I1.hok a _ hx)
 refine call_enumerate_1 ho fun h' he hit hsz hk=>?_
 have I2:Inv X pins σ H1 { s1 with heap:=h' }:=I1.kept (t':=s1.toks) hk
 refine wpAny_pyIter_enum he ⟨s1.heap.objs.size + 1,[s1.heap.objs.size + 1,s1.heap.objs.size],_,Ite a,H1,rfl,I2,lD a (s1.heap.objs.size + 1) s1.heap.objs.size (Nat.succ_ne_self _),⟨⟨_,he⟩,hit⟩,fun b hb=>?_,q⟩
 have hb':s1.heap.objs.size≤b:=by
  rw [List.mem_cons,List.mem_singleton] at hb
  rcases hb with rfl | rfl <;> omega
 have z:=I1.fpOk (H':=H1) hb' (I1.hok.fresh hb')
 exact z
end
mutual
def toP:D→PyData
 | .non=>.none
 | .bl b=>.bool b
 | .int i=>.int i
 | .str x=>.str x
 | .tup ds=>.tuple (toPs ds)
 | .lst ds=>.list (toPs ds)
 | .dct=>.dict []
 | .dic _ _=>.dict []
 | .obj _ _ _=>.dict []
 | .scr _ _=>.dict []
 | .ext _=>.dict []
def toPs:List D→List PyData
 | []=>[]
 | d :: ds=>toP d :: toPs ds
end
mutual
theorem cX {X:Cx} {pins:List (Addr×Obj)} {σ:St} {H:Hp} {s:Shared} (I:Inv X pins σ H s):∀ (d:D) (v:V) (u:Value),Rep H d v→aX v u→(toP d).canLay0=true→∃ as,Reads s.heap u (toP d) as
 | .non,v,u,h,r,_=>by rw [Rep] at h; subst h; cases r; rw [toP]; exact ⟨_,.none⟩
 | .bl b,v,u,h,r,_=>by rw [Rep] at h; subst h; cases r; rw [toP]; exact ⟨_,.bool b⟩
 | .int i,v,u,h,r,_=>by rw [Rep] at h; subst h; obtain ⟨t,rfl⟩:=r; rw [toP]; exact ⟨_,.int i t⟩
 | .str x,v,u,h,r,_=>by rw [Rep] at h; subst h; obtain ⟨t,rfl⟩:=r; rw [toP]; exact ⟨_,.str x t⟩
 | .tup ds,v,u,h,r,c=>by
  rw [Rep] at h
  obtain ⟨a,xs,rfl,ha,hx⟩:=h
  cases r
  rw [toP] at c ⊢
  obtain ⟨_,its,rv,o,e1,e2,n,e3⟩:=(show aT X.prog X.w H s.heap a (.tup xs) from I.hok a _ ha)
  obtain ⟨as,q⟩:=reps_reads I ds xs its hx rv (by rw [PyData.canLay0] at c; exact c)
  exact ⟨_,reads_tuple_at e1 e2 e3 (by simpa using q)⟩
 | .lst ds,v,u,h,r,c=>by
  rw [Rep] at h
  obtain ⟨a,xs,rfl,ha,hx⟩:=h
  cases r
  rw [toP] at c ⊢
  obtain ⟨_,its,n,rv,e1⟩:=(show aT X.prog X.w H s.heap a (.lst xs) from I.hok a _ ha)
  obtain ⟨as,q⟩:=reps_reads I ds xs its hx rv (by rw [PyData.canLay0] at c; exact c)
  exact ⟨_,reads_list_at e1 rfl rfl (by simpa using q)⟩
 | .dct,v,u,h,r,c=>by rw [toP,PyData.canLay0] at c; cases c
 | .dic _ _,v,u,h,r,c=>by rw [toP,PyData.canLay0] at c; cases c
 | .obj _ _ _,v,u,h,r,c=>by rw [toP,PyData.canLay0] at c; cases c
 | .scr _ _,v,u,h,r,c=>by rw [toP,PyData.canLay0] at c; cases c
 | .ext _,v,u,h,r,c=>by rw [toP,PyData.canLay0] at c; cases c
theorem reps_reads {X:Cx} {pins:List (Addr×Obj)} {σ:St} {H:Hp} {s:Shared} (I:Inv X pins σ H s):∀ (ds:List D) (vs:List V) (us:List Value),Reps H ds vs→aO vs us→PyData.canLayAll0 (toPs ds)=true→∃ as,ReadsAll s.heap us (toPs ds) as
 | [],vs,us,h,r,_=>by rw [Reps] at h; subst h; cases r; rw [toPs]; exact ⟨_,.nil⟩
 | d :: ds,vs,us,h,r,c=>by
  rw [Reps] at h
  obtain ⟨v,vs',rfl,h1,h2⟩:=h
  rw [toPs] at c ⊢
  rw [PyData.canLayAll0,Bool.and_eq_true] at c
  cases r with
  | cons r1 r2 =>
   obtain ⟨as,q1⟩:=cX I d v _ h1 r1 c.1
   obtain ⟨bs,q2⟩:=reps_reads I ds vs' _ h2 r2 c.2
   exact ⟨_,.cons q1 q2⟩
end
section
variable {X:Cx}
def rEqD:R2:=fun x y H Q=>∃ d e,Rep H d x∧Rep H e y∧SeqAt.shaped (toP d)=true∧SeqAt.shaped (toP e)=true∧Q (.bl (PyData.eqv (toP d) (toP e))) H
def rNeD:R2:=fun x y H Q=>∃ d e,Rep H d x∧Rep H e y∧SeqAt.shaped (toP d)=true∧SeqAt.shaped (toP e)=true∧Q (.bl (!PyData.eqv (toP d) (toP e))) H
theorem a_ (hu:X.A.units + 64<cLine):OpR X (compareOp .Eq) rEqD:=by
 intro pins s σ H x y v u Q I rx ry h
 obtain ⟨d,e,h1,h2,c1,c2,q⟩:=h
 obtain ⟨as,r1⟩:=cX I d x v h1 rx (SeqAt.canLay_of_shaped c1)
 obtain ⟨bs,r2⟩:=cX I e y u h2 ry (SeqAt.canLay_of_shaped c2)
 exact eq_dataH r1 r2 c1 c2 hu ⟨.bl _,H,I,rfl,q⟩
theorem eX (hu:X.A.units + 64<cLine):OpR X (compareOp .NotEq) rNeD:=by
 intro pins s σ H x y v u Q I rx ry h
 obtain ⟨d,e,h1,h2,c1,c2,q⟩:=h
 obtain ⟨as,r1⟩:=cX I d x v h1 rx (SeqAt.canLay_of_shaped c1)
 obtain ⟨bs,r2⟩:=cX I e y u h2 ry (SeqAt.canLay_of_shaped c2)
 exact ne_dataH r1 r2 c1 c2 hu ⟨.bl _,H,I,rfl,q⟩
end
def a9 (ns:List Int):D:=.lst (ns.map .int)
def aP (ns ms:List Int):D:=.tup [a9 ns,a9 ms]
section
variable {X:Cx}
end
abbrev DSt:=List (Option D)
abbrev Own:=Addr→Option (Nat×List Nat)
mutual
def Sep (G H:Hp) (O:Own) (i:Nat):D→List Nat→V→Prop
 | .non,_,v=>v = .non
 | .bl b,_,v=>v = .bl b
 | .int n,_,v=>v = .int n
 | .str x,_,v=>v = .str x
 | .tup ds,π,v=>∃ a xs,v = .ref a∧G a=some (.tup xs)∧Seps G H O i ds 0 π xs
 | .lst ds,π,v=>∃ a xs,v = .ref a∧O a=some (i,π)∧H a=some (.lst xs)∧Seps G H O i ds 0 π xs
 | .dct,_,_=>False
 | .dic ks ds,π,v=>∃ a xs,v = .ref a∧O a=some (i,π)∧H a=some (.dK (ks.zip xs))∧ks.length=ds.length∧Seps G H O i ds 0 π xs
 | .obj C ks ds,π,v=>∃ a dx xs,v = .ref a∧O a=some (i,π)∧H a=some (.ins C dx (ks.zip xs))∧ks.length=ds.length∧Seps G H O i ds 0 π xs
 | .scr _ _,_,_=>False
 | .ext _,_,_=>False
def Seps (G H:Hp) (O:Own) (i:Nat):List D→Nat→List Nat→List V→Prop
 | [],_,_,xs=>xs=[]
 | d :: ds,k,π,xs=>∃ v vs,xs=v :: vs∧Sep G H O i d (k :: π) v∧Seps G H O i ds (k + 1) π vs
end
def bR (G G':Hp):Prop:=∀ a xs,G a=some (.tup xs)→G' a=some (.tup xs)
theorem aD.ts {G G':Hp} (h:aD G G'):bR G G':=fun a xs e=>h a _ e
mutual
theorem Sep.map {G H G' H':Hp} {O O':Own} {i i':Nat} {f:List Nat→List Nat} (hG:bR G G') (hf:∀ k π,f (k :: π)=k :: f π) :
 ∀ (d:D) (π:List Nat) (v:V),(∀ a τ,O a=some (i,τ++π)→O' a=some (i',f (τ++π))∧H' a=H a)→Sep G H O i d π v→Sep G' H' O' i' d (f π) v
 | .non,_,_,_,h=>by rw [Sep] at *; exact h
 | .bl b,_,_,_,h=>by rw [Sep] at *; exact h
 | .int n,_,_,_,h=>by rw [Sep] at *; exact h
 | .str x,_,_,_,h=>by rw [Sep] at *; exact h
 | .tup ds,π,v,hO,h=>by
  rw [Sep] at *
  obtain ⟨a,xs,h1,h2,h3⟩:=h
  exact ⟨a,xs,h1,hG _ _ h2,Seps.map hG hf ds 0 π xs (fun a τ _=>hO a τ) h3⟩
 | .lst ds,π,v,hO,h=>by
  rw [Sep] at *
  obtain ⟨a,xs,h1,h2,h3,h4⟩:=h
  have q:=hO a [] h2
  exact ⟨a,xs,h1,q.1,q.2.trans h3,Seps.map hG hf ds 0 π xs (fun a τ _=>hO a τ) h4⟩
 | .dic ks ds,π,v,hO,h=>by
  rw [Sep] at *
  obtain ⟨a,xs,h1,h2,h3,h5,h4⟩:=h
  have q:=hO a [] h2
  exact ⟨a,xs,h1,q.1,q.2.trans h3,h5,Seps.map hG hf ds 0 π xs (fun a τ _=>hO a τ) h4⟩
 | .obj C ks ds,π,v,hO,h=>by
  rw [Sep] at *
  obtain ⟨a,dx,xs,h1,h2,h3,h5,h4⟩:=h
  have q:=hO a [] h2
  exact ⟨a,dx,xs,h1,q.1,q.2.trans h3,h5,Seps.map hG hf ds 0 π xs (fun a τ _=>hO a τ) h4⟩
 | .dct,_,_,_,h=>by rw [Sep] at h; exact h.elim
 | .scr _ _,_,_,_,h=>by rw [Sep] at h; exact h.elim
 | .ext _,_,_,_,h=>by rw [Sep] at h; exact h.elim
theorem Seps.map {G H G' H':Hp} {O O':Own} {i i':Nat} {f:List Nat→List Nat} (hG:bR G G') (hf:∀ k π,f (k :: π)=k :: f π) :
 ∀ (ds:List D) (k:Nat) (π:List Nat) (xs:List V),(∀ a τ,τ≠[]→O a=some (i,τ++π)→O' a=some (i',f (τ++π))∧H' a=H a)→Seps G H O i ds k π xs→Seps G' H' O' i' ds k (f π) xs
 | [],_,_,_,_,h=>by rw [Seps] at *; exact h
 | d :: ds,k,π,xs,hO,h=>by
  rw [Seps] at *
  obtain ⟨v,vs,h1,h2,h3⟩:=h
  refine ⟨v,vs,h1,?_,Seps.map hG hf ds (k + 1) π vs hO h3⟩
  rw [← hf]
  refine Sep.map hG hf d (k :: π) v (fun a τ e=>?_) h2
  have e' : τ++k :: π=(τ++[k])++π:=by simp
  rw [e'] at e ⊢
  exact hO a (τ++[k]) (by simp) e
end
theorem Sep.keep {G H G' H':Hp} {O O':Own} {i i':Nat} {d:D} {π:List Nat} {v:V} (hG:bR G G') (hO:∀ a τ,O a=some (i,τ++π)→O' a=some (i',τ++π)∧H' a=H a) (h:Sep G H O i d π v):Sep G' H' O' i' d π v :=
 Sep.map (f:=id) hG (fun _ _=>rfl) d π v hO h
theorem Seps.keep {G H G' H':Hp} {O O':Own} {i i':Nat} {ds:List D} {k:Nat} {π:List Nat} {xs:List V} (hG:bR G G') (hO:∀ a τ,τ≠[]→O a=some (i,τ++π)→O' a=some (i',τ++π)∧H' a=H a) (h:Seps G H O i ds k π xs):Seps G' H' O' i' ds k π xs :=
 Seps.map (f:=id) hG (fun _ _=>rfl) ds k π xs hO h
mutual
theorem Sep.rep {G H G':Hp} {O:Own} {i:Nat} (hG:bR G G'):∀ (d:D) (π:List Nat) (v:V),(∀ a τ (o:HO),O a=some (i,τ++π)→H a=some o→G' a=some o)→Sep G H O i d π v→Rep G' d v
 | .non,_,_,_,h=>by rw [Sep] at h; rw [Rep]; exact h
 | .bl b,_,_,_,h=>by rw [Sep] at h; rw [Rep]; exact h
 | .int n,_,_,_,h=>by rw [Sep] at h; rw [Rep]; exact h
 | .str x,_,_,_,h=>by rw [Sep] at h; rw [Rep]; exact h
 | .tup ds,π,v,hO,h=>by
  rw [Sep] at h; rw [Rep]
  obtain ⟨a,xs,h1,h2,h3⟩:=h
  exact ⟨a,xs,h1,hG _ _ h2,Seps.rep hG ds 0 π xs (fun a τ ys _=>hO a τ ys) h3⟩
 | .lst ds,π,v,hO,h=>by
  rw [Sep] at h; rw [Rep]
  obtain ⟨a,xs,h1,h2,h3,h4⟩:=h
  exact ⟨a,xs,h1,hO a [] _ h2 h3,Seps.rep hG ds 0 π xs (fun a τ ys _=>hO a τ ys) h4⟩
 | .dic ks ds,π,v,hO,h=>by
  rw [Sep] at h; rw [Rep]
  obtain ⟨a,xs,h1,h2,h3,h5,h4⟩:=h
  exact ⟨a,xs,h1,hO a [] _ h2 h3,h5,Seps.rep hG ds 0 π xs (fun a τ ys _=>hO a τ ys) h4⟩
 | .obj C ks ds,π,v,hO,h=>by
  rw [Sep] at h; rw [Rep]
  obtain ⟨a,dx,xs,h1,h2,h3,h5,h4⟩:=h
  exact ⟨a,dx,xs,h1,hO a [] _ h2 h3,h5,Seps.rep hG ds 0 π xs (fun a τ ys _=>hO a τ ys) h4⟩
 | .dct,_,_,_,h=>by rw [Sep] at h; exact h.elim
 | .scr _ _,_,_,_,h=>by rw [Sep] at h; exact h.elim
 | .ext _,_,_,_,h=>by rw [Sep] at h; exact h.elim
theorem Seps.rep {G H G':Hp} {O:Own} {i:Nat} (hG:bR G G'):∀ (ds:List D) (k:Nat) (π:List Nat) (xs:List V),(∀ a τ (o:HO),τ≠[]→O a=some (i,τ++π)→H a=some o→G' a=some o)→Seps G H O i ds k π xs→Reps G' ds xs
 | [],_,_,_,_,h=>by rw [Seps] at h; rw [Reps]; exact h
 | d :: ds,k,π,xs,hO,h=>by
  rw [Seps] at h; rw [Reps]
  obtain ⟨v,vs,h1,h2,h3⟩:=h
  refine ⟨v,vs,h1,Sep.rep hG d (k :: π) v (fun a τ ys e q=>?_) h2,Seps.rep hG ds (k + 1) π vs hO h3⟩
  have e' : τ++k :: π=(τ++[k])++π:=by simp
  rw [e'] at e
  exact hO a (τ++[k]) ys (by simp) e q
end
mutual
def imm:D→Bool
 | .tup ds=>imms ds
 | .lst _=>false
 | .dct=>false
 | .dic _ _=>false
 | .obj _ _ _=>false
 | .scr _ _=>false
 | .ext _=>false
 | _=>true
def imms:List D→Bool
 | []=>true
 | d :: ds=>imm d&&imms ds
end
mutual
theorem Rep.sep {G H:Hp} {O:Own} {i:Nat}:∀ (d:D) (π:List Nat) (v:V),imm d=true→Rep G d v→Sep G H O i d π v
 | .non,_,_,_,h=>by rw [Rep] at h; rw [Sep]; exact h
 | .bl b,_,_,_,h=>by rw [Rep] at h; rw [Sep]; exact h
 | .int n,_,_,_,h=>by rw [Rep] at h; rw [Sep]; exact h
 | .str x,_,_,_,h=>by rw [Rep] at h; rw [Sep]; exact h
 | .tup ds,π,v,hi,h=>by
  rw [Rep] at h; rw [Sep]
  obtain ⟨a,xs,h1,h2,h3⟩:=h
  exact ⟨a,xs,h1,h2,Reps.sep ds 0 π xs (by rw [imm] at hi; exact hi) h3⟩
 | .lst ds,_,_,hi,_=>by rw [imm] at hi; cases hi
 | .dct,_,_,hi,_=>by rw [imm] at hi; cases hi
 | .dic _ _,_,_,hi,_=>by rw [imm] at hi; cases hi
 | .obj _ _ _,_,_,hi,_=>by rw [imm] at hi; cases hi
 | .scr _ _,_,_,hi,_=>by rw [imm] at hi; cases hi
 | .ext _,_,_,hi,_=>by rw [imm] at hi; cases hi
theorem Reps.sep {G H:Hp} {O:Own} {i:Nat}:∀ (ds:List D) (k:Nat) (π:List Nat) (xs:List V),imms ds=true→Reps G ds xs→Seps G H O i ds k π xs
 | [],_,_,_,_,h=>by rw [Reps] at h; rw [Seps]; exact h
 | d :: ds,k,π,xs,hi,h=>by
  rw [Reps] at h; rw [Seps]
  rw [imms,Bool.and_eq_true] at hi
  obtain ⟨v,vs,h1,h2,h3⟩:=h
  exact ⟨v,vs,h1,Rep.sep d (k :: π) v hi.1 h2,Reps.sep ds (k + 1) π vs hi.2 h3⟩
end
mutual
theorem Sep.imm {G H:Hp} {O:Own} {i:Nat}:∀ (d:D) (π:List Nat) (v:V),L2.imm d=true→Sep G H O i d π v→Rep G d v
 | .non,_,_,_,h=>by rw [Sep] at h; rw [Rep]; exact h
 | .bl b,_,_,_,h=>by rw [Sep] at h; rw [Rep]; exact h
 | .int n,_,_,_,h=>by rw [Sep] at h; rw [Rep]; exact h
 | .str x,_,_,_,h=>by rw [Sep] at h; rw [Rep]; exact h
 | .tup ds,π,v,hi,h=>by
  rw [Sep] at h; rw [Rep]
  obtain ⟨a,xs,h1,h2,h3⟩:=h
  exact ⟨a,xs,h1,h2,Seps.imm ds 0 π xs (by rw [L2.imm] at hi; exact hi) h3⟩
 | .lst ds,_,_,hi,_=>by rw [L2.imm] at hi; cases hi
 | .dct,_,_,hi,_=>by rw [L2.imm] at hi; cases hi
 | .dic _ _,_,_,hi,_=>by rw [L2.imm] at hi; cases hi
 | .obj _ _ _,_,_,hi,_=>by rw [L2.imm] at hi; cases hi
 | .scr _ _,_,_,hi,_=>by rw [L2.imm] at hi; cases hi
 | .ext _,_,_,hi,_=>by rw [L2.imm] at hi; cases hi
theorem Seps.imm {G H:Hp} {O:Own} {i:Nat}:∀ (ds:List D) (k:Nat) (π:List Nat) (xs:List V),imms ds=true→Seps G H O i ds k π xs→Reps G ds xs
 | [],_,_,_,_,h=>by rw [Seps] at h; rw [Reps]; exact h
 | d :: ds,k,π,xs,hi,h=>by
  rw [Seps] at h; rw [Reps]
  rw [imms,Bool.and_eq_true] at hi
  obtain ⟨v,vs,h1,h2,h3⟩:=h
  exact ⟨v,vs,h1,Sep.imm d (k :: π) v hi.1 h2,Seps.imm ds (k + 1) π vs hi.2 h3⟩
end
mutual
theorem Rep.imms {G G':Hp} (hG:bR G G'):∀ (d:D) (v:V),L2.imm d=true→Rep G d v→Rep G' d v
 | .non,_,_,h=>by rw [Rep] at *; exact h
 | .bl b,_,_,h=>by rw [Rep] at *; exact h
 | .int n,_,_,h=>by rw [Rep] at *; exact h
 | .str x,_,_,h=>by rw [Rep] at *; exact h
 | .tup ds,v,hi,h=>by
  rw [Rep] at *
  obtain ⟨a,xs,h1,h2,h3⟩:=h
  exact ⟨a,xs,h1,hG _ _ h2,Reps.imms hG ds xs (by rw [L2.imm] at hi; exact hi) h3⟩
 | .lst ds,_,hi,_=>by rw [L2.imm] at hi; cases hi
 | .dct,_,hi,_=>by rw [L2.imm] at hi; cases hi
 | .dic _ _,_,hi,_=>by rw [L2.imm] at hi; cases hi
 | .obj _ _ _,_,hi,_=>by rw [L2.imm] at hi; cases hi
 | .scr _ _,_,hi,_=>by rw [L2.imm] at hi; cases hi
 | .ext _,_,hi,_=>by rw [L2.imm] at hi; cases hi
theorem Reps.imms {G G':Hp} (hG:bR G G'):∀ (ds:List D) (xs:List V),L2.imms ds=true→Reps G ds xs→Reps G' ds xs
 | [],_,_,h=>by rw [Reps] at *; exact h
 | d :: ds,xs,hi,h=>by
  rw [Reps] at *
  rw [L2.imms,Bool.and_eq_true] at hi
  obtain ⟨v,vs,h1,h2,h3⟩:=h
  exact ⟨v,vs,h1,Rep.imms hG d v hi.1 h2,Reps.imms hG ds vs hi.2 h3⟩
end
theorem Seps.length {G H:Hp} {O:Own} {i:Nat}:∀ {ds:List D} {k:Nat} {π:List Nat} {xs:List V},Seps G H O i ds k π xs→xs.length=ds.length
 | [],_,_,_,h=>by rw [Seps] at h; subst h; rfl
 | d :: ds,k,π,xs,h=>by
  rw [Seps] at h
  obtain ⟨v,vs,rfl,_,h3⟩:=h
  simp [Seps.length h3]
inductive WrO where
 | inl (xs:List V) | inr (kvs:List (Key×V)) | ins (C dx:Addr) (fs:List (Str×V))
def WrO.ho:WrO→HO
 | .inl xs=>.lst xs
 | .inr kvs=>.dK kvs
 | .ins C dx fs=>.ins C dx fs
theorem WrO.ne {m:WrO} {xs:List V} (h:m.ho = .tup xs):False:=by cases m <;> cases h
structure Ctx where
 G:Hp
 H:Hp
 O:Own
 mu:List (Option V)
 np:Nat
def bK (G H:Hp) (O:Own):List (D×V)→Prop
 | []=>True
 | (d,v) :: r=>Sep G H O (2 * r.length + 1) d [] v∧bK G H O r
def Nw (C:Ctx) (a:Addr) (l:Nat):Prop:=C.H a=none∨∃ π,C.O a=some (l,π)
def NT (o:HO):Prop:=∀ ps q,o≠.tbl ps q
theorem WrO.nt (x:WrO):NT x.ho:=by cases x <;> (intro _ _ z; cases z)
structure RO (C:Ctx) (ow:List Bool) (G:Hp) (ρ:DSt) (σ:St) (H:Hp) (pd:List (D×V)) (O:Own):Prop where
 len : ρ.length=σ.length
 gh:aD G H
 g0:aD C.G G
 gn:∀ a o,G a=some o→C.G a=some o∨C.H a=none
 og:∀ a l,O a=some l→G a=none∧(∃ xs:WrO,H a=some xs.ho)∧Nw C a l.1
 cok:∀ a l π,C.O a=some (l,π)→(∃ (i:Nat) (v:V),l=2 * i∧C.mu[i]? = some (some v))∨∃ j,l=2 * j + 1∧j<C.np
 fr:∀ a o,C.H a=some o→C.O a=none→NT o→H a=some o
 ft:∀ a ps q,H a=some (.tbl ps q)→G a=none
 al:∀ a,H a=none→C.H a=none
 mp:∀ (i:Nat) v,C.mu[i]? = some (some v)→σ[i]? = some (some v)
 sl:∀ (i:Nat) d,ρ[i]? = some (some d)→∃ v,σ[i]? = some (some v)∧if ow[i]? = some true then Sep G H O (2 * i) d [] v else Rep G d v
 pn:bK G H O pd
 np:C.np≤pd.length
def R (C:Ctx) (ow:List Bool) (G:Hp) (ρ:DSt) (σ:St) (H:Hp) (pd:List (D×V)):Prop:=∃ O,RO C ow G ρ σ H pd O
theorem bK.keep {G H G' H':Hp} {O O':Own} (hG:bR G G'):∀ {pd:List (D×V)},(∀ a j π,j<pd.length→O a=some (2 * j + 1,π)→O' a=some (2 * j + 1,π)∧H' a=H a)→bK G H O pd→bK G' H' O' pd
 | [],_,_=>trivial
 | (d,v) :: r,hO,⟨h1,h2⟩=>⟨h1.keep hG fun a τ e=>hO a r.length _ (by simp) e,bK.keep hG (fun a j π hj=>hO a j π (by simp; omega)) h2⟩
section
variable {C:Ctx} {ow:List Bool} {G:Hp} {ρ:DSt} {σ:St} {H:Hp} {pd:List (D×V)} {O:Own}
theorem RO.new (h:RO C ow G ρ σ H pd O) {p:Addr} (hp:H p=none) (o:HO) (nt:NT o:=by intro _ _ z; cases z):RO C ow (upd G p o) ρ σ (upd H p o) pd O∧aD G (upd G p o):=by
 have gp:G p=none:=by
  cases e:G p with
  | none=>rfl
  | some z=>rw [h.gh _ _ e] at hp; cases hp
 have sG:=nX gp o
 have ne:∀ a l,O a=some l→a≠p:=fun a l e z=>by
  obtain ⟨_,⟨xs,q⟩,_⟩:=h.og a l e
  rw [z,hp] at q; cases q
 refine ⟨⟨h.len,?_,fun a u e=>sG _ _ (h.g0 a u e),?_,?_,h.cok,?_,?_,?_,h.mp,?_,?_,h.np⟩,sG⟩
 ·intro a u e
  by_cases z:a=p
  ·subst z; rw [av] at e ⊢; exact e
  ·rw [ah z] at e ⊢; exact h.gh _ _ e
 ·intro a u e
  by_cases z:a=p
  ·subst z; exact .inr (h.al _ hp)
  ·rw [ah z] at e; exact h.gn a u e
 ·intro a l e
  have z:=ne a l e
  rw [ah z,ah z]
  exact h.og a l e
 ·intro a u e n t
  rw [ah (ay (h.fr a u e n t) hp)]
  exact h.fr a u e n t
 ·intro a ps q e
  by_cases z:a=p
  ·subst z; rw [av] at e; cases e; exact absurd rfl (nt ps q)
  ·rw [ah z] at e ⊢; exact h.ft a ps q e
 ·intro a e
  by_cases z:a=p
  ·subst z; rw [av] at e; cases e
  ·rw [ah z] at e; exact h.al a e
 ·intro i d e
  obtain ⟨v,h1,h2⟩:=h.sl i d e
  refine ⟨v,h1,?_⟩
  split at h2
  ·rename_i c; rw [if_pos c]; exact h2.keep sG.ts fun a τ q=>⟨q,ah (ne a _ q)⟩
  ·rename_i c; rw [if_neg c]; exact h2.mono sG
 ·exact bK.keep sG.ts (fun a j π _ q=>⟨q,ah (ne a _ q)⟩) h.pn
theorem RO.newL (h:RO C ow G ρ σ H pd O) {p:Addr} (hp:H p=none) {xs:List V} {ds:List D} (hi:imms ds=true) (hr:Reps G ds xs) :
 R C ow G ρ σ (upd H p (.lst xs)) ((.lst ds,.ref p) :: pd):=by
 have gp:G p=none:=by
  cases e:G p with
  | none=>rfl
  | some z=>rw [h.gh _ _ e] at hp; cases hp
 have ne:∀ a l,O a=some l→a≠p:=fun a l e z=>by
  obtain ⟨_,⟨xs,q⟩,_⟩:=h.og a l e
  rw [z,hp] at q; cases q
 let O':Own:=fun a=>if a=p then some (2 * pd.length + 1,[]) else O a
 have old:∀ a l,O a=some l→O' a=some l:=fun a l e=>by
  show (if a=p then _ else _)=_
  rw [if_neg (ne a _ e),e]
 refine ⟨O',h.len,?_,h.g0,h.gn,?_,h.cok,?_,?_,?_,h.mp,?_,⟨?_,?_⟩,Nat.le_succ_of_le h.np⟩
 ·intro a u e
  rw [ah (fun z=>by rw [z,gp] at e; cases e)]
  exact h.gh _ _ e
 ·intro a l e
  by_cases z:a=p
  ·subst z; exact ⟨gp,⟨.inl xs,av⟩,.inl (h.al _ hp)⟩
  ·rw [ah z]
   change (if a=p then _ else _)=_ at e
   rw [if_neg z] at e
   exact h.og a _ e
 ·intro a u e n t
  rw [ah (ay (h.fr a u e n t) hp)]
  exact h.fr a u e n t
 ·intro a ps q e
  by_cases z:a=p
  ·subst z; rw [av] at e; cases e
  ·rw [ah z] at e; exact h.ft a ps q e
 ·intro a e
  by_cases z:a=p
  ·subst z; rw [av] at e; cases e
  ·rw [ah z] at e; exact h.al a e
 ·intro i d e
  obtain ⟨v,h1,h2⟩:=h.sl i d e
  refine ⟨v,h1,?_⟩
  split at h2
  ·rename_i c; rw [if_pos c]; exact h2.keep (fun _ _ z=>z) fun a τ q=>⟨old a _ q,ah (ne a _ q)⟩
  ·rename_i c; rw [if_neg c]; exact h2
 ·rw [Sep]
  exact ⟨p,xs,rfl,by show (if p=p then _ else _)=_; rw [if_pos rfl],av,hr.sep ds 0 [] xs hi⟩
 ·exact bK.keep (fun _ _ z=>z) (fun a j π hj q=>⟨old a _ q,ah (ne a _ q)⟩) h.pn
end
theorem Seps.snoc {G H:Hp} {O:Own} {i:Nat} {d:D} {v:V}:∀ {ds:List D} {k:Nat} {π:List Nat} {xs:List V},Seps G H O i ds k π xs→Sep G H O i d ((k + ds.length) :: π) v→Seps G H O i (ds++[d]) k π (xs++[v])
 | [],k,π,xs,h,hd=>by rw [Seps] at h; subst h; show Seps _ _ _ _ [d] _ _ [v]; rw [Seps]; exact ⟨v,[],rfl,by simpa using hd,by rw [Seps]⟩
 | e :: ds,k,π,xs,h,hd=>by
  rw [Seps] at h
  obtain ⟨u,us,rfl,h2,h3⟩:=h
  show Seps _ _ _ _ (e :: (ds++[d])) _ _ (u :: (us++[v]))
  rw [Seps]
  refine ⟨u,us++[v],rfl,h2,Seps.snoc h3 ?_⟩
  have:k + 1 + ds.length=k + (e :: ds).length:=by simp; omega
  rw [this]; exact hd
theorem Seps.set {G H:Hp} {O:Own} {i:Nat} {d:D} {v:V}:∀ {ds:List D} {k:Nat} {π:List Nat} {xs:List V} {j:Nat},Seps G H O i ds k π xs→Sep G H O i d ((k + j) :: π) v→Seps G H O i (ds.set j d) k π (xs.set j v)
 | [],k,π,xs,j,h,hd=>by rw [Seps] at h; subst h; simp; rw [Seps]
 | e :: ds,k,π,xs,0,h,hd=>by
  rw [Seps] at h
  obtain ⟨u,us,rfl,h2,h3⟩:=h
  simp only [List.set_cons_zero]; rw [Seps]
  exact ⟨v,us,rfl,by simpa using hd,h3⟩
 | e :: ds,k,π,xs,j + 1,h,hd=>by
  rw [Seps] at h
  obtain ⟨u,us,rfl,h2,h3⟩:=h
  simp only [List.set_cons_succ]; rw [Seps]
  refine ⟨u,_,rfl,h2,Seps.set h3 ?_⟩
  have:k + 1 + j=k + (j + 1):=by omega
  rw [this]; exact hd
theorem Seps.at {G H:Hp} {O:Own} {i:Nat} {d:D}:∀ {ds:List D} {k:Nat} {π:List Nat} {xs:List V} {j:Nat},Seps G H O i ds k π xs→ds[j]? = some d→∃ v,xs[j]? = some v∧Sep G H O i d ((k + j) :: π) v
 | [],k,π,xs,j,h,e=>by simp at e
 | e :: ds,k,π,xs,0,h,q=>by
  rw [Seps] at h
  obtain ⟨u,us,rfl,h2,h3⟩:=h
  simp at q; subst q
  exact ⟨u,rfl,by simpa using h2⟩
 | e :: ds,k,π,xs,j + 1,h,q=>by
  rw [Seps] at h
  obtain ⟨u,us,rfl,h2,h3⟩:=h
  obtain ⟨v,h4,h5⟩:=Seps.at (j:=j) h3 (by simpa using q)
  refine ⟨v,by simpa using h4,?_⟩
  have:k + 1 + j=k + (j + 1):=by omega
  rw [← this]; exact h5
section
variable {C:Ctx} {ow:List Bool} {G:Hp} {ρ:DSt} {σ:St} {H:Hp} {pd:List (D×V)} {O:Own}
theorem df {α:Type} {l:List (Option α)} {i j:Nat} {x:Option α} {d : α} (h:(l.set i x)[j]? = some (some d)):(j=i∧x=some d)∨(j≠i∧l[j]? = some (some d)):=by
 rw [List.getElem?_set] at h
 by_cases e:i=j
 ·rw [if_pos e] at h
  split at h
  ·exact .inl ⟨e.symm,Option.some.inj h⟩
  ·cases h
 ·rw [if_neg e] at h; exact .inr ⟨fun z=>e z.symm,h⟩
theorem dj {α:Type} {l:List (Option α)} {i:Nat} {x:Option α} (h:l[i]? = some x):i<l.length:=(List.getElem?_eq_some_iff.mp h).1
theorem RO.setS (h:RO C ow G ρ σ H pd O) {i:Nat} {d:D} {v:V} (hi:ow[i]?≠some true) (hm:∀ v,C.mu[i]?≠some (some v)) (r:Rep G d v):RO C ow G (ρ.set i (some d)) (σ.set i (some v)) H pd O:=by
 refine ⟨by simp [h.len],h.gh,h.g0,h.gn,h.og,h.cok,h.fr,h.ft,h.al,?_,?_,h.pn,h.np⟩
 ·intro j u e
  have:i≠j:=fun z=>hm u (z ▸ e)
  rw [List.getElem?_set_ne this]
  exact h.mp j u e
 ·intro j e q
  rcases df q with ⟨rfl,z⟩ | ⟨z,q'⟩
  ·cases z
   have hl:j<σ.length:=by have:=dj q; rw [List.length_set,h.len] at this; exact this
   exact ⟨v,by rw [List.getElem?_set_self hl],by rw [if_neg hi]; exact r⟩
  ·obtain ⟨u,h1,h2⟩:=h.sl j e q'
   exact ⟨u,by rw [List.getElem?_set_ne (Ne.symm z)]; exact h1,h2⟩
def lab (f:Nat→List Nat→Nat×List Nat) (O:Own):Own:=fun a=>(O a).map fun l=>f l.1 l.2
theorem bW {f:Nat→List Nat→Nat×List Nat} {a:Addr} {l:Nat} {π:List Nat} (h:O a=some (l,π)):lab f O a=some (f l π):=by unfold lab; rw [h]; rfl
theorem iD {f:Nat→List Nat→Nat×List Nat} {a:Addr} {m:Nat×List Nat} (h:lab f O a=some m):∃ l π,O a=some (l,π)∧m=f l π:=by
 unfold lab at h
 cases e:O a with
 | none=>rw [e] at h; cases h
 | some l=>rw [e] at h; exact ⟨l.1,l.2,rfl,(Option.some.inj h).symm⟩
theorem cG {i j:Nat} : 2 * i≠2 * j + 1:=by omega
theorem RO.setO {d:D} {v:V} (h:RO C ow G ρ σ H ((d,v) :: pd) O) {i:Nat} (hi:ow[i]? = some true) (hm:∀ v,C.mu[i]?≠some (some v)) (hn:C.np≤pd.length) :
 R C ow G (ρ.set i (some d)) (σ.set i (some v)) H pd:=by
 refine ⟨lab (fun l π=>if l=2 * pd.length + 1 then (2 * i,π) else (l,π)) O,by simp [h.len],h.gh,h.g0,h.gn,?_,h.cok,h.fr,h.ft,h.al,?_,?_,?_,hn⟩
 ·intro a m e
  obtain ⟨l,π,e1,rfl⟩:=iD e
  obtain ⟨q1,q2,q3⟩:=h.og a _ e1
  refine ⟨q1,q2,?_⟩
  try dsimp only
  split
  ·rename_i z
   rcases q3 with q3 | ⟨_,q3⟩
   ·exact .inl q3
   ·rcases h.cok _ _ _ q3 with ⟨k,_,q4,_⟩ | ⟨k,q4,q5⟩
    ·exact absurd (q4.symm.trans z) cG
    ·omega
  ·exact q3
 ·intro j u e
  have:i≠j:=fun z=>hm u (z ▸ e)
  rw [List.getElem?_set_ne this]
  exact h.mp j u e
 ·intro j e q
  rcases df q with ⟨rfl,z⟩ | ⟨z,q'⟩
  ·cases z
   have hl:j<σ.length:=by have:=dj q; rw [List.length_set,h.len] at this; exact this
   refine ⟨v,by rw [List.getElem?_set_self hl],?_⟩
   rw [if_pos hi]
   exact h.pn.1.keep (fun _ _ z=>z) fun a τ q=>⟨by rw [bW q,if_pos rfl],rfl⟩
  ·obtain ⟨u,h1,h2⟩:=h.sl j e q'
   refine ⟨u,by rw [List.getElem?_set_ne (Ne.symm z)]; exact h1,?_⟩
   split at h2
   ·rename_i c; rw [if_pos c]; exact h2.keep (fun _ _ z=>z) fun a τ q=>⟨by rw [bW q,if_neg cG],rfl⟩
   ·rename_i c; rw [if_neg c]; exact h2
 ·exact bK.keep (fun _ _ z=>z) (fun a j π hj q=>⟨by rw [bW q,if_neg (by omega)],rfl⟩) h.pn.2
theorem RO.move (h:RO C ow G ρ σ H pd O) {i:Nat} {d:D} (e : ρ[i]? = some (some d)) (hi:ow[i]? = some true) (hm:∀ v,C.mu[i]?≠some (some v)) :
 ∃ v,σ[i]? = some (some v)∧R C ow G (ρ.set i none) σ H ((d,v) :: pd):=by
 obtain ⟨v,hv,s⟩:=h.sl i d e
 rw [if_pos hi] at s
 refine ⟨v,hv,lab (fun l π=>if l=2 * i then (2 * pd.length + 1,π) else (l,π)) O,by simp [h.len],h.gh,h.g0,h.gn,?_,h.cok,h.fr,h.ft,h.al,h.mp,?_,⟨?_,?_⟩,Nat.le_succ_of_le h.np⟩
 ·intro a m e
  obtain ⟨l,π,e1,rfl⟩:=iD e
  obtain ⟨q1,q2,q3⟩:=h.og a _ e1
  refine ⟨q1,q2,?_⟩
  try dsimp only
  split
  ·rename_i z
   rcases q3 with q3 | ⟨_,q3⟩
   ·exact .inl q3
   ·rcases h.cok _ _ _ q3 with ⟨k,u,q4,q5⟩ | ⟨k,q4,_⟩
    ·have:k=i:=by have:=q4.symm.trans z; omega
     exact absurd (this ▸ q5) (hm u)
    ·omega
  ·exact q3
 ·intro j e q
  rcases df q with ⟨rfl,z⟩ | ⟨z,q'⟩
  ·cases z
  ·obtain ⟨u,h1,h2⟩:=h.sl j e q'
   refine ⟨u,h1,?_⟩
   split at h2
   ·rename_i c; rw [if_pos c]; exact h2.keep (fun _ _ z=>z) fun a τ q=>⟨by rw [bW q,if_neg (by omega)],rfl⟩
   ·rename_i c; rw [if_neg c]; exact h2
 ·exact s.keep (fun _ _ z=>z) fun a τ q=>⟨by rw [bW q,if_pos rfl],rfl⟩
 ·exact bK.keep (fun _ _ z=>z) (fun a j π hj q=>⟨by rw [bW q,if_neg (fun z=>cG z.symm)],rfl⟩) h.pn
def hasL (O:Own) (l:Nat) (a:Addr):Bool:=match O a with
 | some m=>m.1 == l
 | none=>false
theorem dO {l:Nat} {a:Addr}:hasL O l a=true↔∃ π,O a=some (l,π):=by
 unfold hasL
 cases e:O a with
 | none=>simp
 | some m=>obtain ⟨m1,m2⟩:=m; simp
theorem RO.share {d:D} {v:V} (h:RO C ow G ρ σ H ((d,v) :: pd) O) (hn:C.np≤pd.length):∃ G',aD G G'∧R C ow G' ρ σ H pd∧Rep G' d v:=by
 let l₀:=2 * pd.length + 1
 let G':Hp:=fun a=>if hasL O l₀ a=true then H a else G a
 have sG:aD G G':=fun a o e=>by
  show (if _ then _ else _)=_
  split
  ·exact h.gh _ _ e
  ·exact e
 have inH:∀ a τ (o:HO),O a=some (l₀,τ)→H a=some o→G' a=some o:=fun a τ xs q e=>by
  show (if _ then _ else _)=_
  rw [if_pos (dO.mpr ⟨_,q⟩)]; exact e
 refine ⟨G',sG,⟨fun a=>if hasL O l₀ a=true then none else O a,h.len,?_,fun a o e=>sG _ _ (h.g0 _ _ e),?_,?_,h.cok,h.fr,(fun a ps q e=>by
  show (if _ then _ else _)=_
  split
  ·rename_i c
   obtain ⟨τ,c⟩:=dO.mp c
   obtain ⟨_,⟨xs,z⟩,_⟩:=h.og a _ c
   rw [z] at e; exact absurd (Option.some.inj e) (WrO.nt xs _ _)
  ·exact h.ft a ps q e),h.al,h.mp,?_,?_,hn⟩,h.pn.1.rep sG.ts d [] v (fun a τ xs q e=>inH a _ xs q e)⟩
 ·intro a o e
  change (if _ then _ else _)=_ at e
  split at e
  ·exact e
  ·exact h.gh _ _ e
 ·intro a o e
  change (if _ then _ else _)=_ at e
  split at e
  ·rename_i c
   obtain ⟨π,q⟩:=dO.mp c
   obtain ⟨_,_,q3⟩:=h.og a _ q
   rcases q3 with q3 | ⟨_,q3⟩
   ·exact .inr q3
   ·rcases h.cok _ _ _ q3 with ⟨k,_,q4,_⟩ | ⟨k,q4,q5⟩
    ·exact absurd q4.symm cG
    ·have q4' : 2 * pd.length + 1=2 * k + 1:=q4
     omega
  ·exact h.gn a o e
 ·intro a l e
  try dsimp only at e
  split at e
  ·cases e
  ·rename_i c
   obtain ⟨q1,q2,q3⟩:=h.og a l e
   exact ⟨by show (if _ then _ else _)=_; rw [if_neg c]; exact q1,q2,q3⟩
 ·intro j e q
  obtain ⟨u,h1,h2⟩:=h.sl j e q
  refine ⟨u,h1,?_⟩
  split at h2
  ·rename_i c; rw [if_pos c]
   refine h2.keep sG.ts fun a τ q=>⟨?_,rfl⟩
   rw [if_neg,q]
   intro z
   obtain ⟨π,z⟩:=dO.mp z
   rw [q] at z
   have:=(Prod.mk.inj (Option.some.inj z)).1
   omega
  ·rename_i c; rw [if_neg c]; exact h2.mono sG
 ·refine bK.keep sG.ts (fun a j π hj q=>⟨?_,rfl⟩) h.pn.2
  rw [if_neg,q]
  intro z
  obtain ⟨π,z⟩:=dO.mp z
  rw [q] at z
  have:=(Prod.mk.inj (Option.some.inj z)).1
  omega
theorem RO.write (h:RO C ow G ρ σ H pd O) {i:Nat} {ds:List D} (e : ρ[i]? = some (some (.lst ds))) (hi:ow[i]? = some true) :
 ∃ a xs,σ[i]? = some (some (.ref a))∧H a=some (.lst xs)∧Seps G H O (2 * i) ds 0 [] xs ∧
  ∀ ds' xs',Seps G H O (2 * i) ds' 0 [] xs'→RO C ow G (ρ.set i (some (.lst ds'))) σ (upd H a (.lst xs')) pd O:=by
 obtain ⟨v,hv,s⟩:=h.sl i _ e
 rw [if_pos hi,Sep] at s
 obtain ⟨a,xs,rfl,hO,hH,hs⟩:=s
 refine ⟨a,xs,hv,hH,hs,fun ds' xs' hs'=>?_⟩
 obtain ⟨g0,_,nw⟩:=h.og a _ hO
 have ne:∀ b l π,O b=some (l,π)→(l≠2 * i∨π≠[])→b≠a:=fun b l π q n z=>by
  subst z
  rw [hO] at q
  obtain ⟨q1,q2⟩:=Prod.mk.inj (Option.some.inj q)
  rcases n with n | n
  ·exact n q1.symm
  ·exact n q2.symm
 refine ⟨by simp [h.len],?_,h.g0,h.gn,?_,h.cok,?_,?_,?_,h.mp,?_,?_,h.np⟩
 ·intro b o q
  rw [ah (fun z=>by rw [z,g0] at q; cases q)]; exact h.gh _ _ q
 ·intro b l q
  obtain ⟨q1,⟨ys,q2⟩,q3⟩:=h.og b l q
  refine ⟨q1,?_,q3⟩
  by_cases z:b=a
  ·subst z; exact ⟨.inl _,av⟩
  ·rw [ah z]; exact ⟨ys,q2⟩
 ·intro b o q n t
  by_cases z:b=a
  ·subst z
   rcases nw with nw | ⟨_,nw⟩
   ·rw [nw] at q; cases q
   ·rw [nw] at n; cases n
  ·rw [ah z]; exact h.fr b o q n t
 ·intro b ps q e
  by_cases z:b=a
  ·subst z; rw [av] at e; cases e
  ·rw [ah z] at e; exact h.ft b ps q e
 ·intro b q
  by_cases z:b=a
  ·subst z; rw [av] at q; cases q
  ·rw [ah z] at q; exact h.al b q
 ·intro j u q
  rcases df q with ⟨rfl,z⟩ | ⟨z,q'⟩
  ·cases z
   refine ⟨_,hv,?_⟩
   rw [if_pos hi,Sep]
   exact ⟨a,xs',rfl,hO,av,hs'.keep (fun _ _ z=>z) fun b τ hτ q=>⟨q,ah (ne b _ _ q (.inr (by simpa using hτ)))⟩⟩
  ·obtain ⟨w,h1,h2⟩:=h.sl j u q'
   refine ⟨w,h1,?_⟩
   split at h2
   ·rename_i c; rw [if_pos c]; exact h2.keep (fun _ _ z=>z) fun b τ q=>⟨q,ah (ne b _ _ q (.inl (by omega)))⟩
   ·rename_i c; rw [if_neg c]; exact h2
 ·exact bK.keep (fun _ _ z=>z) (fun b j π hj q=>⟨q,ah (ne b _ _ q (.inl (fun z=>cG z.symm)))⟩) h.pn
theorem RO.join {d:D} {v:V} (h:RO C ow G ρ σ H ((d,v) :: pd) O) (i n:Nat) (hn:C.np≤pd.length) :
 ∃ O',RO C ow G ρ σ H pd O'∧Sep G H O' (2 * i) d [n] v∧∀ (l:Nat) ds k π xs,l≠2 * pd.length + 1→Seps G H O l ds k π xs→Seps G H O' l ds k π xs:=by
 refine ⟨lab (fun l π=>if l=2 * pd.length + 1 then (2 * i,π++[n]) else (l,π)) O,⟨h.len,h.gh,h.g0,h.gn,?_,h.cok,h.fr,h.ft,h.al,h.mp,?_,?_,hn⟩,?_,?_⟩
 ·intro a m e
  obtain ⟨l,π,e1,rfl⟩:=iD e
  obtain ⟨q1,q2,q3⟩:=h.og a _ e1
  refine ⟨q1,q2,?_⟩
  try dsimp only
  split
  ·rename_i z
   rcases q3 with q3 | ⟨_,q3⟩
   ·exact .inl q3
   ·rcases h.cok _ _ _ q3 with ⟨k,_,q4,_⟩ | ⟨k,q4,q5⟩
    ·exact absurd (q4.symm.trans z) cG
    ·omega
  ·exact q3
 ·intro j e q
  obtain ⟨u,h1,h2⟩:=h.sl j e q
  refine ⟨u,h1,?_⟩
  split at h2
  ·rename_i c; rw [if_pos c]; exact h2.keep (fun _ _ z=>z) fun a τ q=>⟨by rw [bW q,if_neg cG],rfl⟩
  ·rename_i c; rw [if_neg c]; exact h2
 ·exact bK.keep (fun _ _ z=>z) (fun a j π hj q=>⟨by rw [bW q,if_neg (by omega)],rfl⟩) h.pn.2
 ·exact Sep.map (f:=fun π=>π++[n]) (fun _ _ z=>z) (fun _ _=>rfl) d [] v (fun a τ q=>⟨by rw [bW q,if_pos rfl],rfl⟩) h.pn.1
 ·intro l ds k π xs hl hs
  exact hs.keep (fun _ _ z=>z) fun a τ _ q=>⟨by rw [bW q,if_neg hl],rfl⟩
end
def bor (js:List Nat) (ow:List Bool):List Bool:=ow.mapIdx fun j b=>b && !js.contains j
theorem cm {js:List Nat} {ow:List Bool} {j:Nat}:(bor js ow)[j]? = some true↔ow[j]? = some true∧js.contains j=false:=by
 unfold bor
 rw [List.getElem?_mapIdx]
 cases e:ow[j]? with
 | none=>simp
 | some b=>cases b <;> simp
def j6 (ρ:DSt) (js:List Nat) (n l:Nat):Bool:=if l % 2=0 then (match ρ[l / 2]? with | some (some _)=>!js.contains (l / 2) | _=>false) else decide (l / 2<n)
def gC (js:List Nat) (l:Nat):Bool:=decide (l % 2=0)&&js.contains (l / 2)
def cC (f:Nat→Bool) (O:Own):Own:=fun a=>match O a with
 | some m=>if f m.1=true then some m else none
 | none=>none
theorem eU {f:Nat→Bool} {O:Own} {a:Addr} {m:Nat×List Nat} (h:O a=some m) (hf:f m.1=true):cC f O a=some m:=by unfold cC; rw [h]; show (if _ then _ else _)=_; rw [if_pos hf]
theorem cD {f:Nat→Bool} {O:Own} {a:Addr} {m:Nat×List Nat} (h:cC f O a=some m):O a=some m∧f m.1=true:=by
 unfold cC at h
 cases e:O a with
 | none=>rw [e] at h; cases h
 | some n =>
  rw [e] at h
  change (if _ then _ else _)=_ at h
  split at h
  ·rename_i c; cases h; exact ⟨rfl,c⟩
  ·cases h
def isSm {α:Type}:Option α→Bool
 | some _=>true
 | none=>false
section
variable {C:Ctx} {ow:List Bool} {G:Hp} {ρ:DSt} {σ:St} {H:Hp} {pd:List (D×V)} {O:Own}
def gBor (js:List Nat) (G H:Hp) (O:Own):Hp:=fun a=>if isSm (cC (gC js) O a)=true then H a else G a
def cBor (js:List Nat) (G H:Hp) (O:Own) (ρ:DSt) (σ:St) (n:Nat):Ctx:=⟨gBor js G H O,H,cC (j6 ρ js n) O,σ,n⟩
theorem h_ (h:RO C ow G ρ σ H pd O) (js:List Nat):aD G (gBor js G H O):=fun a o e=>by
 show (if _ then _ else _)=_
 split
 ·exact h.gh _ _ e
 ·exact e
theorem fz {α:Type} {o:Option α} (h:isSm o=true):∃ x,o=some x:=by cases o with | none=>cases h | some x=>exact ⟨x,rfl⟩
theorem RO.enter (h:RO C ow G ρ σ H pd O) (js:List Nat):RO (cBor js G H O ρ σ pd.length) (bor js ow) (gBor js G H O) ρ σ H pd (cC (j6 ρ js pd.length) O):=by
 have sG:=h_ h js
 refine ⟨h.len,?_,fun _ _ e=>e,fun _ _ e=>.inl e,?_,?_,fun _ _ e _ _=>e,(fun a ps q e=>by
  show (if _ then _ else _)=_
  split
  ·rename_i c
   obtain ⟨m,c⟩:=fz c
   obtain ⟨_,⟨xs,z⟩,_⟩:=h.og a m (cD c).1
   rw [z] at e; exact absurd (Option.some.inj e) (WrO.nt xs _ _)
  ·exact h.ft a ps q e),fun _ e=>e,fun _ _ e=>e,?_,?_,Nat.le_refl _⟩
 ·intro a o e
  change (if _ then _ else _)=_ at e
  split at e
  ·exact e
  ·exact h.gh _ _ e
 ·intro a l e
  obtain ⟨e1,e2⟩:=cD e
  obtain ⟨q1,q2,q3⟩:=h.og a l e1
  refine ⟨?_,q2,.inr ⟨l.2,e⟩⟩
  ·show (if _ then _ else _)=_
   rw [if_neg]; exact q1
   intro z
   obtain ⟨m,z⟩:=fz z
   obtain ⟨z1,z2⟩:=cD z
   rw [e1] at z1; cases z1
   unfold gC at z2; unfold j6 at e2
   simp only [Bool.and_eq_true,decide_eq_true_eq] at z2
   rw [if_pos z2.1] at e2
   split at e2
   ·rw [z2.2] at e2; cases e2
   ·cases e2
 ·intro a l π e
  obtain ⟨e1,e2⟩:=cD e
  unfold j6 at e2
  split at e2
  ·rename_i c
   split at e2
   ·rename_i d hd
    obtain ⟨v,hv,_⟩:=h.sl _ _ hd
    exact .inl ⟨l / 2,v,by omega,hv⟩
   ·cases e2
  ·exact .inr ⟨l / 2,by omega,of_decide_eq_true e2⟩
 ·intro j d e
  obtain ⟨v,h1,h2⟩:=h.sl j d e
  refine ⟨v,h1,?_⟩
  by_cases c:ow[j]? = some true
  ·rw [if_pos c] at h2
   by_cases c2:js.contains j=true
   ·rw [if_neg (fun z=>by rw [cm] at z; rw [c2] at z; exact absurd z.2 (by decide))]
    refine h2.rep sG.ts d [] v fun a τ xs q e=>?_
    show (if _ then _ else _)=_
    rw [if_pos]; exact e
    rw [eU q]; rfl
    unfold gC
    simp only [Bool.and_eq_true,decide_eq_true_eq]
    exact ⟨by omega,by rw [show 2 * j / 2=j by omega]; exact c2⟩
   ·rw [if_pos (cm.mpr ⟨c,by simpa using c2⟩)]
    refine h2.keep sG.ts fun a τ q=>⟨eU q ?_,rfl⟩
    unfold j6
    show (if 2 * j % 2=0 then _ else _)=_
    rw [if_pos (by omega),show 2 * j / 2=j by omega,e]
    simp at c2 ⊢; exact c2
  ·rw [if_neg c] at h2
   rw [if_neg (fun z=>c (cm.mp z).1)]
   exact h2.mono sG
 ·refine bK.keep sG.ts (fun a j π hj q=>⟨eU q ?_,rfl⟩) h.pn
  unfold j6
  show (if (2 * j + 1) % 2=0 then _ else _)=_
  rw [if_neg (by omega),show (2 * j + 1) / 2=j by omega]
  simpa using hj
def Kp (ow:List Bool) (ρ ρ':DSt):Prop:=∀ (j:Nat),ow[j]?≠some true→ρ'[j]? = ρ[j]?
def jl (js:List Nat) (O:Own) (G2:Hp):Hp:=fun a=>if isSm (cC (gC js) O a)=true then none else G2 a
def qX (js:List Nat) (O O2:Own):Own:=fun a=>match O2 a with
 | some l=>some l
 | none=>cC (gC js) O a
theorem RO.leave (h:RO C ow G ρ σ H pd O) {js:List Nat} {G2:Hp} {ρ2:DSt} {H2:Hp} {pd2:List (D×V)} {O2:Own}
 (h2:RO (cBor js G H O ρ σ pd.length) (bor js ow) G2 ρ2 σ H2 pd2 O2) (kp:Kp (bor js ow) ρ ρ2) :
 RO C ow (jl js O G2) ρ2 σ H2 pd2 (qX js O O2)∧aD G (jl js O G2)∧bR G2 (jl js O G2):=by
 have sG:=h_ h js
 have dm:∀ a m,cC (gC js) O a=some m→O a=some m∧G a=none∧∃ xs:WrO,H a=some xs.ho∧G2 a=some xs.ho:=fun a m e=>by
  obtain ⟨e1,e2⟩:=cD e
  obtain ⟨q1,⟨xs,q2⟩,q3⟩:=h.og a m e1
  refine ⟨e1,q1,xs,q2,h2.g0 a _ ?_⟩
  show (if _ then _ else _)=_
  rw [if_pos (by rw [e]; rfl)]; exact q2
 have nd:∀ a,G a≠none→¬ isSm (cC (gC js) O a)=true:=fun a g z=>by
  obtain ⟨m,z⟩:=fz z
  exact g (dm a m z).2.1
 have sG3:aD G (jl js O G2):=fun a o e=>by
  show (if _ then _ else _)=_
  rw [if_neg (nd a (by rw [e]; simp))]
  exact h2.g0 a o (sG a o e)
 have ts:bR G2 (jl js O G2):=fun a xs e=>by
  show (if _ then _ else _)=_
  rw [if_neg]; exact e
  intro z
  obtain ⟨m,z⟩:=fz z
  obtain ⟨_,_,ys,_,q⟩:=dm a m z
  rw [e] at q; exact (WrO.ne (Option.some.inj q).symm).elim
 have o2:∀ a l,O2 a=some l→qX js O O2 a=some l:=fun a l e=>by show (match O2 a with | some l=>some l | none=>_)=_; rw [e]
 refine ⟨⟨h2.len,?_,fun a o e=>sG3 _ _ (h.g0 _ _ e),?_,?_,h.cok,?_,(fun a ps q e=>by show (if _ then _ else _)=_; split <;> first | rfl | exact h2.ft a ps q e),fun a e=>h.al a (h2.al a e),h.mp,?_,?_,Nat.le_trans h.np h2.np⟩,sG3,ts⟩
 ·intro a o e
  change (if _ then _ else _)=_ at e
  split at e
  ·cases e
  ·exact h2.gh _ _ e
 ·intro a o e
  change (if _ then _ else _)=_ at e
  split at e
  ·cases e
  ·rename_i c
   rcases h2.gn a o e with q | q
   ·change (if _ then _ else _)=_ at q
    rw [if_neg c] at q
    exact h.gn a o q
   ·exact .inr (h.al a q)
 ·intro a l e
  change (match O2 a with | some l=>some l | none=>_)=_ at e
  cases q:O2 a with
  | some l' =>
   rw [q] at e; cases e
   obtain ⟨q1,q2,q3⟩:=h2.og a l q
   refine ⟨by show (if _ then _ else _)=_; split <;> first | rfl | exact q1,q2,?_⟩
   rcases q3 with q3 | ⟨q3,q4⟩
   ·exact .inl (h.al a q3)
   ·exact (h.og a _ (cD q4).1).2.2
  | none =>
   rw [q] at e
   change cC (gC js) O a=some l at e
   obtain ⟨e1,q1,xs,q2,q3⟩:=dm a l e
   refine ⟨by show (if _ then _ else _)=_; rw [if_pos (by rw [e]; rfl)],⟨xs,h2.gh _ _ q3⟩,(h.og a l e1).2.2⟩
 ·intro a o e n t
  have q:=h.fr a o e n t
  refine h2.fr a o q ?_ t
  show cC _ O a=none
  cases z:cC (j6 ρ js pd.length) O a with
  | none=>rfl
  | some m =>
   obtain ⟨z1,_⟩:=cD z
   obtain ⟨_,_,z3⟩:=h.og a m z1
   rcases z3 with z3 | ⟨_,z3⟩
   ·rw [z3] at e; cases e
   ·rw [z3] at n; cases n
 ·intro j d e
  by_cases c:(bor js ow)[j]? = some true
  ·obtain ⟨v,q1,q2⟩:=h2.sl j d e
   rw [if_pos c] at q2
   refine ⟨v,q1,?_⟩
   rw [if_pos (cm.mp c).1]
   exact q2.keep ts fun a τ q=>⟨o2 _ _ q,rfl⟩
  ·rw [kp j c] at e
   obtain ⟨v,q1,q2⟩:=h.sl j d e
   refine ⟨v,q1,?_⟩
   by_cases c2:ow[j]? = some true
   ·rw [if_pos c2] at q2 ⊢
    have hj:js.contains j=true:=by
     cases z:js.contains j with
     | true=>rfl
     | false=>exact absurd (cm.mpr ⟨c2,z⟩) c
    refine q2.keep sG3.ts fun a τ q=>?_
    have dd:cC (gC js) O a=some (2 * j,τ++[]):=eU q (by
     unfold gC
     simp only [Bool.and_eq_true,decide_eq_true_eq]
     exact ⟨by omega,by rw [show 2 * j / 2=j by omega]; exact hj⟩)
    obtain ⟨_,_,xs,q4,q5⟩:=dm a _ dd
    refine ⟨?_,by rw [q4]; exact h2.gh _ _ q5⟩
    show (match O2 a with | some l=>some l | none=>_)=_
    cases z:O2 a with
    | some l=>have:=(h2.og a l z).1; rw [q5] at this; cases this
    | none=>exact dd
   ·rw [if_neg c2] at q2 ⊢
    exact q2.mono sG3
 ·exact bK.keep ts (fun a j π hj q=>⟨o2 _ _ q,rfl⟩) h2.pn
end
abbrev ME:=DSt→(D→DSt→Prop)→Prop
abbrev MT:=DSt→(Bool→DSt→Prop)→Prop
abbrev MA:=DSt→(List D→DSt→Prop)→Prop
def SE (ow:List Bool) (t:TE) (m:ME):Prop:=∀ (C:Ctx) (G:Hp) (ρ:DSt) (σ:St) (H:Hp) (pd:List (D×V)) (q:D→DSt→Prop) (Q:VK),R C ow G ρ σ H pd→m ρ q →
 (∀ d ρ' v G' H',q d ρ'→aD G G'→Kp ow ρ ρ'→R C ow G' ρ' σ H' pd→Rep G' d v→Q v H')→t σ H Q
def SF (ow:List Bool) (t:TE) (m:ME):Prop:=∀ (C:Ctx) (G:Hp) (ρ:DSt) (σ:St) (H:Hp) (pd:List (D×V)) (q:D→DSt→Prop) (Q:VK),R C ow G ρ σ H pd→m ρ q →
 (∀ d ρ' v G' H',q d ρ'→aD G G'→Kp ow ρ ρ'→R C ow G' ρ' σ H' ((d,v) :: pd)→Q v H')→t σ H Q
def STe (ow:List Bool) (t:TT) (m:MT):Prop:=∀ (C:Ctx) (G:Hp) (ρ:DSt) (σ:St) (H:Hp) (pd:List (D×V)) (q:Bool→DSt→Prop) (Q:Bool→Hp→Prop),R C ow G ρ σ H pd→m ρ q →
 (∀ b ρ' G' H',q b ρ'→aD G G'→Kp ow ρ ρ'→R C ow G' ρ' σ H' pd→Q b H')→t σ H Q
def SA (ow:List Bool) (n:Nat) (t:TA) (m:MA):Prop:=∀ (C:Ctx) (G:Hp) (ρ:DSt) (σ:St) (H:Hp) (pd:List (D×V)) (q:List D→DSt→Prop) (Q:List V→Hp→Prop),R C ow G ρ σ H pd→m ρ q →
 (∀ ds ρ' vs G' H',q ds ρ'→aD G G'→Kp ow ρ ρ'→R C ow G' ρ' σ H' pd→Reps G' ds vs→vs.length=n→Q vs H')→t σ H Q
structure QE (X:Cx) (ow:List Bool) (e:Expr) (m:ME):Prop where
 ex:∃ t,PE X e t∧SE ow t m
structure QF (X:Cx) (ow:List Bool) (e:Expr) (m:ME):Prop where
 ex:∃ t,PE X e t∧SF ow t m
structure QT (X:Cx) (ow:List Bool) (e:Expr) (m:MT):Prop where
 ex:∃ t,PT X e t∧STe ow t m
structure QW (X:Cx) (ow:List Bool) (e:Expr) (m:MT):Prop where
 ex:∃ t,PW X e t∧STe ow t m
structure QA (X:Cx) (ow:List Bool) (es:List Expr) (m:MA):Prop where
 ex:∃ t,PA X es t∧SA ow es.length t m
theorem Kp.refl {ow:List Bool} {ρ:DSt}:Kp ow ρ ρ:=fun _ _=>rfl
theorem Kp.trans {ow:List Bool} {ρ ρ1 ρ2:DSt} (a:Kp ow ρ ρ1) (b:Kp ow ρ1 ρ2):Kp ow ρ ρ2:=fun j h=>(b j h).trans (a j h)
theorem R.gh {C:Ctx} {ow:List Bool} {G:Hp} {ρ:DSt} {σ:St} {H:Hp} {pd:List (D×V)} (h:R C ow G ρ σ H pd):aD G H:=let ⟨_,h⟩:=h; h.gh
theorem R.np {C:Ctx} {ow:List Bool} {G:Hp} {ρ:DSt} {σ:St} {H:Hp} {pd:List (D×V)} (h:R C ow G ρ σ H pd):C.np≤pd.length:=let ⟨_,h⟩:=h; h.np
section
variable {X:Cx} {ow:List Bool} {a b c e:Expr} {ma mb mc:ME} {pos:Pos}
def mVar (i:Nat):ME:=fun ρ q=>match ρ[i]? with
 | some (some d)=>q d ρ
 | _=>False
theorem aa (i:Nat) {x:Str} (hs:ow[i]?≠some true:=by decide) (hN:X.N[i]? = some x:=by rfl) (hv:Vis X.env.scope x:=by first | exact Or.inl rfl | exact Or.inr (Or.inl rfl) | exact Or.inr (Or.inr rfl)) (hd:(x == ("__debug__":Str))=false:=by decide)
 (hcd:(x == ("__classdict__":Str))=false:=by decide):QE X ow (.Name x pos) (mVar i):=⟨_,dX hN hv hd hcd,fun C G ρ σ H pd q Q r h k=>by
 unfold mVar at h
 split at h
 ·rename_i d e
  obtain ⟨O,ro⟩:=r
  obtain ⟨v,h1,h2⟩:=ro.sl i d e
  rw [if_neg hs] at h2
  exact ⟨v,h1,k d ρ v G H h (aD.refl _) Kp.refl ⟨O,ro⟩ h2⟩
 ·exact h.elim⟩
def mC (d:D):ME:=fun ρ q=>q d ρ
theorem oM {v:V} {d:D} (h:PE X e (tC v)) (hr:∀ G,Rep G d v):QE X ow e (mC d):=⟨_,h,fun C G ρ σ H pd q Q r h k=>k d ρ v G H h (aD.refl _) Kp.refl r (hr G)⟩
theorem ae {i j}:QE X ow (.Constant (.int i) j pos) (mC (.int i)):=oM o5 fun _=>bD _
theorem ci {i j}:QE X ow (.Constant (.bool i) j pos) (mC (.bl i)):=oM pe_bl fun _=>bY _
theorem jt {j}:QE X ow (.Constant .none j pos) (mC .non):=oM sQ fun _=>fL
theorem aW {i j}:QE X ow (.Constant (.str i) j pos) (mC (.str i)):=oM l3 fun _=>qA _
theorem cz {x:Str} {i:Int} (hg:Gl X x) (hm:∃ t,X.mg x=some (.int i t)) (hd:(x == ("__debug__":Str))=false:=by decide):QE X ow (.Name x pos) (mC (.int i)):=by
 obtain ⟨t,hm⟩:=hm
 exact oM (fH (v:=.int i) hg hm ⟨t,rfl⟩ hd) fun _=>bD _
theorem iB {ta tb:TE} (ha:SE ow ta ma) (hb:SE ow tb mb) {C:Ctx} {G:Hp} {ρ:DSt} {σ:St} {H:Hp} {pd:List (D×V)} {f:D→D→DSt→Prop} {Q:V→V→Hp→Prop}
 (r:R C ow G ρ σ H pd) (h:ma ρ fun x ρ1=>mb ρ1 fun y ρ2=>f x y ρ2)
 (k:∀ dx dy ρ' x y G' H',f dx dy ρ'→aD G G'→Kp ow ρ ρ'→R C ow G' ρ' σ H' pd→Rep G' dx x→Rep G' dy y→Q x y H'):ta σ H fun x H1=>tb σ H1 fun y H2=>Q x y H2:=by
 refine ha C G ρ σ H pd _ _ r h fun dx ρ1 x G1 H1 h1 s1 k1 r1 p1=>?_
 refine hb C G1 ρ1 σ H1 pd _ _ r1 h1 fun dy ρ2 y G2 H2 h2 s2 k2 r2 p2=>?_
 exact k dx dy ρ2 x y G2 H2 h2 (s1.trans s2) (k1.trans k2) r2 (Rep.mono s2 _ _ p1) p2
def DOp (r:R2) (f:D→D→(D→Prop)→Prop):Prop:=∀ (G H:Hp) (x y:V) (dx dy:D) (q:D→Prop) (Q:VK),aD G H→Rep G dx x→Rep G dy y→f dx dy q→(∀ d v,q d→Rep G d v→Q v H)→r x y H Q
def mOp (f:D→D→(D→Prop)→Prop) (ma mb:ME):ME:=fun ρ q=>ma ρ fun x ρ1=>mb ρ1 fun y ρ2=>f x y fun d=>q d ρ2
theorem ko {r:R2} {f:D→D→(D→Prop)→Prop} {ta tb:TE} (hd:DOp r f) (ha:SE ow ta ma) (hb:SE ow tb mb):SE ow (tOp r ta tb) (mOp f ma mb):=fun C G ρ σ H pd q Q hr h k=>by
 refine iB ha hb hr h fun dx dy ρ' x y G' H' hf s kp r' p1 p2=>?_
 exact hd G' H' x y dx dy _ _ r'.gh p1 p2 hf fun d v hq p=>k d ρ' v G' H' hq s kp r' p
theorem aK {op:Operator} {r:R2} {f:D→D→(D→Prop)→Prop} (ho:OpR X (binaryOp op) r) (hd:DOp r f) (ha:QE X ow a ma) (hb:QE X ow b mb):QE X ow (.BinOp a op b pos) (mOp f ma mb):=by
 obtain ⟨ta,pa,sa⟩:=ha; obtain ⟨tb,pb,sb⟩:=hb
 exact ⟨_,om ho pa pb,ko hd sa sb⟩
theorem cb {op:CmpOp} {r:R2} {f:D→D→(D→Prop)→Prop} (ho:OpR X (compareOp op) r) (hd:DOp r f) (ha:QE X ow a ma) (hb:QE X ow b mb) (hm:behindInMarks op b=false):QE X ow (.Compare a [op] [b] pos) (mOp f ma mb):=by
 obtain ⟨ta,pa,sa⟩:=ha; obtain ⟨tb,pb,sb⟩:=hb
 exact ⟨_,pT ho pa pb hm,ko hd sa sb⟩
theorem az {r:R2} {f:D→D→(D→Prop)→Prop} (ho:IxR X r) (hd:DOp r f) (ha:QE X ow a ma) (hb:QE X ow b mb) (hs:ii b):QE X ow (.Subscript a b pos) (mOp f ma mb):=by
 obtain ⟨ta,pa,sa⟩:=ha; obtain ⟨tb,pb,sb⟩:=hb
 exact ⟨_,qU ho pa pb hs,ko hd sa sb⟩
def mB (m:ME):MT:=fun ρ q=>m ρ fun d ρ'=>match d with
 | .bl b=>q b ρ'
 | _=>False
theorem bV {G:Hp} {b:Bool} {v:V} (h:Rep G (.bl b) v):v = .bl b:=by rw [Rep] at h; exact h
theorem aG {G:Hp} {b:Int} {v:V} (h:Rep G (.int b) v):v = .int b:=by rw [Rep] at h; exact h
theorem q9 {t:TE} {m:ME} (h:SE ow t m):STe ow (qY t) (mB m):=fun C G ρ σ H pd q Q r hm k=>by
 refine h C G ρ σ H pd _ _ r hm fun d ρ' v G' H' hq s kp r' p=>?_
 cases d with
 | bl b=>exact ⟨b,bV p,k b ρ' G' H' hq s kp r'⟩
 | _=>exact hq.elim
theorem aU {op:CmpOp} {r:R2} {f:D→D→(D→Prop)→Prop} (ho:OpR X (compareOp op) r) (hd:DOp r f) (ha:QE X ow a ma) (hb:QE X ow b mb) (hm:behindInMarks op b=false):QT X ow (.Compare a [op] [b] pos) (mB (mOp f ma mb)):=by
 obtain ⟨ta,pa,sa⟩:=ha; obtain ⟨tb,pb,sb⟩:=hb
 exact ⟨_,pU ho pa pb hm,q9 (ko hd sa sb)⟩
theorem aY (h:QE X ow e ma) (he:∀ whole,isTrue e X.env whole=(do let v ← whole; standAt e.pos; holding [v] (truthy v)):=by intro _; rfl):QT X ow e (mB ma):=by
 obtain ⟨ta,pa,sa⟩:=h
 exact ⟨_,rW pa he,q9 sa⟩
def mTru (m:ME):MT:=fun ρ q=>m ρ fun d ρ'=>match d with
 | .bl b=>q b ρ'
 | .lst ds=>q (!ds.isEmpty) ρ'
 | .tup ds=>q (!ds.isEmpty) ρ'
 | .int i=>q (i != 0) ρ'
 | .non=>q false ρ'
 | _=>False
theorem lQ {α β:Type} {xs:List α} {ds:List β} (h:xs.length=ds.length):(!xs.isEmpty) = !ds.isEmpty:=by
 cases xs <;> cases ds <;> simp_all
theorem oV (h:QE X ow e ma) (he:∀ whole,isTrue e X.env whole=(do let v ← whole; standAt e.pos; holding [v] (truthy v)):=by intro _; rfl):QT X ow e (mTru ma):=by
 obtain ⟨ta,pa,sa⟩:=h
 refine ⟨_,lY pa he,fun C G ρ σ H pd q Q r hm k=>?_⟩
 refine sa C G ρ σ H pd _ _ r hm fun d ρ' v G' H' hq s kp r' p=>?_
 cases d with
 | bl b=>exact ⟨b,by rw [bV p]; rfl,k b ρ' G' H' hq s kp r'⟩
 | int i=>exact ⟨_,by rw [aG p]; rfl,k _ ρ' G' H' hq s kp r'⟩
 | non=>exact ⟨_,by rw [Rep] at p; rw [p]; rfl,k _ ρ' G' H' hq s kp r'⟩
 | lst ds=>rw [Rep] at p; obtain ⟨a,xs,rfl,h1,h2⟩:=p; exact ⟨_,.inl ⟨xs,SqL.of (r'.gh _ _ h1),(lQ h2.length).symm⟩,k _ ρ' G' H' hq s kp r'⟩
 | tup ds=>rw [Rep] at p; obtain ⟨a,xs,rfl,h1,h2⟩:=p; exact ⟨_,.inr (.inl ⟨xs,SqT.of (r'.gh _ _ h1),(lQ h2.length).symm⟩),k _ ρ' G' H' hq s kp r'⟩
 | _=>exact hq.elim
def mIf {α:Type} (m:MT) (x y:DSt→(α→DSt→Prop)→Prop):DSt→(α→DSt→Prop)→Prop:=fun ρ q=>m ρ fun b ρ1=>if b=true then x ρ1 q else y ρ1 q
def oZ (b:Bool):MT:=fun ρ q=>q b ρ
theorem qR {t t1 t2:TT} {m m1 m2:MT} (h:STe ow t m) (h1:STe ow t1 m1) (h2:STe ow t2 m2):STe ow (fun σ H Q=>t σ H fun c H1=>if c=true then t1 σ H1 Q else t2 σ H1 Q) (mIf m m1 m2):=fun C G ρ σ H pd q Q r hm k=>by
 refine h C G ρ σ H pd _ _ r hm fun b ρ' G' H' hq s kp r'=>?_
 cases b with
 | true=>rw [if_pos rfl] at hq ⊢; exact h1 C G' ρ' σ H' pd _ _ r' hq fun b ρ2 G2 H2 hq2 s2 kp2 r2=>k b ρ2 G2 H2 hq2 (s.trans s2) (kp.trans kp2) r2
 | false=>rw [if_neg (by decide)] at hq ⊢; exact h2 C G' ρ' σ H' pd _ _ r' hq fun b ρ2 G2 H2 hq2 s2 kp2 r2=>k b ρ2 G2 H2 hq2 (s.trans s2) (kp.trans kp2) r2
theorem jS (b:Bool):STe ow (fun _ H Q=>Q b H) (oZ b):=fun C G ρ σ H pd q Q r hm k=>k b ρ G H hm (aD.refl _) Kp.refl r
variable {mt mu mv:MT} {rest:List Expr}
theorem pL (h:QT X ow a mt):QW X ow (.BoolOp .And [a] pos) mt:=by obtain ⟨t,p,s⟩:=h; exact ⟨_,ql p,s⟩
theorem dH (h:QT X ow a mt):QW X ow (.BoolOp .Or [a] pos) mt:=by obtain ⟨t,p,s⟩:=h; exact ⟨_,rF p,s⟩
theorem sr (h:QT X ow a mt) (h2:QW X ow (.BoolOp .And (b :: rest) pos) mu):QW X ow (.BoolOp .And (a :: b :: rest) pos) (mIf mt mu (oZ false)):=by
 obtain ⟨t,p,s⟩:=h; obtain ⟨t2,p2,s2⟩:=h2; exact ⟨_,sV p p2,qR s s2 (jS false)⟩
theorem er (h:QT X ow a mt) (h2:QW X ow (.BoolOp .Or (b :: rest) pos) mu):QW X ow (.BoolOp .Or (a :: b :: rest) pos) (mIf mt (oZ true) mu):=by
 obtain ⟨t,p,s⟩:=h; obtain ⟨t2,p2,s2⟩:=h2; exact ⟨_,pw_or p p2,qR s (jS true) s2⟩
theorem QW.qt (h:QW X ow e mt):QT X ow e mt:=by obtain ⟨t,p,s⟩:=h; exact ⟨_,p.pt,s⟩
def mNot (m:MT):MT:=fun ρ q=>m ρ fun b ρ'=>q (!b) ρ'
theorem bc (h:QT X ow a mt):QT X ow (.UnaryOp .Not a pos) (mNot mt):=by
 obtain ⟨t,p,s⟩:=h
 exact ⟨_,rU p,fun C G ρ σ H pd q Q r hm k=>s C G ρ σ H pd _ _ r hm fun b ρ' G' H' hq s kp r'=>k _ ρ' G' H' hq s kp r'⟩
def mV (m:MT):ME:=fun ρ q=>m ρ fun b ρ'=>q (.bl b) ρ'
theorem cM {op} (h:QE X ow a ma):QE X ow (.BoolOp op [a] pos) ma:=by obtain ⟨t,p,s⟩:=h; exact ⟨_,sN p,s⟩
theorem rP (h:QE X ow a ma):QE X ow (.UnaryOp .Not a pos) (mV (mNot (mB ma))):=by
 obtain ⟨t,p,s⟩:=h
 refine ⟨_,rS p,fun C G ρ σ H pd q Q r hm k=>?_⟩
 refine s C G ρ σ H pd _ _ r hm fun d ρ' v G' H' hq s kp r' p=>?_
 cases d with
 | bl b=>exact ⟨b,bV p,k _ ρ' _ G' H' hq s kp r' (bY _)⟩
 | _=>exact hq.elim
theorem cQ (h:QE X ow a ma) (h2:QE X ow (.BoolOp .And (b :: rest) pos) mb):QE X ow (.BoolOp .And (a :: b :: rest) pos) (mIf (mB ma) mb (mC (.bl false))):=by
 obtain ⟨t,p,s⟩:=h; obtain ⟨t2,p2,s2⟩:=h2
 refine ⟨_,rn p p2,fun C G ρ σ H pd q Q r hm k=>?_⟩
 refine s C G ρ σ H pd _ _ r hm fun d ρ' v G' H' hq s kp r' p=>?_
 cases d with
 | bl b =>
  refine ⟨b,bV p,?_⟩
  change (if b=true then _ else _) at hq
  cases b with
  | true=>rw [if_pos rfl] at hq ⊢; exact s2 C G' ρ' σ H' pd _ _ r' hq fun d ρ2 v G2 H2 hq2 z2 kp2 r2 p2=>k d ρ2 v G2 H2 hq2 (s.trans z2) (kp.trans kp2) r2 p2
  | false=>rw [if_neg (by decide)] at hq ⊢; exact k _ ρ' _ G' H' hq s kp r' (bY _)
 | _=>exact hq.elim
theorem qM (h:QE X ow a ma) (h2:QE X ow (.BoolOp .Or (b :: rest) pos) mb):QE X ow (.BoolOp .Or (a :: b :: rest) pos) (mIf (mB ma) (mC (.bl true)) mb):=by
 obtain ⟨t,p,s⟩:=h; obtain ⟨t2,p2,s2⟩:=h2
 refine ⟨_,pe_or p p2,fun C G ρ σ H pd q Q r hm k=>?_⟩
 refine s C G ρ σ H pd _ _ r hm fun d ρ' v G' H' hq s kp r' p=>?_
 cases d with
 | bl b =>
  refine ⟨b,bV p,?_⟩
  change (if b=true then _ else _) at hq
  cases b with
  | false=>rw [if_neg (by decide)] at hq ⊢; exact s2 C G' ρ' σ H' pd _ _ r' hq fun d ρ2 v G2 H2 hq2 z2 kp2 r2 p2=>k d ρ2 v G2 H2 hq2 (s.trans z2) (kp.trans kp2) r2 p2
  | true=>rw [if_pos rfl] at hq ⊢; exact k _ ρ' _ G' H' hq s kp r' (bY _)
 | _=>exact hq.elim
theorem QF.qe (h:QF X ow e ma):QE X ow e ma:=by
 obtain ⟨t,p,s⟩:=h
 refine ⟨_,p,fun C G ρ σ H pd q Q r hm k=>s C G ρ σ H pd _ _ r hm fun d ρ' v G' H' hq s kp r'=>?_⟩
 obtain ⟨O,r'⟩:=r'
 obtain ⟨G2,s2,r2,p2⟩:=r'.share r.np
 exact k d ρ' v G2 H' hq (s.trans s2) kp r2 p2
def mImm (m:ME):ME:=fun ρ q=>m ρ fun d ρ'=>imm d=true∧q d ρ'
theorem QE.qf (h:QE X ow e ma):QF X ow e (mImm ma):=by
 obtain ⟨t,p,s⟩:=h
 refine ⟨_,p,fun C G ρ σ H pd q Q r hm k=>s C G ρ σ H pd _ _ r hm fun d ρ' v G' H' hq s kp r' p=>?_⟩
 obtain ⟨O,r'⟩:=r'
 exact k d ρ' v G' H' hq.2 s kp ⟨O,r'.len,r'.gh,r'.g0,r'.gn,r'.og,r'.cok,r'.fr,r'.ft,r'.al,r'.mp,r'.sl,⟨p.sep d [] v hq.1,r'.pn⟩,Nat.le_succ_of_le r'.np⟩
theorem j_ {js:List Nat} {ρ ρ':DSt} (h:Kp (bor js ow) ρ ρ'):Kp ow ρ ρ':=fun j n=>h j fun z=>n (cm.mp z).1
theorem QE.bor (js:List Nat) (h:QE X (bor js ow) e ma):QE X ow e (mImm ma):=by
 obtain ⟨t,p,s⟩:=h
 refine ⟨_,p,fun C G ρ σ H pd q Q r hm k=>?_⟩
 obtain ⟨O,r⟩:=r
 refine s _ _ ρ σ H pd _ _ ⟨_,r.enter js⟩ hm fun d ρ' v G' H' hq s kp r' p=>?_
 obtain ⟨O',r'⟩:=r'
 obtain ⟨r2,s2,ts⟩:=r.leave r' kp
 exact k d ρ' v _ H' hq.2 s2 (j_ kp) ⟨_,r2⟩ (p.imms ts d v hq.1)
theorem QF.bor (js:List Nat) (h:QF X (bor js ow) e ma):QF X ow e ma:=by
 obtain ⟨t,p,s⟩:=h
 refine ⟨_,p,fun C G ρ σ H pd q Q r hm k=>?_⟩
 obtain ⟨O,r⟩:=r
 refine s _ _ ρ σ H pd _ _ ⟨_,r.enter js⟩ hm fun d ρ' v G' H' hq s kp r'=>?_
 obtain ⟨O',r'⟩:=r'
 obtain ⟨r2,s2,ts⟩:=r.leave r' kp
 exact k d ρ' v _ H' hq s2 (j_ kp) ⟨_,r2⟩
theorem QT.bor (js:List Nat) (h:QT X (bor js ow) e mt):QT X ow e mt:=by
 obtain ⟨t,p,s⟩:=h
 refine ⟨_,p,fun C G ρ σ H pd q Q r hm k=>?_⟩
 obtain ⟨O,r⟩:=r
 refine s _ _ ρ σ H pd _ _ ⟨_,r.enter js⟩ hm fun d ρ' G' H' hq s kp r'=>?_
 obtain ⟨O',r'⟩:=r'
 obtain ⟨r2,s2,ts⟩:=r.leave r' kp
 exact k d ρ' _ H' hq s2 (j_ kp) ⟨_,r2⟩
def lq:MA:=fun ρ q=>q [] ρ
def el (m:ME) (r:MA):MA:=fun ρ q=>m ρ fun d ρ1=>r ρ1 fun ds ρ2=>q (d :: ds) ρ2
variable {mr:MA} {es:List Expr}
theorem aj:QA X ow [] lq:=⟨_,bw,fun C G ρ σ H pd q Q r h k=>k [] ρ [] G H h (aD.refl _) Kp.refl r bp rfl⟩
theorem ad (ha:QE X ow e ma) (hr:QA X ow es mr) (hs:starEach (e :: es) X.env=(false,eval e X.env) :: starEach es X.env:=by rfl):QA X ow (e :: es) (el ma mr):=by
 obtain ⟨t,p,s⟩:=ha; obtain ⟨t2,p2,s2⟩:=hr
 refine ⟨_,aL p p2 hs,fun C G ρ σ H pd q Q r hm k=>?_⟩
 refine s C G ρ σ H pd _ _ r hm fun d ρ' v G' H' hq z kp r' p=>?_
 refine s2 C G' ρ' σ H' pd _ _ r' hq fun ds ρ2 vs G2 H2 hq2 z2 kp2 r2 p2 hl=>?_
 exact k (d :: ds) ρ2 (v :: vs) G2 H2 hq2 (z.trans z2) (kp.trans kp2) r2 (bq (Rep.mono z2 _ _ p) p2) (by simp [hl])
def mTup (m:MA):ME:=fun ρ q=>m ρ fun ds ρ'=>q (.tup ds) ρ'
def mLst (m:MA):ME:=fun ρ q=>m ρ fun ds ρ'=>q (.lst ds) ρ'
def mLstI (m:MA):ME:=fun ρ q=>m ρ fun ds ρ'=>imms ds=true∧q (.lst ds) ρ'
theorem cL {n:Nat} (h:n≤1000):n≤sizeLine:=Nat.le_of_lt (de h)
theorem bx {x1} (h:QA X ow es mr) (hl:es.length≤1000:=by decide):QE X ow (.Tuple es x1 pos) (mTup mr):=by
 obtain ⟨t,p,s⟩:=h
 refine ⟨_,j5 p,fun C G ρ σ H pd q Q r hm k=>s C G ρ σ H pd _ _ r hm fun ds ρ' vs G' H' hq z kp r' p hn=>⟨cL (by omega),fun a ha=>?_⟩⟩
 obtain ⟨O,r'⟩:=r'
 obtain ⟨r2,s2⟩:=r'.new ha (.tup vs)
 exact k _ ρ' _ _ _ hq (z.trans s2) kp ⟨O,r2⟩ (kl av (Reps.mono s2 _ _ p))
theorem cB (h:QA X ow es mr) (hl:es.length≤1000:=by decide):QE X ow (.List es pos) (mLst mr):=by
 obtain ⟨t,p,s⟩:=h
 refine ⟨_,n9 p,fun C G ρ σ H pd q Q r hm k=>s C G ρ σ H pd _ _ r hm fun ds ρ' vs G' H' hq z kp r' p hn=>⟨cL (by omega),fun a ha=>?_⟩⟩
 obtain ⟨O,r'⟩:=r'
 obtain ⟨r2,s2⟩:=r'.new ha (.lst vs)
 exact k _ ρ' _ _ _ hq (z.trans s2) kp ⟨O,r2⟩ (fP av (Reps.mono s2 _ _ p))
theorem jE (h:QA X ow es mr) (hl:es.length≤1000:=by decide):QF X ow (.List es pos) (mLstI mr):=by
 obtain ⟨t,p,s⟩:=h
 refine ⟨_,n9 p,fun C G ρ σ H pd q Q r hm k=>s C G ρ σ H pd _ _ r hm fun ds ρ' vs G' H' hq z kp r' p hn=>⟨cL (by omega),fun a ha=>?_⟩⟩
 obtain ⟨O,r'⟩:=r'
 exact k _ ρ' _ _ _ hq.2 z kp (r'.newL ha hq.1 p)
def i4 (r:List V→Hp→VK→Prop) (f:List D→(D→Prop)→Prop):Prop:=∀ (G H:Hp) (xs:List V) (ds:List D) (q:D→Prop) (Q:VK),aD G H→Reps G ds xs→f ds q→(∀ d v,q d→Rep G d v→Q v H)→r xs H Q
def mCB (f:List D→(D→Prop)→Prop) (m:MA):ME:=fun ρ q=>m ρ fun ds ρ'=>f ds fun d=>q d ρ'
theorem se_cb {r:List V→Hp→VK→Prop} {f:List D→(D→Prop)→Prop} {t:TA} {n:Nat} (hd:i4 r f) (s:SA ow n t mr):SE ow (tCB r t) (mCB f mr):=fun C G ρ σ H pd q Q hr hm k =>
 s C G ρ σ H pd _ _ hr hm fun ds ρ' vs G' H' hq z kp r' p hn=>hd G' H' vs ds _ _ r'.gh p hq fun d v hq p=>k d ρ' v G' H' hq z kp r' p
variable {x:Str} {p':Pos}
theorem aF {id:String} {r:List V→Hp→VK→Prop} {f:List D→(D→Prop)→Prop} (hc:dC X (.builtin id) r) (hd:i4 r f) (hg:Gl X x) (hm:X.mg x=none) (hv:bootBuiltins x=some (.builtin id)) (ha:QA X ow (e :: es) mr) (hn:x ≠ "__name__":=by decide) (hdb:(x == ("__debug__":Str))=false:=by decide)
 (he:starEach (e :: es) X.env=(false,eval e X.env) :: starEach es X.env:=by rfl) (hpl:(backTo pos (starEach es X.env)).any (·.1)=false:=by rfl):QE X ow (.Call (.Name x p') (e :: es) [] pos) (mCB f mr):=by
 obtain ⟨t,p,s⟩:=ha
 exact ⟨_,eL hc hg hm hv p hn hdb he hpl,se_cb hd s⟩
end
def fI (g:Int→Int→Int):D→D→(D→Prop)→Prop:=fun a b q=>match a,b with
 | .int i,.int j=>q (.int (g i j))
 | _,_=>False
def fIC (C:Int→Int→Prop) (g:Int→Int→Int):D→D→(D→Prop)→Prop:=fun a b q=>match a,b with
 | .int i,.int j=>C i j∧q (.int (g i j))
 | _,_=>False
def fB (g:Int→Int→Bool):D→D→(D→Prop)→Prop:=fun a b q=>match a,b with
 | .int i,.int j=>q (.bl (g i j))
 | _,_=>False
theorem dI {g:Int→Int→Int}:DOp (rI0 fun i j=>.int (g i j)) (fI g):=fun G H x y dx dy q Q s p1 p2 hf k=>by
 unfold fI at hf
 split at hf
 ·exact ⟨_,_,aG p1,aG p2,k _ _ hf (bD _)⟩
 ·exact hf.elim
theorem dIC {C:Int→Int→Prop} {g:Int→Int→Int}:DOp (rI C fun i j=>.int (g i j)) (fIC C g):=fun G H x y dx dy q Q s p1 p2 hf k=>by
 unfold fIC at hf
 split at hf
 ·exact ⟨_,_,aG p1,aG p2,hf.1,k _ _ hf.2 (bD _)⟩
 ·exact hf.elim
theorem dB {g:Int→Int→Bool}:DOp (rI0 fun i j=>.bl (g i j)) (fB g):=fun G H x y dx dy q Q s p1 p2 hf k=>by
 unfold fB at hf
 split at hf
 ·exact ⟨_,_,aG p1,aG p2,k _ _ hf (bY _)⟩
 ·exact hf.elim
def eqD (a b:D):Bool:=PyData.eqv (toP a) (toP b)
def okD (a:D):Bool:=SeqAt.shaped (toP a)
def fEq:D→D→(D→Prop)→Prop:=fun a b q=>match a,b with
 | .int i,.int j=>q (.bl (decide (i=j)))
 | a,b=>okD a=true∧okD b=true∧q (.bl (eqD a b))
def fNe:D→D→(D→Prop)→Prop:=fun a b q=>match a,b with
 | .int i,.int j=>q (.bl (!decide (i=j)))
 | a,b=>okD a=true∧okD b=true∧q (.bl (!eqD a b))
theorem kO (i j:Int):eqD (.int i) (.int j)=decide (i=j):=by
 unfold eqD; rw [toP,toP,PyData.eqv]; first | rfl | (rw [Bool.beq_eq_decide_eq])
theorem fM (i:Int):okD (.int i)=true:=by unfold okD; rw [toP]; rfl
theorem dEq:DOp rEqD fEq:=fun G H x y dx dy q Q s p1 p2 hf k=>by
 have main:okD dx=true∧okD dy=true∧q (.bl (eqD dx dy)):=by
  unfold fEq at hf
  split at hf
  ·exact ⟨fM _,fM _,by rw [kO]; exact hf⟩
  ·exact hf
 exact ⟨dx,dy,Rep.mono s _ _ p1,Rep.mono s _ _ p2,main.1,main.2.1,k _ _ main.2.2 (bY _)⟩
theorem dNe:DOp rNeD fNe:=fun G H x y dx dy q Q s p1 p2 hf k=>by
 have main:okD dx=true∧okD dy=true∧q (.bl (!eqD dx dy)):=by
  unfold fNe at hf
  split at hf
  ·exact ⟨fM _,fM _,by rw [kO]; exact hf⟩
  ·exact hf
 exact ⟨dx,dy,Rep.mono s _ _ p1,Rep.mono s _ _ p2,main.1,main.2.1,k _ _ main.2.2 (bY _)⟩
def isNon:D→Bool
 | .non=>true
 | _=>false
def fIsB:D→D→(D→Prop)→Prop:=fun a b q=>match a,b with
 | .bl x,.bl y=>q (.bl (x == y))
 | _,_=>False
def dD:D→Bool
 | .non=>true
 | .bl _=>true
 | .int _=>true
 | .str _=>true
 | _=>false
def eqF:D→D→Bool
 | .non,.non=>true
 | .bl a,.bl b=>a == b
 | .bl a,.int b=>(if a then 1 else 0) == b
 | .int a,.bl b=>a == (if b then 1 else 0)
 | .int a,.int b=>a == b
 | .str a,.str b=>a == b
 | _,_=>false
def toV:D→V
 | .non=>.non
 | .bl b=>.bl b
 | .int i=>.int i
 | .str x=>.str x
 | _=>.non
theorem dP {G:Hp} {d:D} {v:V} (h:Rep G d v) (f:dD d=true):v=toV d:=by
 cases d <;> first | (rw [Rep] at h; exact h) | cases f
theorem qj:∀ {a b:D},dD a=true→dD b=true→eqV (toV a) (toV b)=eqF a b:=by
 intro a b f g
 cases a <;> cases b <;> first | rfl | exact absurd f Bool.false_ne_true | exact absurd g Bool.false_ne_true
theorem fh {d:D} (f:dD d=true):em (toV d)=true:=by
 cases d <;> first | rfl | cases f
theorem db {G:Hp}:∀ {ds:List D} {xs:List V},Reps G ds xs→ds.all dD=true→xs=ds.map toV
 | [],xs,h,_=>by rw [Reps] at h; subst h; rfl
 | d :: ds,xs,h,f=>by
  rw [Reps] at h
  obtain ⟨v,vs,rfl,h1,h2⟩:=h
  rw [List.all_cons,Bool.and_eq_true] at f
  rw [dP h1 f.1,db h2 f.2]; rfl
def inD (a:D) (ds:List D):Bool:=ds.any fun y=>eqF y a
theorem ib {a:D} (f:dD a=true):∀ {ds:List D},ds.all dD=true→inV (toV a) (ds.map toV)=inD a ds
 | [],_=>rfl
 | d :: ds,g=>by
  rw [List.all_cons,Bool.and_eq_true] at g
  have:=ib f g.2
  unfold inV inD at *
  rw [List.map_cons,List.any_cons,List.any_cons,qj g.1 f,this]
theorem gu:∀ {ds:List D},ds.all dD=true→(ds.map toV).all em=true
 | [],_=>rfl
 | d :: ds,g=>by
  rw [List.all_cons,Bool.and_eq_true] at g
  rw [List.map_cons,List.all_cons,fh g.1,gu g.2]; rfl
def fIn (neg:Bool):D→D→(D→Prop)→Prop:=fun a b q=>match b with
 | .lst ds=>dD a=true∧ds.all dD=true∧q (.bl (if neg then !inD a ds else inD a ds))
 | .tup ds=>dD a=true∧ds.all dD=true∧q (.bl (if neg then !inD a ds else inD a ds))
 | _=>False
theorem dIn {K:PySem.W.Frag} {neg:Bool}:DOp (rIn K neg) (fIn neg):=fun G H x y dx dy q Q s p1 p2 hf k=>by
 unfold fIn at hf
 split at hf
 ·rw [Rep] at p2
  obtain ⟨a,xs,rfl,h1,h2⟩:=p2
  obtain ⟨f1,f2,hq⟩:=hf
  refine ⟨a,xs,rfl,.inl (SqL.of (s _ _ h1)),?_,?_,?_⟩
  ·rw [dP p1 f1]; exact fh f1
  ·rw [db h2 f2]; exact gu f2
  ·rw [dP p1 f1,db h2 f2,ib f1 f2]; exact k _ _ hq (bY _)
 ·rw [Rep] at p2
  obtain ⟨a,xs,rfl,h1,h2⟩:=p2
  obtain ⟨f1,f2,hq⟩:=hf
  refine ⟨a,xs,rfl,.inr (SqT.of (s _ _ h1)),?_,?_,?_⟩
  ·rw [dP p1 f1]; exact fh f1
  ·rw [db h2 f2]; exact gu f2
  ·rw [dP p1 f1,db h2 f2,ib f1 f2]; exact k _ _ hq (bY _)
 ·exact hf.elim
def atD (ds:List D) (i:Int) (q:D→Prop):Prop:=match atI ds i with
 | some d=>q d
 | none=>False
def fIx (K:PySem.W.Frag):D→D→(D→Prop)→Prop:=fun a b q=>match a,b with
 | .lst ds,.int i=>atD ds i q
 | .tup ds,.int i=>atD ds i q
 | .scr φ ns,.int i=>(∀ a H,φ a→SqL K H a (ns.map V.int))∧match atI ns i with
  | some n=>q (.int n)
  | none=>False
 | _,_=>False
theorem fS {G:Hp}:∀ {ds:List D} {xs:List V} {j:Nat} {d:D},Reps G ds xs→ds[j]? = some d→∃ v,xs[j]? = some v∧Rep G d v
 | [],_,_,_,_,e=>by simp at e
 | d :: ds,xs,0,e,h,q=>by rw [Reps] at h; obtain ⟨v,vs,rfl,h1,_⟩:=h; simp at q; subst q; exact ⟨v,rfl,h1⟩
 | d :: ds,xs,j + 1,e,h,q=>by
  rw [Reps] at h
  obtain ⟨v,vs,rfl,_,h2⟩:=h
  obtain ⟨u,e1,e2⟩:=fS (j:=j) h2 (by simpa using q)
  exact ⟨u,by simpa using e1,e2⟩
theorem iZ {G:Hp} {ds:List D} {xs:List V} {i:Int} {d:D} (h:Reps G ds xs) (e:atI ds i=some d):∃ v,atI xs i=some v∧Rep G d v:=by
 unfold atI at *
 rw [h.length]
 cases q:ixN ds.length i with
 | none=>rw [q] at e; cases e
 | some j=>rw [q] at e; exact fS h e
theorem pV {α β:Type} {f : α→β} {xs:List α} {i:Int} {x : α} (h:atI xs i=some x):atI (xs.map f) i=some (f x):=by
 unfold atI at *
 rw [List.length_map]
 cases q:ixN xs.length i with
 | none=>rw [q] at h; cases h
 | some j=>rw [q] at h; rw [show (Option.some j).bind _=(xs.map f)[j]? from rfl,List.getElem?_map,show xs[j]? = some x from h]; rfl
theorem dIx {K:PySem.W.Frag}:DOp (rIx K) (fIx K):=fun G H x y dx dy q Q s p1 p2 hf k=>by
 unfold fIx at hf
 split at hf
 ·rw [Rep] at p1
  obtain ⟨a,xs,rfl,h1,h2⟩:=p1
  unfold atD at hf
  split at hf
  ·rename_i e
   obtain ⟨v,e1,e2⟩:=iZ h2 e
   exact .inl ⟨a,xs,_,v,rfl,aG p2,SqL.of (s _ _ h1),e1,k _ _ hf e2⟩
  ·exact hf.elim
 ·rw [Rep] at p1
  obtain ⟨a,xs,rfl,h1,h2⟩:=p1
  unfold atD at hf
  split at hf
  ·rename_i e
   obtain ⟨v,e1,e2⟩:=iZ h2 e
   exact .inr (.inl ⟨a,xs,_,v,rfl,aG p2,SqT.of (s _ _ h1),e1,k _ _ hf e2⟩)
  ·exact hf.elim
 ·rw [Rep] at p1
  obtain ⟨a,rfl,h1⟩:=p1
  obtain ⟨hk,hf⟩:=hf
  split at hf
  ·rename_i e
   refine .inl ⟨a,_,_,_,rfl,aG p2,?_,pV e,k _ _ hf (bD _)⟩
   rcases h1 with ⟨o,h1⟩ | h1
   ·exact .inl (.inr ⟨o,s _ _ h1⟩)
   ·exact hk a H h1
  ·exact hf.elim
 ·exact hf.elim
def fLen (K:PySem.W.Frag):List D→(D→Prop)→Prop:=fun ds q=>match ds with
 | [.lst ds]=>q (.int ds.length)
 | [.tup ds]=>q (.int ds.length)
 | [.scr φ ns]=>(∀ a H,φ a→SqL K H a (ns.map V.int))∧q (.int ns.length)
 | _=>False
theorem cy {G:Hp} {ds:List D} {v:V} (h:Rep G (.lst ds) v):∃ a xs,v = .ref a∧G a=some (.lst xs)∧Reps G ds xs:=by rw [Rep] at h; exact h
theorem eI {G:Hp} {ds:List D} {v:V} (h:Rep G (.tup ds) v):∃ a xs,v = .ref a∧G a=some (.tup xs)∧Reps G ds xs:=by rw [Rep] at h; exact h
theorem jC {G:Hp} {φ:Addr→Prop} {ns:List Int} {v:V} (h:Rep G (.scr φ ns) v):∃ a,v = .ref a∧((∃ o,G a=some (.frz o (.lst (ns.map V.int))))∨φ a):=by rw [Rep] at h; exact h
theorem b8 {G:Hp} {d:D} {xs:List V} (h:Reps G [d] xs):∃ v,xs=[v]∧Rep G d v:=by
 rw [Reps] at h; obtain ⟨v,vs,rfl,h1,h2⟩:=h; rw [Reps] at h2; subst h2; exact ⟨v,rfl,h1⟩
theorem dS {G:Hp} {d e:D} {xs:List V} (h:Reps G [d,e] xs):∃ v u,xs=[v,u]∧Rep G d v∧Rep G e u:=by
 rw [Reps] at h; obtain ⟨v,vs,rfl,h1,h2⟩:=h; obtain ⟨u,rfl,h3⟩:=b8 h2; exact ⟨v,u,rfl,h1,h3⟩
theorem cE {K:PySem.W.Frag}:i4 (fun xs H Q=>∃ p ys,xs=[.ref p]∧(SqL K H p ys∨SqT K H p ys)∧Q (.int ys.length) H) (fLen K):=fun G H xs ds q Q s p hf k=>by
 unfold fLen at hf
 split at hf
 ·obtain ⟨v,rfl,p1⟩:=b8 p
  obtain ⟨a,xs,rfl,h1,h2⟩:=cy p1
  exact ⟨a,xs,rfl,.inl (SqL.of (s _ _ h1)),by rw [h2.length]; exact k _ _ hf (bD _)⟩
 ·obtain ⟨v,rfl,p1⟩:=b8 p
  obtain ⟨a,xs,rfl,h1,h2⟩:=eI p1
  exact ⟨a,xs,rfl,.inr (SqT.of (s _ _ h1)),by rw [h2.length]; exact k _ _ hf (bD _)⟩
 ·obtain ⟨v,rfl,p1⟩:=b8 p
  obtain ⟨a,rfl,h1⟩:=jC p1
  rename_i φ ns
  have hS:SqL K H a (ns.map V.int):=by
   rcases h1 with ⟨o,h1⟩ | h1
   ·exact .inl (.inr ⟨o,s _ _ h1⟩)
   ·exact hf.1 a H h1
  exact ⟨a,_,rfl,.inl hS,by rw [List.length_map]; exact k _ _ hf.2 (bD _)⟩
 ·exact hf.elim
def fMax:List D→(D→Prop)→Prop:=fun ds q=>match ds with
 | [.int i,.int j]=>q (.int (if j > i then j else i))
 | _=>False
def fMin:List D→(D→Prop)→Prop:=fun ds q=>match ds with
 | [.int i,.int j]=>q (.int (if j<i then j else i))
 | _=>False
theorem dMax:i4 (fun xs H Q=>∃ i j,xs=[.int i,.int j]∧Q (.int (if j > i then j else i)) H) fMax:=fun G H xs ds q Q s p hf k=>by
 unfold fMax at hf
 split at hf
 ·obtain ⟨v,u,rfl,p1,p2⟩:=dS p
  rw [aG p1,aG p2]
  exact ⟨_,_,rfl,k _ _ hf (bD _)⟩
 ·exact hf.elim
theorem dMin:i4 (fun xs H Q=>∃ i j,xs=[.int i,.int j]∧Q (.int (if j<i then j else i)) H) fMin:=fun G H xs ds q Q s p hf k=>by
 unfold fMin at hf
 split at hf
 ·obtain ⟨v,u,rfl,p1,p2⟩:=dS p
  rw [aG p1,aG p2]
  exact ⟨_,_,rfl,k _ _ hf (bD _)⟩
 ·exact hf.elim
section
variable {X:Cx} {ow:List Bool} {a b c e:Expr} {ma mb mc:ME} {pos:Pos} {mr:MA} {es:List Expr}
def mNeg (m:ME):ME:=fun ρ q=>m ρ fun d ρ'=>match d with
 | .int i=>q (.int (-i)) ρ'
 | _=>False
def mIsT (T:String) (m:ME):ME:=fun ρ q=>m ρ fun d ρ'=>match lv d T with
 | some b=>q (.bl b) ρ'
 | none=>False
theorem bT {T:String} {x y:Str} {p1 p2:Pos} (hg:Gl X x) (hm:X.mg x=none) (hv:bootBuiltins x=some (.builtin "isinstance")) (ha:QE X ow a ma) (ht:PE X (.Name y p2) (tC (.ty T)))
 (hn:x ≠ "__name__":=by decide) (hdb:(x == ("__debug__":Str))=false:=by decide)
 (hs:starEach [.Name y p2] X.env=[(false,eval (.Name y p2) X.env)]:=by rfl)
 (he:starEach [a,.Name y p2] X.env=(false,eval a X.env) :: starEach [.Name y p2] X.env:=by rfl) (hpl:(backTo pos (starEach [.Name y p2] X.env)).any (·.1)=false:=by rfl) :
 QE X ow (.Call (.Name x p1) [a,.Name y p2] [] pos) (mIsT T ma):=by
 obtain ⟨t,p,s⟩:=ha
 refine ⟨_,eL iY hg hm hv (aL p (aL ht bw hs) he) hn hdb he hpl,fun C G ρ σ H pd q Q r hm k=>s C G ρ σ H pd _ _ r hm fun d ρ' v G' H' hq s kp r' p=>?_⟩
 cases e:lv d T with
 | none=>rw [e] at hq; exact hq.elim
 | some b=>rw [e] at hq; exact ⟨v,T,d,b,rfl,Rep.mono r'.gh _ _ p,e,k _ ρ' _ G' H' hq s kp r' (bY _)⟩
def mZ (f g:D→D→(D→Prop)→Prop) (ma mb mc:ME):ME:=fun ρ q=>ma ρ fun x ρ1=>mb ρ1 fun y ρ2=>f x y fun z=>match z with
 | .bl k=>if k=true then mc ρ2 fun w ρ3=>g y w fun d=>q d ρ3 else q (.bl false) ρ2
 | _=>False
theorem nU {r r':R2} {f g:D→D→(D→Prop)→Prop} {ta tb tc:TE} (hf:DOp r f) (hg:DOp r' g) (ha:SE ow ta ma) (hb:SE ow tb mb) (hc:SE ow tc mc):SE ow (oR r r' ta tb tc) (mZ f g ma mb mc):=fun C G ρ σ H pd q Q hr h k=>by
 refine iB (Q:=fun x y H2=>r x y H2 _) ha hb hr h fun dx dy ρ' x y G' H' h1 s kp r1 p1 p2=>?_
 refine hf G' H' x y dx dy _ _ r1.gh p1 p2 h1 fun d v hq p=>?_
 cases d with
 | bl b =>
  refine ⟨b,bV p,?_⟩
  change (if b=true then _ else _) at hq
  cases b with
  | true =>
   rw [if_pos rfl] at hq ⊢
   refine hc C G' ρ' σ H' pd _ _ r1 hq fun dw ρ3 w G3 H3 h3 s3 kp3 r3 p3=>?_
   exact hg G3 H3 y w dy dw _ _ r3.gh (Rep.mono s3 _ _ p2) p3 h3 fun d v hq p=>k d ρ3 v G3 H3 hq (s.trans s3) (kp.trans kp3) r3 p
  | false=>rw [if_neg (by decide)] at hq ⊢; exact k _ ρ' _ G' H' hq s kp r1 (bY _)
 | _=>exact hq.elim
theorem i3 {op op':CmpOp} {r r':R2} {f g:D→D→(D→Prop)→Prop} (ho:OpR X (compareOp op) r) (ho':OpR X (compareOp op') r') (hf:DOp r f) (hg:DOp r' g) (ha:QE X ow a ma) (hb:QE X ow b mb) (hc:QE X ow c mc)
 (hm:lastMarks [op,op'] [b,c]=false:=by with_unfolding_all rfl):QE X ow (.Compare a [op,op'] [b,c] pos) (mZ f g ma mb mc):=by
 obtain ⟨ta,pa,sa⟩:=ha; obtain ⟨tb,pb,sb⟩:=hb; obtain ⟨tc,pc,sc⟩:=hc
 exact ⟨_,nu ho ho' pa pb pc hm,nU hf hg sa sb sc⟩
def fo (r:List V→Hp→VK→Prop) (f:List D→(List D→Prop)→Prop):Prop:=∀ (G H:Hp) (xs:List V) (ds:List D) (q:List D→Prop) (Q:VK),aD G H→Reps G ds xs→f ds q →
 (∀ es ys p,q es→Reps G es ys→H p=none→Q (.ref p) (upd H p (.lst ys)))→r xs H Q
def mNew (f:List D→(List D→Prop)→Prop) (m:MA):ME:=fun ρ q=>m ρ fun ds ρ'=>f ds fun es=>imms es=true∧q (.lst es) ρ'
def o3 (f:List D→(List D→Prop)→Prop) (m:MA):ME:=fun ρ q=>m ρ fun ds ρ'=>f ds fun es=>q (.lst es) ρ'
theorem mj {r:List V→Hp→VK→Prop} {f:List D→(List D→Prop)→Prop} {t:TA} {n:Nat} (hd:fo r f) (s:SA ow n t mr):SF ow (fun σ H Q=>t σ H fun xs H1=>r xs H1 Q) (mNew f mr):=fun C G ρ σ H pd q Q hr hm k =>
 s C G ρ σ H pd _ _ hr hm fun ds ρ' vs G' H' hq z kp r' p hn=>hd G' H' vs ds _ _ r'.gh p hq fun es ys a hq p ha=>by
  obtain ⟨O,r'⟩:=r'
  exact k _ ρ' _ _ _ hq.2 z kp (r'.newL ha hq.1 p)
theorem mw {r:List V→Hp→VK→Prop} {f:List D→(List D→Prop)→Prop} {t:TA} {n:Nat} (hd:fo r f) (s:SA ow n t mr):SE ow (fun σ H Q=>t σ H fun xs H1=>r xs H1 Q) (o3 f mr):=fun C G ρ σ H pd q Q hr hm k =>
 s C G ρ σ H pd _ _ hr hm fun ds ρ' vs G' H' hq z kp r' p hn=>hd G' H' vs ds _ _ r'.gh p hq fun es ys a hq p ha=>by
  obtain ⟨O,r'⟩:=r'
  obtain ⟨r2,s2⟩:=r'.new ha (.lst ys)
  exact k _ ρ' _ _ _ hq (z.trans s2) kp ⟨O,r2⟩ (fP av (Reps.mono s2 _ _ p))
theorem nL {ta tb:TE} (ha:SE ow ta ma) (hb:SE ow tb mb):SA ow 2 (fun σ H Q=>ta σ H fun x H1=>tb σ H1 fun y H2=>Q [x,y] H2) (el ma (el mb lq)):=fun C G ρ σ H pd q Q hr hm k =>
 iB (Q:=fun x y H2=>Q [x,y] H2) ha hb hr hm fun dx dy ρ' x y G' H' h1 s kp r1 p1 p2=>k [dx,dy] ρ' [x,y] G' H' h1 s kp r1 (bq p1 (bq p2 bp)) rfl
theorem dL {G:Hp}:∀ {ds es:List D} {xs ys:List V},Reps G ds xs→Reps G es ys→Reps G (ds++es) (xs++ys)
 | [],es,xs,ys,h,h2=>by rw [Reps] at h; subst h; exact h2
 | d :: ds,es,xs,ys,h,h2=>by rw [Reps] at h; obtain ⟨v,vs,rfl,h1,h3⟩:=h; exact bq h1 (dL h3 h2)
theorem gL {G:Hp}:∀ {ds:List D} {xs:List V} (n:Nat),Reps G ds xs→Reps G (ds.drop n) (xs.drop n)
 | [],xs,n,h=>by rw [Reps] at h; subst h; simp; exact bp
 | d :: ds,xs,0,h=>h
 | d :: ds,xs,n + 1,h=>by rw [Reps] at h; obtain ⟨v,vs,rfl,h1,h3⟩:=h; exact gL n h3
theorem g8 {G:Hp}:∀ {ds:List D} {xs:List V} (n:Nat),Reps G ds xs→Reps G (ds.take n) (xs.take n)
 | [],xs,n,h=>by rw [Reps] at h; subst h; simp; exact bp
 | d :: ds,xs,0,h=>by simp; exact bp
 | d :: ds,xs,n + 1,h=>by rw [Reps] at h; obtain ⟨v,vs,rfl,h1,h3⟩:=h; exact bq h1 (g8 n h3)
theorem ji {G:Hp} {ds:List D} {xs:List V} (h:Reps G ds xs):∀ n:Nat,Reps G (List.replicate n ds).flatten (List.replicate n xs).flatten
 | 0=>by simp; exact bp
 | n + 1=>by simp [List.replicate_succ]; exact dL h (ji h n)
def fCat:List D→(List D→Prop)→Prop:=fun ds q=>match ds with
 | [.lst xs,.lst ys]=>xs.length + ys.length≤1000∧q (xs++ys)
 | _=>False
theorem dCat:fo (fun xs H Q=>∃ x y,xs=[x,y]∧rCat x y H Q) fCat:=fun G H xs ds q Q s p hf k=>by
 unfold fCat at hf
 split at hf
 ·obtain ⟨v,u,rfl,p1,p2⟩:=dS p
  rw [Rep] at p1 p2
  obtain ⟨a1,xs,rfl,h1,h2⟩:=p1
  obtain ⟨a2,ys,rfl,h3,h4⟩:=p2
  exact ⟨_,_,rfl,a1,a2,xs,ys,rfl,rfl,s _ _ h1,s _ _ h3,cL (by rw [h2.length,h4.length]; exact hf.1),fun p hp=>k _ _ p hf.2 (dL h2 h4) hp⟩
 ·exact hf.elim
def fRep:List D→(List D→Prop)→Prop:=fun ds q=>match ds with
 | [.lst xs,.int n]=>(-(2 ^ 63)≤n∧n<2 ^ 63∧xs.length * n.toNat≤1000)∧q (List.replicate n.toNat xs).flatten
 | _=>False
theorem dRep:fo (fun xs H Q=>∃ x y,xs=[x,y]∧rRep x y H Q) fRep:=fun G H xs ds q Q s p hf k=>by
 unfold fRep at hf
 split at hf
 ·obtain ⟨v,u,rfl,p1,p2⟩:=dS p
  obtain ⟨a1,xs,rfl,h1,h2⟩:=cy p1
  rw [aG p2]
  exact ⟨_,_,rfl,a1,_,xs,rfl,rfl,s _ _ h1,hf.1.1,hf.1.2.1,cL (by rw [h2.length]; exact hf.1.2.2),fun p hp=>k _ _ p hf.2 (ji h2 _) hp⟩
 ·exact hf.elim
def mMk (f:List D→(List D→Prop)→Prop) (ma mb:ME):ME:=mNew f (el ma (el mb lq))
def mMkS (f:List D→(List D→Prop)→Prop) (ma mb:ME):ME:=o3 f (el ma (el mb lq))
def R2ok (r:R2):List V→Hp→VK→Prop:=fun xs H Q=>match xs with
 | [x,y]=>r x y H Q
 | _=>False
theorem fo.r2 {r:R2} {f:List D→(List D→Prop)→Prop} (h:fo (fun xs H Q=>∃ x y,xs=[x,y]∧r x y H Q) f):fo (R2ok r) f:=fun G H xs ds q Q s p hf k=>by
 obtain ⟨x,y,rfl,z⟩:=h G H xs ds q Q s p hf k
 exact z
theorem qf_mk {op:Operator} {r:R2} {f:List D→(List D→Prop)→Prop} (ho:OpR X (binaryOp op) r) (hd:fo (fun xs H Q=>∃ x y,xs=[x,y]∧r x y H Q) f) (ha:QE X ow a ma) (hb:QE X ow b mb):QF X ow (.BinOp a op b pos) (mMk f ma mb):=by
 obtain ⟨ta,pa,sa⟩:=ha; obtain ⟨tb,pb,sb⟩:=hb
 exact ⟨tOp r ta tb,om ho pa pb,mj (r:=R2ok r) hd.r2 (nL sa sb)⟩
theorem qW {op:Operator} {r:R2} {f:List D→(List D→Prop)→Prop} (ho:OpR X (binaryOp op) r) (hd:fo (fun xs H Q=>∃ x y,xs=[x,y]∧r x y H Q) f) (ha:QE X ow a ma) (hb:QE X ow b mb):QE X ow (.BinOp a op b pos) (mMkS f ma mb):=by
 obtain ⟨ta,pa,sa⟩:=ha; obtain ⟨tb,pb,sb⟩:=hb
 exact ⟨tOp r ta tb,om ho pa pb,mw (r:=R2ok r) hd.r2 (nL sa sb)⟩
def qF:List D→(List D→Prop)→Prop:=fun ds q=>match ds with
 | [.lst xs]=>q xs
 | [.tup xs]=>q xs
 | _=>False
theorem eQ {K:PySem.W.Frag}:fo (fun xs H Q=>∃ p ys,xs=[.ref p]∧(SqL K H p ys∨SqT K H p ys)∧∀ l,H l=none→Q (.ref l) (upd H l (.lst ys))) qF:=fun G H xs ds q Q s p hf k=>by
 unfold qF at hf
 split at hf
 ·obtain ⟨v,rfl,p1⟩:=b8 p
  obtain ⟨a,xs,rfl,h1,h2⟩:=cy p1
  exact ⟨a,xs,rfl,.inl (SqL.of (s _ _ h1)),fun l hl=>k _ _ l hf h2 hl⟩
 ·obtain ⟨v,rfl,p1⟩:=b8 p
  obtain ⟨a,xs,rfl,h1,h2⟩:=eI p1
  exact ⟨a,xs,rfl,.inr (SqT.of (s _ _ h1)),fun l hl=>k _ _ l hf h2 hl⟩
 ·exact hf.elim
variable {x:Str} {p':Pos}
theorem cu {id:String} {r:List V→Hp→VK→Prop} {f:List D→(List D→Prop)→Prop} (hc:dC X (.type id) r) (hd:fo r f) (hg:Gl X x) (hm:X.mg x=none) (hv:bootBuiltins x=some (.type id)) (ha:QA X ow (e :: es) mr) (hn:x ≠ "__name__":=by decide) (hdb:(x == ("__debug__":Str))=false:=by decide)
 (he:starEach (e :: es) X.env=(false,eval e X.env) :: starEach es X.env:=by rfl) (hpl:(backTo pos (starEach es X.env)).any (·.1)=false:=by rfl):QF X ow (.Call (.Name x p') (e :: es) [] pos) (mNew f mr):=by
 obtain ⟨t,p,s⟩:=ha
 exact ⟨_,g9 hc hg hm hv p hn hdb he hpl,mj hd s⟩
theorem eE {id:String} {r:List V→Hp→VK→Prop} {f:List D→(List D→Prop)→Prop} (hc:dC X (.type id) r) (hd:fo r f) (hg:Gl X x) (hm:X.mg x=none) (hv:bootBuiltins x=some (.type id)) (ha:QA X ow (e :: es) mr) (hn:x ≠ "__name__":=by decide) (hdb:(x == ("__debug__":Str))=false:=by decide)
 (he:starEach (e :: es) X.env=(false,eval e X.env) :: starEach es X.env:=by rfl) (hpl:(backTo pos (starEach es X.env)).any (·.1)=false:=by rfl):QE X ow (.Call (.Name x p') (e :: es) [] pos) (o3 f mr):=by
 obtain ⟨t,p,s⟩:=ha
 exact ⟨_,g9 hc hg hm hv p hn hdb he hpl,mw hd s⟩
def fb (xs:List D) (lo hi:Option Int):List D:=(xs.drop (HT.sIx xs.length 0 lo)).take (HT.sIx xs.length xs.length hi - HT.sIx xs.length 0 lo)
theorem m_ {G:Hp} {ds:List D} {xs:List V} (h:Reps G ds xs) (lo hi:Option Int):Reps G (fb ds lo hi) (jF xs lo hi):=by
 unfold fb jF
 rw [h.length]
 exact g8 _ (gL _ h)
abbrev MO:=DSt→(Option Int→DSt→Prop)→Prop
def SO (ow:List Bool) (t:TO) (m:MO):Prop:=∀ (C:Ctx) (G:Hp) (ρ:DSt) (σ:St) (H:Hp) (pd:List (D×V)) (q:Option Int→DSt→Prop) (Q:Option Int→Hp→Prop),R C ow G ρ σ H pd→m ρ q →
 (∀ b ρ' G' H',q b ρ'→aD G G'→Kp ow ρ ρ'→R C ow G' ρ' σ H' pd→Q b H')→t σ H Q
structure QO (X:Cx) (ow:List Bool) (e:Option Expr) (m:MO):Prop where
 ex:∃ t,PO X e t∧SO ow t m
def pp:MO:=fun ρ q=>q none ρ
def mPart (m:ME):MO:=fun ρ q=>m ρ fun d ρ'=>match d with
 | .int i=>q (some i) ρ'
 | _=>False
theorem kS:QO X ow none pp:=⟨_,qz,fun C G ρ σ H pd q Q r h k=>k none ρ G H h (aD.refl _) Kp.refl r⟩
theorem kN (h:QE X ow e ma):QO X ow (some e) (mPart ma):=by
 obtain ⟨t,p,s⟩:=h
 refine ⟨_,pw p,fun C G ρ σ H pd q Q r hm k=>s C G ρ σ H pd _ _ r hm fun d ρ' v G' H' hq s kp r' p=>?_⟩
 cases d with
 | int i=>exact ⟨i,aG p,k _ ρ' G' H' hq s kp r'⟩
 | _=>exact hq.elim
def mSl (m:ME) (ml mh:MO):ME:=fun ρ q=>m ρ fun d ρ1=>ml ρ1 fun lo ρ2=>mh ρ2 fun hi ρ3=>match d with
 | .lst ds=>imms (fb ds lo hi)=true∧q (.lst (fb ds lo hi)) ρ3
 | _=>False
def mSlS (m:ME) (ml mh:MO):ME:=fun ρ q=>m ρ fun d ρ1=>ml ρ1 fun lo ρ2=>mh ρ2 fun hi ρ3=>match d with
 | .lst ds=>q (.lst (fb ds lo hi)) ρ3
 | _=>False
variable {lo hi:Option Expr} {ml mh:MO} {p2:Pos}
theorem iW (h:QE X ow e ma) (hl:QO X ow lo ml) (hh:QO X ow hi mh):QE X ow (.Subscript e (.Slice lo hi none p2) pos) (mSlS ma ml mh):=by
 obtain ⟨t,p,s⟩:=h; obtain ⟨t1,p1,s1⟩:=hl; obtain ⟨t2,p2,s2⟩:=hh
 refine ⟨_,mI pY p p1 p2,fun C G ρ σ H pd q Q r hm k=>s C G ρ σ H pd _ _ r hm fun d ρ' v G' H' hq z kp r' p=>?_⟩
 refine s1 C G' ρ' σ H' pd _ _ r' hq fun l ρ1 G1 H1 hq1 z1 kp1 r1=>s2 C G1 ρ1 σ H1 pd _ _ r1 hq1 fun u ρ2 G2 H2 hq2 z2 kp2 r2=>?_
 cases d with
 | lst ds =>
  obtain ⟨a,xs,rfl,h1,h2⟩:=cy (Rep.mono (z1.trans z2) _ _ p)
  refine ⟨a,xs,rfl,SqL.of (r2.gh _ _ h1),fun b hb=>?_⟩
  obtain ⟨O,r2⟩:=r2
  obtain ⟨r3,z3⟩:=r2.new hb (.lst (jF xs l u))
  exact k _ ρ2 _ _ _ hq2 (z.trans (z1.trans (z2.trans z3))) (kp.trans (kp1.trans kp2)) ⟨O,r3⟩ (fP av (Reps.mono z3 _ _ (m_ h2 _ _)))
 | _=>exact hq2.elim
end
def bQ (f:Nat→Option Nat) (O:Own):Own:=fun a=>match O a with
 | some m=>(f m.1).map fun l=>(l,m.2)
 | none=>none
theorem kz {f:Nat→Option Nat} {O:Own} {a:Addr} {l l':Nat} {π:List Nat} (h:O a=some (l,π)) (hf:f l=some l'):bQ f O a=some (l',π):=by unfold bQ; rw [h]; show (f l).map _=_; rw [hf]; rfl
theorem d9 {f:Nat→Option Nat} {O:Own} {a:Addr} {l':Nat} {π:List Nat} (h:bQ f O a=some (l',π)):∃ l,O a=some (l,π)∧f l=some l':=by
 unfold bQ at h
 cases e:O a with
 | none=>rw [e] at h; cases h
 | some m =>
  rw [e] at h
  change (f m.1).map _=_ at h
  cases e2:f m.1 with
  | none=>rw [e2] at h; cases h
  | some l=>rw [e2] at h; cases h; exact ⟨m.1,rfl,e2⟩
theorem le {f:Nat→Option Nat} {O:Own} {a:Addr} {l:Nat} {π:List Nat} (h:O a=some (l,π)) (hf:f l=none):bQ f O a=none:=by unfold bQ; rw [h]; show (f l).map _=_; rw [hf]; rfl
def msV:List Bool→List V→List (Option V)
 | b :: bs,v :: vs=>(if b=true then some v else none) :: msV bs vs
 | _,_=>[]
theorem iJ:∀ {mu:List Bool} {vs:List V} {k:Nat} {v:V},(msV mu vs)[k]? = some (some v)→mu[k]? = some true∧vs[k]? = some v
 | [],vs,k,v,h=>by simp [msV] at h
 | b :: bs,[],k,v,h=>by simp [msV] at h
 | b :: bs,u :: vs,0,v,h=>by
  simp only [msV,List.getElem?_cons_zero,Option.some.injEq] at h
  split at h
  ·rename_i c; cases h; subst c; exact ⟨rfl,rfl⟩
  ·cases h
 | b :: bs,u :: vs,k + 1,v,h=>by
  simp only [msV,List.getElem?_cons_succ] at h
  simpa using iJ h
theorem iR:∀ {mu:List Bool} {vs:List V} {k:Nat} {v:V},mu[k]? = some true→vs[k]? = some v→(msV mu vs)[k]? = some (some v)
 | [],vs,k,v,h,_=>by simp at h
 | b :: bs,[],k,v,_,h=>by simp at h
 | b :: bs,u :: vs,0,v,h,h2=>by simp at h h2; subst h; subst h2; simp [msV]
 | b :: bs,u :: vs,k + 1,v,h,h2=>by simp only [msV,List.getElem?_cons_succ]; exact iR (by simpa using h) (by simpa using h2)
section
variable {C:Ctx} {ow mu:List Bool} {G:Hp} {ρ:DSt} {σ:St} {H:Hp} {pd:List (D×V)} {O:Own} {fin fbk:Nat→Option Nat}
theorem RO.into (ro:RO C ow G ρ σ H pd O) {ds:List D} {vs:List V} (hl:ds.length=vs.length)
 (hs:∀ (k:Nat) d,ds[k]? = some d→∃ v,vs[k]? = some v∧if mu[k]? = some true then ∃ l,Sep G H O l d [] v∧fin l=some (2 * k) else Rep G d v)
 (hc:∀ l l',fin l=some l'→∃ k,l'=2 * k∧mu[k]? = some true∧k<vs.length) :
 RO ⟨G,H,bQ fin O,msV mu vs,0⟩ mu G (ds.map some) (vs.map some) H [] (bQ fin O):=by
 refine ⟨by simp [hl],ro.gh,fun _ _ e=>e,fun _ _ e=>.inl e,?_,?_,fun _ _ e _ _=>e,ro.ft,fun _ e=>e,?_,?_,trivial,Nat.le_refl _⟩
 ·intro a m e
  obtain ⟨l',π⟩:=m
  obtain ⟨l,e1,e2⟩:=d9 e
  obtain ⟨q1,q2,_⟩:=ro.og a _ e1
  exact ⟨q1,q2,.inr ⟨π,e⟩⟩
 ·intro a l' π e
  obtain ⟨l,e1,e2⟩:=d9 e
  obtain ⟨k,rfl,h2,h3⟩:=hc _ _ e2
  exact .inl ⟨k,vs[k],rfl,iR h2 (List.getElem?_eq_getElem h3)⟩
 ·intro k v e
  rw [List.getElem?_map,(iJ e).2]; rfl
 ·intro k d e
  rw [List.getElem?_map] at e
  cases e1:ds[k]? with
  | none=>rw [e1] at e; cases e
  | some d' =>
   rw [e1] at e
   cases e
   obtain ⟨v,h1,h2⟩:=hs k d e1
   refine ⟨v,by rw [List.getElem?_map,h1]; rfl,?_⟩
   split at h2
   ·rename_i c
    rw [if_pos c]
    obtain ⟨l,h3,h4⟩:=h2
    exact h3.keep (fun _ _ z=>z) fun a τ q=>⟨kz q h4,rfl⟩
   ·rename_i c; rw [if_neg c]; exact h2
def jB (fin fbk:Nat→Option Nat) (O O2:Own):Own:=fun a=>match O2 a with
 | some m=>(fbk m.1).map fun l=>(l,m.2)
 | none=>match bQ fin O a with
  | some _=>none
  | none=>O a
theorem RO.out (ro:RO C ow G ρ σ H pd O) {vs:List V} {G2:Hp} {ρ2:DSt} {σ2:St} {H2:Hp} {pd2 pd3:List (D×V)} {O2:Own} {ρ3:DSt} {ow2:List Bool} {np:Nat} {mv:List (Option V)}
 (ri:RO ⟨G,H,bQ fin O,mv,np⟩ ow2 G2 ρ2 σ2 H2 pd2 O2) (hib:∀ l0 l' l,fin l0=some l'→fbk l'=some l→l=l0)
 (hlen : ρ3.length=σ.length) (hnp:C.np≤pd3.length)
 (hS:∀ (i:Nat) d,ow[i]?≠some true→ρ3[i]? = some (some d)→ρ[i]? = some (some d))
 (hO:∀ (i:Nat) d,ow[i]? = some true→ρ3[i]? = some (some d)→(fin (2 * i)=none∧ρ[i]? = some (some d))∨∃ (k:Nat) (v:V),fbk (2 * k)=some (2 * i)∧ow2[k]? = some true∧ρ2[k]? = some (some d)∧σ[i]? = some (some v)∧σ2[k]? = some (some v))
 (hP:∀ (O3:Own),(∀ a l π,O a=some (l,π)→fin l=none→O3 a=some (l,π)∧H2 a=H a)→(∀ a l l' π,O2 a=some (l',π)→fbk l'=some l→O3 a=some (l,π))→bR G G2→bK G2 H2 O3 pd3) :
 RO C ow G2 ρ3 σ H2 pd3 (jB fin fbk O O2):=by
 have keep:∀ a l π,O a=some (l,π)→fin l=none→jB fin fbk O O2 a=some (l,π)∧H2 a=H a:=fun a l π e hn=>by
  have e1:=le (f:=fin) e hn
  obtain ⟨g,⟨xs,hx⟩,_⟩:=ro.og a _ e
  have e2:O2 a=none:=by
   cases q:O2 a with
   | none=>rfl
   | some m =>
    obtain ⟨_,_,q3⟩:=ri.og a m q
    rcases q3 with q3 | ⟨π',q3⟩
    ·change H a=none at q3; rw [hx] at q3; cases q3
    ·change bQ fin O a=_ at q3; rw [e1] at q3; cases q3
  constructor
  ·show (match O2 a with | some m=>_ | none=>_)=_
   rw [e2]
   show (match bQ fin O a with | some _=>none | none=>O a)=_
   rw [e1]; exact e
  ·rw [ri.fr a _ hx e1 (WrO.nt xs),hx]
 have come:∀ a l l' π,O2 a=some (l',π)→fbk l'=some l→jB fin fbk O O2 a=some (l,π):=fun a l l' π e hb=>by
  show (match O2 a with | some m=>_ | none=>_)=_
  rw [e]
  show (fbk l').map _=_
  rw [hb]; rfl
 have ts:bR G G2:=(aD.ts ri.g0)
 refine ⟨hlen,ri.gh,fun a o e=>ri.g0 a o (ro.g0 a o e),?_,?_,ro.cok,?_,ri.ft,fun a e=>ro.al a (ri.al a e),ro.mp,?_,hP _ keep come ts,hnp⟩
 ·intro a o e
  rcases ri.gn a o e with q | q
  ·exact ro.gn a o q
  ·exact .inr (ro.al a q)
 ·intro a m e
  change (match O2 a with | some m=>_ | none=>_)=_ at e
  cases q:O2 a with
  | some m' =>
   rw [q] at e
   change (fbk m'.1).map _=_ at e
   cases q2:fbk m'.1 with
   | none=>rw [q2] at e; cases e
   | some l =>
    rw [q2] at e; cases e
    obtain ⟨g1,g2,g3⟩:=ri.og a m' q
    refine ⟨g1,g2,?_⟩
    rcases g3 with g3 | ⟨π',g3⟩
    ·exact .inl (ro.al a g3)
    ·obtain ⟨l0,g4,g5⟩:=d9 g3
     have:=hib _ _ _ g5 q2
     subst this
     exact (ro.og a _ g4).2.2
  | none =>
   rw [q] at e
   change (match bQ fin O a with | some _=>none | none=>O a)=_ at e
   cases q2:bQ fin O a with
   | some _=>rw [q2] at e; cases e
   | none =>
    rw [q2] at e
    change O a=some m at e
    obtain ⟨g1,⟨xs,g2⟩,g3⟩:=ro.og a m e
    refine ⟨?_,⟨xs,ri.fr a _ g2 q2 (WrO.nt xs)⟩,g3⟩
    cases z:G2 a with
    | none=>rfl
    | some o =>
     rcases ri.gn a o z with z | z
     ·change G a=_ at z; rw [g1] at z; cases z
     ·change H a=_ at z; rw [g2] at z; cases z
 ·intro a o e n t
  have q:=ro.fr a o e n t
  refine ri.fr a o q ?_ t
  show bQ fin O a=none
  cases z:bQ fin O a with
  | none=>rfl
  | some m =>
   obtain ⟨l',π⟩:=m
   obtain ⟨l,z1,_⟩:=d9 z
   obtain ⟨_,_,z3⟩:=ro.og a _ z1
   rcases z3 with z3 | ⟨_,z3⟩
   ·rw [z3] at e; cases e
   ·rw [z3] at n; cases n
 ·intro i d e
  by_cases c:ow[i]? = some true
  ·rcases hO i d c e with ⟨h1,h2⟩ | ⟨k,v,h1,h2,h3,h4,h5⟩
   ·obtain ⟨v,q1,q2⟩:=ro.sl i d h2
    rw [if_pos c] at q2
    exact ⟨v,q1,by rw [if_pos c]; exact q2.keep ts fun a τ q=>keep a _ _ q h1⟩
   ·obtain ⟨v',q1,q2⟩:=ri.sl k d h3
    rw [if_pos h2] at q2
    rw [h5] at q1; cases q1
    exact ⟨v,h4,by rw [if_pos c]; exact q2.keep (fun _ _ z=>z) fun a τ q=>⟨come _ _ _ _ q h1,rfl⟩⟩
  ·obtain ⟨v,q1,q2⟩:=ro.sl i d (hS i d c e)
   rw [if_neg c] at q2
   exact ⟨v,q1,by rw [if_neg c]; exact q2.mono ri.g0⟩
end
def Ret (fr:Bool) (C:Ctx) (ow:List Bool) (G:Hp) (ρ:DSt) (σ:St) (H:Hp) (d:D) (v:V):Prop:=if fr=true then R C ow G ρ σ H [(d,v)] else R C ow G ρ σ H []∧Rep G d v
def mus:List Bool→DSt→DSt
 | true :: bs,x :: ρ=>x :: mus bs ρ
 | false :: bs,_ :: ρ=>mus bs ρ
 | true :: bs,[]=>none :: mus bs []
 | false :: bs,[]=>mus bs []
 | [],_=>[]
def bJ {α:Type}:Nat→List (Option α)→List (Option α)
 | 0,_=>[]
 | n + 1,x :: ρ=>x :: bJ n ρ
 | n + 1,[]=>none :: bJ n []
theorem bO {α:Type}:∀ (n:Nat) (ρ:List (Option α)),(bJ n ρ).length=n
 | 0,_=>rfl
 | n + 1,x :: ρ=>by simp [bJ,bO n ρ]
 | n + 1,[]=>by simp [bJ,bO n []]
theorem bP:∀ (mu:List Bool) (ρ:DSt),mus mu (bJ mu.length ρ)=mus mu ρ
 | [],_=>by simp [mus]
 | true :: bs,x :: ρ=>by simp [bJ,mus,bP bs ρ]
 | false :: bs,x :: ρ=>by simp [bJ,mus,bP bs ρ]
 | true :: bs,[]=>by simp [bJ,mus,bP bs []]
 | false :: bs,[]=>by simp [bJ,mus,bP bs []]
theorem iz {α:Type}:∀ {n:Nat} {ρ:List (Option α)} {i:Nat} {d : α},(bJ n ρ)[i]? = some (some d)→i<n∧ρ[i]? = some (some d)
 | 0,_,_,_,h=>by simp [bJ] at h
 | n + 1,x :: ρ,0,d,h=>by simp [bJ] at h; exact ⟨by omega,by simp [h]⟩
 | n + 1,x :: ρ,i + 1,d,h=>by simp only [bJ,List.getElem?_cons_succ] at h; obtain ⟨a,b⟩:=iz h; exact ⟨by omega,by simpa using b⟩
 | n + 1,[],0,d,h=>by simp [bJ] at h
 | n + 1,[],i + 1,d,h=>by simp only [bJ,List.getElem?_cons_succ] at h; obtain ⟨a,b⟩:=iz h; simp at b
theorem ix {α:Type}:∀ {n:Nat} {ρ:List (Option α)} {i:Nat} {d : α},i<n→ρ[i]? = some (some d)→(bJ n ρ)[i]? = some (some d)
 | 0,_,_,_,h,_=>by omega
 | n + 1,x :: ρ,0,d,h,e=>by simp at e; simp [bJ,e]
 | n + 1,x :: ρ,i + 1,d,h,e=>by simp only [bJ,List.getElem?_cons_succ]; exact ix (by omega) (by simpa using e)
 | n + 1,[],i,d,h,e=>by simp at e
abbrev SpD:=List D→(D→DSt→Prop)→Prop
def bA (mu:List Bool) (fr:Bool) (sd:SpD):Sp:=fun vs H Q _=>∃ (C:Ctx) (G:Hp) (ds:List D) (q:D→DSt→Prop),C.np=0∧C.mu=msV mu vs∧R C mu G (ds.map some) (vs.map some) H []∧sd ds q∧mu.length=ds.length ∧
 ∀ d ρ' σ' v G' H',q d (mus mu ρ')→aD G G'→ρ'.length=mu.length→Ret fr C mu G' ρ' σ' H' d v→Q v H'
structure EndsD where
 nx:DSt→Prop
 rt:D→DSt→Prop
 bk:DSt→Prop:=fun _=>False
 ct:DSt→Prop:=fun _=>False
abbrev MS:=EndsD→DSt→Prop
structure Ks (C:Ctx) (ow:List Bool) (fr:Bool) (G:Hp) (n:EndsD) (D:Ends):Prop where
 nx:∀ ρ σ G' H,n.nx ρ→aD G G'→R C ow G' ρ σ H []→D.nx σ H
 bk:∀ ρ σ G' H,n.bk ρ→aD G G'→R C ow G' ρ σ H []→D.bk σ H
 ct:∀ ρ σ G' H,n.ct ρ→aD G G'→R C ow G' ρ σ H []→D.ct σ H
 rt:∀ d ρ σ v G' H,n.rt d ρ→aD G G'→Ret fr C ow G' ρ σ H d v→D.rt v H
theorem Ks.mono {C:Ctx} {ow:List Bool} {fr:Bool} {G G1:Hp} {n:EndsD} {D:Ends} (h:Ks C ow fr G n D) (s:aD G G1):Ks C ow fr G1 n D :=
 ⟨fun ρ σ G' H a b c=>h.nx ρ σ G' H a (s.trans b) c,fun ρ σ G' H a b c=>h.bk ρ σ G' H a (s.trans b) c,fun ρ σ G' H a b c=>h.ct ρ σ G' H a (s.trans b) c,fun d ρ σ v G' H a b c=>h.rt d ρ σ v G' H a (s.trans b) c⟩
def fu (C:Ctx) (mu:List Bool):Prop:=∀ (i:Nat) v,C.mu[i]? = some (some v)→mu[i]? = some true
theorem fu.no {C:Ctx} {mu:List Bool} (h:fu C mu) {i:Nat} (hi:mu[i]?≠some true):∀ v,C.mu[i]?≠some (some v):=fun v e=>hi (h i v e)
structure Md where
 mu:List Bool
 ow:List Bool
 fr:Bool
def SS (M:Md) (t:TS) (m:MS):Prop:=∀ (C:Ctx) (G:Hp) (ρ:DSt) (σ:St) (H:Hp) (n:EndsD) (D:Ends),fu C M.mu→C.np=0→R C M.ow G ρ σ H []→m n ρ→Ks C M.ow M.fr G n D→t D σ H
structure QS (X:Cx) (M:Md) (st:Stmt) (m:MS):Prop where
 ex:∃ t,PS X st t∧SS M t m
structure QSs (X:Cx) (M:Md) (st:List Stmt) (m:MS):Prop where
 ex:∃ t,PSs X st t∧SS M t m
section
variable {X:Cx} {M:Md} {a b c e:Expr} {ma mb mc:ME} {mt:MT} {pos pos':Pos} {st:Stmt} {rest:List Stmt} {m m1 m2:MS}
def mSeq (m1 m2:MS):MS:=fun n ρ=>m1 { n with nx:=fun ρ'=>m2 n ρ' } ρ
def qK:MS:=fun n ρ=>n.nx ρ
theorem aH:QSs X M [] qK:=⟨_,kQ,fun C G ρ σ H n D hm hn r h k=>k.nx ρ σ G H h (aD.refl _) r⟩
theorem ai (h:QS X M st m):QSs X M [st] m:=by obtain ⟨t,p,s⟩:=h; exact ⟨_,ec p,s⟩
theorem af (h:QS X M st m1) (h2:QSs X M rest m2):QSs X M (st :: rest) (mSeq m1 m2):=by
 obtain ⟨t,p,s⟩:=h; obtain ⟨t2,p2,s2⟩:=h2
 refine ⟨_,cx p p2,fun C G ρ σ H n D hm hn r h k=>s C G ρ σ H _ _ hm hn r h ?_⟩
 exact ⟨fun ρ' σ' G' H' h' z r'=>s2 C G' ρ' σ' H' n D hm hn r' h' (k.mono z),k.bk,k.ct,k.rt⟩
def nM:MS:=fun _ _=>False
theorem dc:QS X M st nM:=⟨_,nz,fun C G ρ σ H n D hm hn r h k=>h.elim⟩
def mIfS (mt:MT) (m1 m2:MS):MS:=fun n ρ=>mt ρ fun b ρ1=>if b=true then m1 n ρ1 else m2 n ρ1
theorem aV {s1 s2:List Stmt} (h:QT X M.ow c mt) (h1:QSs X M s1 m1) (h2:QSs X M s2 m2):QS X M (.If c s1 s2 pos) (mIfS mt m1 m2):=by
 obtain ⟨t,p,s⟩:=h; obtain ⟨t1,p1,s1⟩:=h1; obtain ⟨t2,p2,s2⟩:=h2
 refine ⟨_,qE p p1 p2,fun C G ρ σ H n D hm hn r h k=>s C G ρ σ H [] _ _ r h fun b ρ' G' H' hq z kp r'=>?_⟩
 cases b with
 | true=>rw [if_pos rfl] at hq ⊢; exact s1 C G' ρ' σ H' n D hm hn r' hq (k.mono z)
 | false=>rw [if_neg (by decide)] at hq ⊢; exact s2 C G' ρ' σ H' n D hm hn r' hq (k.mono z)
def mRet (m:ME):MS:=fun n ρ=>m ρ n.rt
theorem aR (h:QE X M.ow e ma) (hf:M.fr=false:=by rfl):QS X M (.Return (some e) pos) (mRet ma):=by
 obtain ⟨t,p,s⟩:=h
 refine ⟨_,jH p,fun C G ρ σ H n D hm hn r h k=>s C G ρ σ H [] _ _ r h fun d ρ' v G' H' hq z kp r' p=>k.rt d ρ' σ v G' H' hq z (by unfold Ret; rw [if_neg (by rw [hf]; decide)]; exact ⟨r',p⟩)⟩
theorem R.non {C:Ctx} {ow:List Bool} {fr:Bool} {G:Hp} {ρ:DSt} {σ:St} {H:Hp} (r:R C ow G ρ σ H []):Ret fr C ow G ρ σ H .non .non:=by
 unfold Ret
 split
 ·obtain ⟨O,r⟩:=r
  exact ⟨O,r.len,r.gh,r.g0,r.gn,r.og,r.cok,r.fr,r.ft,r.al,r.mp,r.sl,⟨by rw [Sep],trivial⟩,Nat.le_succ_of_le r.np⟩
 ·exact ⟨r,fL⟩
def nV (i:Nat) (m:ME):MS:=fun n ρ=>m ρ fun d ρ1=>n.nx (ρ1.set i (some d))
theorem nj {t:TE} {i:Nat} (s:SE M.ow t ma) (ho:M.ow[i]?≠some true) (hu:M.mu[i]?≠some true):SS M (lz t (fX i)) (nV i ma):=fun C G ρ σ H n D hm hn r h k =>
 s C G ρ σ H [] _ _ r h fun d ρ' v G' H' hq z kp r' p=>by
  obtain ⟨O,r'⟩:=r'
  exact k.nx _ _ G' H' hq z ⟨O,r'.setS ho (hm.no hu) p⟩
theorem p7 {t:TE} {i:Nat} (s:SF M.ow t ma) (ho:M.ow[i]? = some true) (hu:M.mu[i]?≠some true):SS M (lz t (fX i)) (nV i ma):=fun C G ρ σ H n D hm hn r h k =>
 s C G ρ σ H [] _ _ r h fun d ρ' v G' H' hq z kp r'=>by
  obtain ⟨O,r'⟩:=r'
  exact k.nx _ _ G' H' hq z (r'.setO ho (hm.no hu) (by rw [hn]; exact Nat.zero_le _))
theorem a5 {i:Nat} {x:Str} (hN:X.N.Nodup) (hi:X.N[i]? = some x) (hx:Loc X.env.scope x) (he:QE X M.ow e ma) (ho:M.ow[i]?≠some true:=by decide) (hu:M.mu[i]?≠some true:=by decide) (hs:swapsWith e (some (.Name x pos')) pos.line X.env=pure false:=by rfl) (hf:X.fn x=true∨X.env.scope.names.lookup x=some .local:=by first | exact .inl rfl | exact .inr rfl | assumption) :
 QS X M (.Assign [.Name x pos'] e pos) (nV i ma):=by
 obtain ⟨t,p,s⟩:=he
 exact ⟨_,oG hN hi hx p hs hf,nj s ho hu⟩
theorem d7 {i:Nat} {x:Str} (hN:X.N.Nodup) (hi:X.N[i]? = some x) (hx:Loc X.env.scope x) (he:QF X M.ow e ma) (ho:M.ow[i]? = some true:=by decide) (hu:M.mu[i]?≠some true:=by decide) (hs:swapsWith e (some (.Name x pos')) pos.line X.env=pure false:=by rfl) (hf:X.fn x=true∨X.env.scope.names.lookup x=some .local:=by first | exact .inl rfl | exact .inr rfl | assumption) :
 QS X M (.Assign [.Name x pos'] e pos) (nV i ma):=by
 obtain ⟨t,p,s⟩:=he
 exact ⟨_,oG hN hi hx p hs hf,p7 s ho hu⟩
def mPar (i j:Nat) (ma mb:ME):MS:=fun n ρ=>ma ρ fun x ρ1=>mb ρ1 fun y ρ2=>n.nx ((ρ2.set i (some x)).set j (some y))
theorem sT {i j:Nat} {x y:Str} {px py pt:Pos} {kt k2 pt2} (hc:X.calm=true) (hN:X.N.Nodup) (hi:X.N[i]? = some x) (hj:X.N[j]? = some y) (hij:i≠j)
 (hx:X.env.scope.names.lookup x=some .local) (hy:X.env.scope.names.lookup y=some .local) (ha:QE X M.ow a ma) (hb:QE X M.ow b mb)
 (hw:swappedStores [.Tuple [.Name x px,.Name y py] kt pt] (.Tuple [a,b] k2 pt2) X.env=pure (some [x,y]))
 (oi:M.ow[i]?≠some true:=by decide) (oj:M.ow[j]?≠some true:=by decide) (ui:M.mu[i]?≠some true:=by decide) (uj:M.mu[j]?≠some true:=by decide)
 (hs1:starEach [a,b] X.env=(false,eval a X.env) :: starEach [b] X.env:=by rfl) (hs2:starEach [b] X.env=[(false,eval b X.env)]:=by rfl)
 (hs:swapsWithSole [.Tuple [.Name x px,.Name y py] kt pt] (.Tuple [a,b] k2 pt2) pos.line X.env=pure false:=by rfl) :
 QS X M (.Assign [.Tuple [.Name x px,.Name y py] kt pt] (.Tuple [a,b] k2 pt2) pos) (mPar i j ma mb):=by
 obtain ⟨ta,pa,sa⟩:=ha; obtain ⟨tb,pb,sb⟩:=hb
 refine ⟨_,nh hc hN hi hj hij hx hy (aL pa (aL pb bw hs2) hs1) hw hs,fun C G ρ σ H n D hm hn r h k=>?_⟩
 refine iB (Q:=fun u w H2=>∃ v w',[u,w]=[v,w']∧D.nx ((σ.set i (some v)).set j (some w')) H2) sa sb r h fun dx dy ρ' u w G' H' hq z kp r' p1 p2=>⟨u,w,rfl,?_⟩
 obtain ⟨O,r'⟩:=r'
 exact k.nx _ _ G' H' hq z ⟨O,(r'.setS oi (hm.no ui) p1).setS oj (hm.no uj) p2⟩
abbrev MG:=D→DSt→(DSt→Prop)→Prop
abbrev MGs:=List D→DSt→(DSt→Prop)→Prop
def SG (M:Md) (g:TG) (m:MG):Prop:=∀ (C:Ctx) (G:Hp) (ρ:DSt) (σ:St) (H:Hp) (pd:List (D×V)) (d:D) (v:V) (k:DSt→Prop) (K:St→Hp→Prop),fu C M.mu→R C M.ow G ρ σ H pd→Rep G d v→m d ρ k →
 (∀ ρ' σ',k ρ'→R C M.ow G ρ' σ' H pd→K σ' H)→g v σ H K
def SGs (M:Md) (g:TGs) (m:MGs):Prop:=∀ (C:Ctx) (G:Hp) (ρ:DSt) (σ:St) (H:Hp) (pd:List (D×V)) (d:List D) (v:List V) (k:DSt→Prop) (K:St→Hp→Prop),fu C M.mu→R C M.ow G ρ σ H pd→Reps G d v→m d ρ k →
 (∀ ρ' σ',k ρ'→R C M.ow G ρ' σ' H pd→K σ' H)→g v σ H K
structure QG (X:Cx) (M:Md) (e:Expr) (m:MG):Prop where
 ex:∃ t,PG X e t∧SG M t m
structure QGs (X:Cx) (M:Md) (e:List Expr) (m:MGs):Prop where
 ex:∃ t,PGs X e t∧SGs M t m
def iP (i:Nat):MG:=fun d ρ k=>k (ρ.set i (some d))
theorem aI {i:Nat} {x:Str} (hN:X.N.Nodup) (hi:X.N[i]? = some x) (hx:Loc X.env.scope x) (ho:M.ow[i]?≠some true:=by decide) (hu:M.mu[i]?≠some true:=by decide) (hf:X.fn x=true∨X.env.scope.names.lookup x=some .local:=by first | exact .inl rfl | exact .inr rfl | assumption):QG X M (.Name x pos) (iP i) :=
 ⟨_,iy hN hi hx hf,fun C G ρ σ H pd d v k K hm r p h kk=>by obtain ⟨O,r⟩:=r; exact kk _ _ h ⟨O,r.setS ho (hm.no hu) p⟩⟩
def qG:MGs:=fun ds ρ k=>match ds with
 | []=>k ρ
 | _=>False
def lL (t:MG) (u:MGs):MGs:=fun ds ρ k=>match ds with
 | d :: ds=>t d ρ fun ρ1=>u ds ρ1 k
 | []=>False
def gmTup (t:MGs):MG:=fun d ρ k=>match d with
 | .tup ds=>t ds ρ k
 | _=>False
variable {mg:MG} {mgs:MGs} {es:List Expr}
theorem bu:QGs X M [] qG:=⟨_,qC,fun C G ρ σ H pd d v k K hm r p h kk=>by
 cases d with
 | nil=>rw [Reps] at p; exact ⟨p,kk _ _ h r⟩
 | cons _ _=>exact h.elim⟩
theorem aE (h1:QG X M e mg) (h2:QGs X M es mgs) (hs:(assignEach (e :: es) X.env).map (·.2)=assign e X.env :: (assignEach es X.env).map (·.2):=by rfl):QGs X M (e :: es) (lL mg mgs):=by
 obtain ⟨t,p,s⟩:=h1; obtain ⟨t2,p2,s2⟩:=h2
 refine ⟨_,mL p p2 hs,fun C G ρ σ H pd d v k K hm r p h kk=>?_⟩
 cases d with
 | nil=>exact h.elim
 | cons d ds =>
  rw [Reps] at p
  obtain ⟨v,vs,rfl,p1,p3⟩:=p
  exact ⟨v,vs,rfl,s C G ρ σ H pd d v _ _ hm r p1 h fun ρ' σ' h' r'=>s2 C G ρ' σ' H pd ds vs k K hm r' p3 h' kk⟩
def ku (n:Nat) (m:MGs):Prop:=∀ ds ρ k,m ds ρ k→ds.length=n
theorem a7:ku 0 qG:=fun ds ρ k h=>by cases ds with | nil=>rfl | cons _ _=>exact h.elim
theorem ar {n:Nat} {i:Nat} (h:ku n mgs):ku (n + 1) (lL (iP i) mgs):=fun ds ρ k q=>by
 cases ds with
 | nil=>exact q.elim
 | cons d ds=>simp [h ds _ _ q]
theorem bM {kk:Nat} {n:Nat} (hc:X.calm=true) (h:QGs X M es mgs) (ht:ku n mgs)
 (hn:(assignEach es X.env).length=n:=by rfl) (hst:(assignEach es X.env).findIdx? (·.1)=none:=by rfl):QG X M (.Tuple es kk pos) (gmTup mgs):=by
 obtain ⟨t,p,s⟩:=h
 refine ⟨_,sY hc p hn hst,fun C G ρ σ H pd d v k K hm r p h kk=>?_⟩
 cases d with
 | tup ds =>
  obtain ⟨a,xs,rfl,h1,h2⟩:=eI p
  exact ⟨a,xs,rfl,SqT.of (r.gh _ _ h1),by rw [h2.length]; exact ht _ _ _ h,s C G ρ σ H pd ds xs k K hm r h2 h kk⟩
 | _=>exact h.elim
def mAsg (m:ME) (g:MG):MS:=fun n ρ=>m ρ fun d ρ1=>g d ρ1 n.nx
theorem eD {tg:Expr} (he:QE X M.ow e ma) (hg:QG X M tg mg) (hs:swapsWithSole [tg] e pos.line X.env=pure false:=by rfl) (hw:swappedStores [tg] e X.env=pure none:=by rfl)
 (h1:(assignEach [tg] X.env).map (·.2)=[assign tg X.env]:=by rfl):QS X M (.Assign [tg] e pos) (mAsg ma mg):=by
 obtain ⟨t,p,s⟩:=he; obtain ⟨t2,p2,s2⟩:=hg
 refine ⟨_,jT p p2 hs hw h1,fun C G ρ σ H n D hm hn r h k=>s C G ρ σ H [] _ _ r h fun d ρ' v G' H' hq z kp r' p=>?_⟩
 exact s2 C G' ρ' σ H' [] d v _ _ hm r' p hq fun ρ2 σ2 h2 r2=>k.nx ρ2 σ2 G' H' h2 z r2
def q8 (m:ME):MS:=fun n ρ=>m ρ fun _ ρ1=>n.nx ρ1
theorem fO (he:QE X M.ow e ma) (hs:swapsWith e none pos.line X.env=pure false:=by rfl):QS X M (.Expr e pos) (q8 ma):=by
 obtain ⟨t,p,s⟩:=he
 exact ⟨_,cq p hs,fun C G ρ σ H n D hm hn r h k=>s C G ρ σ H [] _ _ r h fun d ρ' v G' H' hq z kp r' p=>k.nx ρ' σ G' H' hq z r'⟩
def kK (i:Nat) (m:ME):MS:=fun n ρ=>match ρ[i]? with
 | some (some (.lst _))=>m ρ fun d ρ1=>match ρ1[i]? with
  | some (some (.lst ds))=>ds.length<1000∧n.nx (ρ1.set i (some (.lst (ds++[d]))))
  | _=>False
 | _=>False
theorem bE {i:Nat} {x:Str} {apos cpos npos:Pos} (hN:X.N[i]? = some x) (he:QF X M.ow e ma) (ho:M.ow[i]? = some true:=by decide)
 (hv:Vis X.env.scope x:=by first | exact Or.inl rfl | exact Or.inr (Or.inl rfl) | exact Or.inr (Or.inr rfl)) (hd:(x == ("__debug__":Str))=false:=by decide) (hcd:(x == ("__classdict__":Str))=false:=by decide)
 (hbase:attributeBase (.Name x npos) "append" X.env (eval (.Name x npos) X.env)=eval (.Name x npos) X.env:=by rfl)
 (hfew:((backTo cpos (starEach [e] X.env)).all (fun x=>!x.1)&&(backToKw cpos (keywordEach [] X.env)).all (fun x=>x.1.isSome)
  && decide ([e].length + ([]:List Keyword).length + (if ([]:List Keyword).isEmpty then 0 else 1)<30))=true:=by rfl)
 (hline:(apos.endLine == cpos.line)=true:=by rfl) (hst:starEach [e] X.env=[(false,eval e X.env)]:=by rfl)
 (hs:swapsWith (.Call (.Attribute (.Name x npos) "append" apos) [e] [] cpos) none pos.line X.env=pure false:=by rfl) :
 QS X M (.Expr (.Call (.Attribute (.Name x npos) "append" apos) [e] [] cpos) pos) (kK i ma):=by
 obtain ⟨t,p,s⟩:=he
 refine ⟨_,cq (oh PySem.F.plainAttrs_list PySem.F.slot_list_append PySem.F.type_list_append gK (dX hN hv hd hcd) (aL p bw hst) hbase hfew hline hst (by rfl)) hs,fun C G ρ σ H n D hm hn r h k=>?_⟩
 unfold kK at h
 split at h
 ·rename_i ds e1
  obtain ⟨O,ro⟩:=r
  obtain ⟨a,xs,h1,h2,_,_⟩:=ro.write e1 ho
  refine ⟨.ref a,h1,.inl ⟨rfl,xs,SqL.of h2⟩,?_⟩
  refine s C G ρ σ H [] _ _ ⟨O,ro⟩ h fun d ρ' v G' H' hq z kp r'=>?_
  split at hq
  ·rename_i ds' e2
   obtain ⟨O',r'⟩:=r'
   obtain ⟨O2,r2,s2,s3⟩:=r'.join i ds'.length (by rw [hn]; exact Nat.zero_le _)
   obtain ⟨a',xs',g1,g2,g3,g4⟩:=r2.write e2 ho
   rw [h1] at g1; cases g1
   have hl:=g3.length
   refine ⟨a,xs',v,rfl,rfl,g2,by rw [hl]; exact de (Nat.le_of_lt hq.1),?_⟩
   exact k.nx _ _ G' _ hq.2 z ⟨O2,g4 _ _ (g3.snoc (by simpa using s2))⟩
  ·exact hq.elim
 ·exact h.elim
def mSetI (i:Nat) (mk m:ME):MS:=fun n ρ=>m ρ fun d ρ1=>match ρ1[i]? with
 | some (some (.lst _))=>mk ρ1 fun k ρ2=>match ρ2[i]? with
  | some (some (.lst ds))=>match k with
   | .int j=>match ixN ds.length j with
    | some p=>n.nx (ρ2.set i (some (.lst (ds.set p d))))
    | none=>False
   | _=>False
  | _=>False
 | _=>False
theorem d8 {i:Nat} {x:Str} {npos spos:Pos} (hN:X.N[i]? = some x) (he:QF X M.ow e ma) (hk:QE X M.ow b mb) (ho:M.ow[i]? = some true:=by decide)
 (hv:Vis X.env.scope x:=by first | exact Or.inl rfl | exact Or.inr (Or.inl rfl) | exact Or.inr (Or.inr rfl)) (hd:(x == ("__debug__":Str))=false:=by decide) (hcd:(x == ("__classdict__":Str))=false:=by decide)
 (ha:∀ v,assign (.Subscript (.Name x npos) b spos) X.env v=(do
  let ov ← holding [v] (eval (.Name x npos) X.env)
  let iv ← holding [v,ov] (eval b X.env)
  standAt spos
  holding [v,ov,iv] (setItem ov iv v)
  release [v,ov,iv] []):=by intro _; rfl)
 (hs:swapsWithSole [.Subscript (.Name x npos) b spos] e pos.line X.env=pure false:=by rfl) (hw:swappedStores [.Subscript (.Name x npos) b spos] e X.env=pure none:=by rfl)
 (h1:(assignEach [.Subscript (.Name x npos) b spos] X.env).map (·.2)=[assign (.Subscript (.Name x npos) b spos) X.env]:=by rfl) :
 QS X M (.Assign [.Subscript (.Name x npos) b spos] e pos) (mSetI i mb ma):=by
 obtain ⟨t,p,s⟩:=he; obtain ⟨t2,p2,s2⟩:=hk
 refine ⟨_,jT p (sD (dX hN hv hd hcd) p2 mX ha) hs hw h1,fun C G ρ σ H n D hm hn r h k=>s C G ρ σ H [] _ _ r h fun d ρ' v G' H' hq z kp r'=>?_⟩
 split at hq
 ·rename_i ds0 e0
  obtain ⟨O0,ro⟩:=r'
  obtain ⟨a,xs,hu,_,_,_⟩:=ro.write e0 ho
  refine ⟨.ref a,hu,?_⟩
  refine s2 C G' ρ' σ H' _ _ _ ⟨O0,ro⟩ hq fun dk ρ2 jv G2 H2 hq2 z2 kp2 r2 pj=>?_
  split at hq2
  ·rename_i ds e2
   cases dk with
   | int j =>
    dsimp only at hq2
    split at hq2
    ·rename_i pl e3
     obtain ⟨O',r2⟩:=r2
     obtain ⟨O2,r3,w2,w3⟩:=r2.join i pl (by rw [hn]; exact Nat.zero_le _)
     obtain ⟨a',xs',g1,g2,g3,g4⟩:=r3.write e2 ho
     rw [hu] at g1; cases g1
     refine ⟨a,xs',j,pl,rfl,aG pj,g2,by rw [g3.length]; exact e3,?_⟩
     exact k.nx _ _ G2 _ hq2 (z.trans z2) ⟨O2,g4 _ _ (g3.set (by simpa using w2))⟩
    ·exact hq2.elim
   | _=>exact hq2.elim
  ·exact hq2.elim
 ·exact hq.elim
def mQ (J:It) (G:Hp) (ds:List D):Prop:=∀ (C:Ctx) (ow:List Bool) (G':Hp) (ρ:DSt) (σ:St) (H:Hp) (pd:List (D×V)) (i:Nat),aD G G'→R C ow G' ρ σ H pd →
 (ds.length≤i→J.stop i H)∧∀ d,ds[i]? = some d→J.go i H∧∀ x H',J.yld i H x H'→∃ G2,aD G' G2∧R C ow G2 ρ σ H' pd∧Rep G2 d x
def SI (ow:List Bool) (wi:TI) (mi:MA):Prop:=∀ (C:Ctx) (G:Hp) (ρ:DSt) (σ:St) (H:Hp) (pd:List (D×V)) (q:List D→DSt→Prop) (Q:It→Hp→Prop),R C ow G ρ σ H pd→mi ρ q →
 (∀ ds ρ' G' H' J,q ds ρ'→aD G G'→Kp ow ρ ρ'→R C ow G' ρ' σ H' pd→mQ J G' ds→Q J H')→wi σ H Q
structure QI (X:Cx) (ow:List Bool) (tg iter:Expr) (mi:MA):Prop where
 ex:∃ t,PI X tg iter t∧SI ow t mi
def forD (g:MG) (mb:MS) (n:EndsD) (ds:List D) (ρ:DSt):Prop:=∃ I:Nat→DSt→Prop,I 0 ρ ∧
 (∀ i d ρ,ds[i]? = some d→I i ρ→g d ρ fun ρ1=>mb { n with nx:=I (i + 1),ct:=I (i + 1),bk:=n.nx } ρ1)∧∀ ρ,I ds.length ρ→n.nx ρ
def mFor (mi:MA) (g:MG) (mb:MS):MS:=fun n ρ=>mi ρ fun ds ρ1=>forD g mb n ds ρ1
theorem gk {mi:MA} {tg iter:Expr} {body:List Stmt} (hp:PassesOwn (model X.prog X.w) X.A X.env X.xe) (hc:X.calm=true) (hi:QI X M.ow tg iter mi) (hg:QG X M tg mg) (hb:QSs X M body m)
 (hs:∀ x,foldedSetIterable iter X.env x=pure x:=by intro _; rfl):QS X M (.For tg iter body [] pos) (mFor mi mg m):=by
 obtain ⟨ti,pi,si⟩:=hi; obtain ⟨tg',pg,sg⟩:=hg; obtain ⟨tb,pb,sb⟩:=hb
 refine ⟨_,ol hp hc pi pg pb hs,fun C G ρ σ H n D hm hn r h k=>si C G ρ σ H [] _ _ r h fun ds ρ0 G0 H0 J hq z0 kp r0 jo=>?_⟩
 obtain ⟨I,i0,turn,fin⟩:=hq
 refine ⟨fun i j σ' H'=>j=ds.length - i∧i≤ds.length∧∃ G' ρ',aD G0 G'∧R C M.ow G' ρ' σ' H' []∧I i ρ',⟨_,rfl,Nat.zero_le _,G0,ρ0,aD.refl _,r0,i0⟩,?_⟩
 rintro i j σ' H' ⟨rfl,hi,G',ρ',z,r',w⟩
 obtain ⟨st,go⟩:=jo C M.ow G' ρ' σ' H' [] i z r'
 by_cases hlt:i<ds.length
 ·obtain ⟨g1,g2⟩:=go ds[i] (List.getElem?_eq_getElem hlt)
  refine .inr ⟨g1,fun σ2 H2=>∃ G2 ρ2,aD G0 G2∧R C M.ow G2 ρ2 σ2 H2 []∧I (i + 1) ρ2,fun σ2 H2 h=>⟨ds.length - (i + 1),by omega,rfl,hlt,h⟩,fun x H1 hy=>?_⟩
  obtain ⟨G1,z1,r1,p1⟩:=g2 x H1 hy
  refine sg C G1 ρ' σ' H1 [] ds[i] x _ _ hm r1 p1 (turn i ds[i] ρ' (List.getElem?_eq_getElem hlt) w) fun ρ2 σ2 h2 r2=>?_
  refine sb C G1 ρ2 σ2 H1 _ _ hm hn r2 h2 ⟨?_,?_,?_,?_⟩
  ·intro ρ3 σ3 G3 H3 h3 z3 r3; exact ⟨G3,ρ3,z.trans (z1.trans z3),r3,h3⟩
  ·intro ρ3 σ3 G3 H3 h3 z3 r3; exact k.nx ρ3 σ3 G3 H3 h3 (z0.trans (z.trans (z1.trans z3))) r3
  ·intro ρ3 σ3 G3 H3 h3 z3 r3; exact ⟨G3,ρ3,z.trans (z1.trans z3),r3,h3⟩
  ·intro d ρ3 σ3 v G3 H3 h3 z3 r3; exact k.rt d ρ3 σ3 v G3 H3 h3 (z0.trans (z.trans (z1.trans z3))) r3
 ·have e:i=ds.length:=by omega
  subst e
  exact .inl ⟨st (Nat.le_refl _),k.nx ρ' σ' G' H' (fin ρ' w) (z0.trans z) r'⟩
end
section
variable {X:Cx} {ow:List Bool} {a b c e tg:Expr} {ma mb mc:ME} {pos:Pos} {mr:MA} {es:List Expr}
def miLst (m:ME):MA:=fun ρ q=>m ρ fun d ρ'=>match d with
 | .lst ds=>q ds ρ'
 | _=>False
def jd (lo:Int) (n:Nat):List D:=(List.range n).map fun (i:Nat)=>.int (lo + i)
theorem fG {lo:Int} {n i:Nat} {d:D} (h:(jd lo n)[i]? = some d):i<n∧d = .int (lo + i):=by
 unfold jd at h
 rw [List.getElem?_map] at h
 by_cases c:i<n
 ·rw [List.getElem?_range c] at h; exact ⟨c,(Option.some.inj h).symm⟩
 ·rw [List.getElem?_eq_none (by simp; omega)] at h; cases h
theorem dU (lo:Int) (n:Nat):(jd lo n).length=n:=by unfold jd; simp
theorem oQ {G:Hp} {lo:Int} {n:Nat}:mQ (Itr lo n) G (jd lo n):=fun C ow G' ρ σ H pd i z r=>by
 refine ⟨fun hl=>by rw [dU] at hl; exact hl,fun d e=>?_⟩
 obtain ⟨h1,rfl⟩:=fG e
 refine ⟨h1,fun x H' hy=>?_⟩
 obtain ⟨rfl,rfl⟩:=hy
 exact ⟨G',aD.refl _,r,bD _⟩
def miR1 (m:MA):MA:=fun ρ q=>m ρ fun ds ρ'=>match ds with
 | [.int j]=>(-(2 ^ 62)≤j∧j<2 ^ 62)∧q (jd 0 j.toNat) ρ'
 | _=>False
def miR2 (m:MA):MA:=fun ρ q=>m ρ fun ds ρ'=>match ds with
 | [.int i,.int j]=>(-(2 ^ 62)≤i∧i<2 ^ 62∧-(2 ^ 62)≤j∧j<2 ^ 62)∧q (jd i (j - i).toNat) ρ'
 | _=>False
theorem gR {p:Pos} (hg:Gl X "range") (hm:X.mg "range" = none) (ha:QA X ow [a] mr) (hs:starEach [a] X.env=[(false,eval a X.env)]:=by rfl):QI X ow tg (.Call (.Name "range" p) [a] [] pos) (miR1 mr):=by
 obtain ⟨t,p,s⟩:=ha
 refine ⟨_,lF hg hm p hs,fun C G ρ σ H pd q Q r hm k=>s C G ρ σ H pd _ _ r hm fun ds ρ' vs G' H' hq z kp r' p hn=>?_⟩
 split at hq
 ·obtain ⟨v,rfl,p1⟩:=b8 p
  rw [aG p1]
  exact ⟨_,rfl,hq.1.1,hq.1.2,k _ ρ' G' H' _ hq.2 z kp r' oQ⟩
 ·exact hq.elim
theorem gH {p:Pos} (hg:Gl X "range") (hm:X.mg "range" = none) (ha:QA X ow [a,b] mr) (hs:starEach [a,b] X.env=[(false,eval a X.env),(false,eval b X.env)]:=by rfl) (hs2:starEach [b] X.env=[(false,eval b X.env)]:=by rfl):QI X ow tg (.Call (.Name "range" p) [a,b] [] pos) (miR2 mr):=by
 obtain ⟨t,p,s⟩:=ha
 refine ⟨_,lx hg hm p hs hs2,fun C G ρ σ H pd q Q r hm k=>s C G ρ σ H pd _ _ r hm fun ds ρ' vs G' H' hq z kp r' p hn=>?_⟩
 split at hq
 ·obtain ⟨v,u,rfl,p1,p2⟩:=dS p
  rw [aG p1,aG p2]
  exact ⟨_,_,rfl,hq.1,k _ ρ' G' H' _ hq.2 z kp r' oQ⟩
 ·exact hq.elim
def fv (ds:List D):List D:=ds.mapIdx fun i d=>.tup [.int i,d]
theorem oo (ds:List D):(fv ds).length=ds.length:=by unfold fv; simp
theorem dh {ds:List D} {i:Nat} {d:D} (h:(fv ds)[i]? = some d):∃ d',ds[i]? = some d'∧d = .tup [.int i,d']:=by
 unfold fv at h
 rw [List.getElem?_mapIdx] at h
 cases e:ds[i]? with
 | none=>rw [e] at h; cases h
 | some d'=>rw [e] at h; exact ⟨d',rfl,(Option.some.inj h).symm⟩
theorem sP {G:Hp} {p:Addr} {xs:List V} {ds:List D} (h1:G p=some (.lst xs)) (h2:Reps G ds xs):mQ (Ite p) G (fv ds):=fun C ow G' ρ σ H pd i z r=>by
 have hp:=r.gh _ _ (z _ _ h1)
 refine ⟨fun hl=>⟨xs,hp,by rw [h2.length]; rw [oo] at hl; exact hl⟩,fun d e=>?_⟩
 obtain ⟨d',e0,rfl⟩:=dh e
 obtain ⟨v,e1,e2⟩:=fS h2 e0
 refine ⟨⟨xs,v,hp,e1⟩,fun x H' hy=>?_⟩
 obtain ⟨a,x',ha,rfl,rfl,hy⟩:=hy
 have:=hy xs hp
 rw [e1] at this; cases this
 obtain ⟨O,r⟩:=r
 obtain ⟨r2,s2⟩:=r.new ha (.tup [.int i,v])
 exact ⟨_,s2,⟨O,r2⟩,kl av (bq (bD _) (bq (Rep.mono (z.trans s2) _ _ e2) bp))⟩
def miEnu (m:MA):MA:=fun ρ q=>m ρ fun ds ρ'=>match ds with
 | [.lst ds]=>q (fv ds) ρ'
 | _=>False
theorem dZ {k:Nat} {tpos p:Pos} (hg:Gl X "enumerate") (hm:X.mg "enumerate" = none) (ha:QA X ow [a] mr) (hs:starEach [a] X.env=[(false,eval a X.env)]:=by rfl):QI X ow (.Tuple es k tpos) (.Call (.Name "enumerate" p) [a] [] pos) (miEnu mr):=by
 obtain ⟨t,p,s⟩:=ha
 refine ⟨_,pO hg hm p hs,fun C G ρ σ H pd q Q r hm k=>s C G ρ σ H pd _ _ r hm fun ds ρ' vs G' H' hq z kp r' p hn=>?_⟩
 split at hq
 ·obtain ⟨v,rfl,p1⟩:=b8 p
  obtain ⟨a,xs,rfl,h1,h2⟩:=cy p1
  exact ⟨a,rfl,⟨xs,r'.gh _ _ h1⟩,k _ ρ' G' H' _ hq z kp r' (sP h1 h2)⟩
 ·exact hq.elim
def qH (i:Nat):ME:=fun ρ q=>match ρ[i]? with
 | some (some d)=>q d (ρ.set i none)
 | _=>False
end
inductive AK where
 | s | m (i:Nat) | t
def AK.isM:AK→Bool
 | .s=>false
 | _=>true
def eT (G:Hp) (σ:St):List AK→List D→List V→List (D×V)→Prop
 | [],[],[],[]=>True
 | .s :: ks,d :: ds,v :: vs,T=>Rep G d v∧eT G σ ks ds vs T
 | .m i :: ks,_ :: ds,v :: vs,T=>σ[i]? = some (some v)∧eT G σ ks ds vs T
 | .t :: ks,d :: ds,v :: vs,x :: T=>x=(d,v)∧eT G σ ks ds vs T
 | _,_,_,_=>False
def SAk (ow:List Bool) (ks:List AK) (t:TA) (m:MA):Prop:=∀ (C:Ctx) (G:Hp) (ρ:DSt) (σ:St) (H:Hp) (pd:List (D×V)) (q:List D→DSt→Prop) (Q:List V→Hp→Prop),R C ow G ρ σ H pd→m ρ q →
 (∀ ds ρ' vs T G' H',q ds ρ'→aD G G'→Kp ow ρ ρ'→R C ow G' ρ' σ H' (T.reverse++pd)→eT G' σ ks ds vs T→Q vs H')→t σ H Q
structure QAk (X:Cx) (ow:List Bool) (ks:List AK) (es:List Expr) (m:MA):Prop where
 ex:∃ t,PA X es t∧SAk ow ks t m
section
variable {X:Cx} {ow:List Bool} {a b c e tg:Expr} {ma mb mc:ME} {pos:Pos} {mr:MA} {es:List Expr} {ks:List AK}
theorem ao:QAk X ow [] [] lq:=⟨_,bw,fun C G ρ σ H pd q Q r h k=>k [] ρ [] [] G H h (aD.refl _) Kp.refl r trivial⟩
theorem aq (ha:QE X ow e ma) (hr:QAk X ow ks es mr) (hs:starEach (e :: es) X.env=(false,eval e X.env) :: starEach es X.env:=by rfl):QAk X ow (.s :: ks) (e :: es) (el ma mr):=by
 obtain ⟨t,p,s⟩:=ha; obtain ⟨t2,p2,s2⟩:=hr
 refine ⟨_,aL p p2 hs,fun C G ρ σ H pd q Q r hm k=>s C G ρ σ H pd _ _ r hm fun d ρ' v G' H' hq z kp r' p=>?_⟩
 exact s2 C G' ρ' σ H' pd _ _ r' hq fun ds ρ2 vs T G2 H2 hq2 z2 kp2 r2 p2=>k (d :: ds) ρ2 (v :: vs) T G2 H2 hq2 (z.trans z2) (kp.trans kp2) r2 ⟨Rep.mono z2 _ _ p,p2⟩
theorem qk_t (ha:QF X ow e ma) (hr:QAk X ow ks es mr) (hs:starEach (e :: es) X.env=(false,eval e X.env) :: starEach es X.env:=by rfl):QAk X ow (.t :: ks) (e :: es) (el ma mr):=by
 obtain ⟨t,p,s⟩:=ha; obtain ⟨t2,p2,s2⟩:=hr
 refine ⟨_,aL p p2 hs,fun C G ρ σ H pd q Q r hm k=>s C G ρ σ H pd _ _ r hm fun d ρ' v G' H' hq z kp r'=>?_⟩
 exact s2 C G' ρ' σ H' _ _ _ r' hq fun ds ρ2 vs T G2 H2 hq2 z2 kp2 r2 p2=>k (d :: ds) ρ2 (v :: vs) ((d,v) :: T) G2 H2 hq2 (z.trans z2) (kp.trans kp2) (by simpa using r2) ⟨rfl,p2⟩
def mo (i:Nat) (r:MA):MA:=fun ρ q=>match ρ[i]? with
 | some (some _)=>r ρ fun ds ρ2=>q (.non :: ds) ρ2
 | _=>False
theorem ck (i:Nat) {x:Str} (hr:QAk X ow ks es mr) (hN:X.N[i]? = some x:=by rfl) (hv:Vis X.env.scope x:=by first | exact Or.inl rfl | exact Or.inr (Or.inl rfl) | exact Or.inr (Or.inr rfl)) (hd:(x == ("__debug__":Str))=false:=by decide)
 (hcd:(x == ("__classdict__":Str))=false:=by decide) (hs:starEach (.Name x pos :: es) X.env=(false,eval (.Name x pos) X.env) :: starEach es X.env:=by rfl):QAk X ow (.m i :: ks) (.Name x pos :: es) (mo i mr):=by
 obtain ⟨t2,p2,s2⟩:=hr
 refine ⟨_,aL (dX hN hv hd hcd) p2 hs,fun C G ρ σ H pd q Q r hm k=>?_⟩
 unfold mo at hm
 split at hm
 ·rename_i d e
  obtain ⟨O,ro⟩:=r
  obtain ⟨v,h1,_⟩:=ro.sl i d e
  exact ⟨v,h1,s2 C G ρ σ H pd _ _ ⟨O,ro⟩ hm fun ds ρ2 vs T G2 H2 hq2 z2 kp2 r2 p2=>k (.non :: ds) ρ2 (v :: vs) T G2 H2 hq2 z2 kp2 r2 ⟨h1,p2⟩⟩
 ·exact hm.elim
def cf:List AK→List D→DSt→Option (List D)
 | [],[],_=>some []
 | .s :: ks,d :: ds,ρ=>(cf ks ds ρ).map (d :: ·)
 | .t :: ks,d :: ds,ρ=>(cf ks ds ρ).map (d :: ·)
 | .m i :: ks,_ :: ds,ρ=>match ρ[i]? with
  | some (some d)=>(cf ks ds ρ).map (d :: ·)
  | _=>none
 | _,_,_=>none
def lbs:List AK→Nat→List (Option Nat)
 | [],_=>[]
 | .s :: ks,r=>none :: lbs ks r
 | .m i :: ks,r=>some (2 * i) :: lbs ks r
 | .t :: ks,r=>some (2 * r + 1) :: lbs ks (r + 1)
def aw:List AK→List Nat
 | []=>[]
 | .m i :: ks=>i :: aw ks
 | _ :: ks=>aw ks
def fnd (l:Nat):List (Option Nat)→Nat→Option Nat
 | [],_=>none
 | x :: xs,k=>if x=some l then some k else fnd l xs (k + 1)
theorem jG {l:Nat}:∀ {xs:List (Option Nat)} {k j:Nat},fnd l xs k=some j→∃ i,j=k + i∧xs[i]? = some (some l)
 | [],_,_,h=>by cases h
 | x :: xs,k,j,h=>by
  unfold fnd at h
  split at h
  ·rename_i c; cases h; exact ⟨0,rfl,by simp [c]⟩
  ·obtain ⟨i,rfl,e⟩:=jG h; exact ⟨i + 1,by omega,by simpa using e⟩
theorem gb {l:Nat}:∀ {xs:List (Option Nat)} {k:Nat},(∀ i:Nat,xs[i]?≠some (some l))→fnd l xs k=none
 | [],_,_=>rfl
 | x :: xs,k,h=>by
  unfold fnd
  rw [if_neg (fun c=>h 0 (by simp [c]))]
  exact gb fun i=>by simpa using h (i + 1)
theorem jO {l:Nat}:∀ {xs:List (Option Nat)} {k i:Nat},(∀ (i j:Nat) (l:Nat),xs[i]? = some (some l)→xs[j]? = some (some l)→i=j)→xs[i]? = some (some l)→fnd l xs k=some (k + i)
 | [],_,_,_,h=>by simp at h
 | x :: xs,k,i,u,h=>by
  unfold fnd
  by_cases c:x=some l
  ·rw [if_pos c]
   have:=u 0 i l (by simp [c]) h
   subst this; rfl
  ·rw [if_neg c]
   cases i with
   | zero=>simp at h; exact absurd h c
   | succ i =>
    have:=jO (k:=k + 1) (i:=i) (fun i j l a b=>by have:=u (i + 1) (j + 1) l (by simpa using a) (by simpa using b); omega) (by simpa using h)
    rw [this]; congr 1; omega
theorem bN:∀ {ks:List AK} {r:Nat} {i l:Nat},(lbs ks r)[i]? = some (some l)→(∃ j∈aw ks,l=2 * j)∨∃ j,r≤j∧l=2 * j + 1
 | [],_,_,_,h=>by simp [lbs] at h
 | .s :: ks,r,0,l,h=>by simp [lbs] at h
 | .s :: ks,r,i + 1,l,h=>by simp only [lbs,List.getElem?_cons_succ] at h; have:=bN (ks:=ks) h; simpa [aw] using this
 | .m j :: ks,r,0,l,h=>by simp [lbs] at h; exact .inl ⟨j,by simp [aw],h.symm⟩
 | .m j :: ks,r,i + 1,l,h=>by
  simp only [lbs,List.getElem?_cons_succ] at h
  rcases bN h with ⟨z,h1,h2⟩ | h
  ·exact .inl ⟨z,by simp [aw,h1],h2⟩
  ·exact .inr h
 | .t :: ks,r,0,l,h=>by simp [lbs] at h; exact .inr ⟨r,Nat.le_refl _,h.symm⟩
 | .t :: ks,r,i + 1,l,h=>by
  simp only [lbs,List.getElem?_cons_succ] at h
  rcases bN h with ⟨z,h1,h2⟩ | ⟨j,h1,h2⟩
  ·exact .inl ⟨z,by simpa [aw] using h1,h2⟩
  ·exact .inr ⟨j,by omega,h2⟩
theorem dM:∀ {ks:List AK} {r:Nat},(aw ks).Nodup→∀ (i j l:Nat),(lbs ks r)[i]? = some (some l)→(lbs ks r)[j]? = some (some l)→i=j
 | [],_,_,i,j,l,h,_=>by simp [lbs] at h
 | .s :: ks,r,nd,0,j,l,h,_=>by simp [lbs] at h
 | .s :: ks,r,nd,i + 1,0,l,_,h=>by simp [lbs] at h
 | .s :: ks,r,nd,i + 1,j + 1,l,h,h2=>by simp only [lbs,List.getElem?_cons_succ] at h h2; rw [dM (ks:=ks) (by simpa [aw] using nd) i j l h h2]
 | .m a :: ks,r,nd,0,0,l,_,_=>rfl
 | .m a :: ks,r,nd,0,j + 1,l,h,h2=>by
  simp only [lbs,List.getElem?_cons_succ] at h2; simp [lbs] at h
  simp only [aw,List.nodup_cons] at nd
  rcases bN h2 with ⟨z,h3,h4⟩ | ⟨z,h3,h4⟩
  ·exact absurd h3 (by rw [show z=a by omega]; exact nd.1)
  ·omega
 | .m a :: ks,r,nd,i + 1,0,l,h2,h=>by
  simp only [lbs,List.getElem?_cons_succ] at h2; simp [lbs] at h
  simp only [aw,List.nodup_cons] at nd
  rcases bN h2 with ⟨z,h3,h4⟩ | ⟨z,h3,h4⟩
  ·exact absurd h3 (by rw [show z=a by omega]; exact nd.1)
  ·omega
 | .m a :: ks,r,nd,i + 1,j + 1,l,h,h2=>by
  simp only [aw,List.nodup_cons] at nd
  simp only [lbs,List.getElem?_cons_succ] at h h2; rw [dM (ks:=ks) nd.2 i j l h h2]
 | .t :: ks,r,nd,0,0,l,_,_=>rfl
 | .t :: ks,r,nd,0,j + 1,l,h,h2=>by
  simp only [lbs,List.getElem?_cons_succ] at h2; simp [lbs] at h
  rcases bN h2 with ⟨z,h3,h4⟩ | ⟨z,h3,h4⟩ <;> omega
 | .t :: ks,r,nd,i + 1,0,l,h2,h=>by
  simp only [lbs,List.getElem?_cons_succ] at h2; simp [lbs] at h
  rcases bN h2 with ⟨z,h3,h4⟩ | ⟨z,h3,h4⟩ <;> omega
 | .t :: ks,r,nd,i + 1,j + 1,l,h,h2=>by simp only [lbs,List.getElem?_cons_succ] at h h2; rw [dM (ks:=ks) (by simpa [aw] using nd) i j l h h2]
end
theorem cV {G H:Hp} {O:Own}:∀ {T pd:List (D×V)},bK G H O (T++pd)→bK G H O pd
 | [],_,h=>h
 | _ :: T,_,h=>cV (T:=T) h.2
theorem fD {G H:Hp} {O:Own}:∀ {T pd:List (D×V)} {j:Nat} {x:D×V},bK G H O (T.reverse++pd)→T[j]? = some x→Sep G H O (2 * (pd.length + j) + 1) x.1 [] x.2
 | [],_,_,_,_,e=>by simp at e
 | y :: T,pd,j,x,h,e=>by
  have h':bK G H O (T.reverse++(y :: pd)):=by simpa using h
  cases j with
  | zero=>simp at e; subst e; exact (cV h').1
  | succ j =>
   have:=fD (j:=j) h' (by simpa using e)
   rw [show pd.length + (j + 1)=(y :: pd).length + j by simp; omega]
   exact this
theorem eJ {G H:Hp} {O:Own} {σ:St} {ρ:DSt}:∀ {ks:List AK} {ds ds':List D} {vs:List V} {T:List (D×V)} {r:Nat},eT G σ ks ds vs T→cf ks ds ρ=some ds' →
 (∀ (j:Nat) x,T[j]? = some x→Sep G H O (2 * (r + j) + 1) x.1 [] x.2)→(∀ i∈aw ks,∀ d,ρ[i]? = some (some d)→∃ v,σ[i]? = some (some v)∧Sep G H O (2 * i) d [] v) →
 ds'.length=vs.length∧vs.length=ks.length∧∀ (k:Nat) d,ds'[k]? = some d→∃ v,vs[k]? = some v∧((∃ l,(lbs ks r)[k]? = some (some l)∧(ks.map AK.isM)[k]? = some true∧Sep G H O l d [] v)∨((ks.map AK.isM)[k]? = some false∧Rep G d v))
 | [],[],ds',[],[],r,_,hf,_,_=>by simp [cf] at hf; subst hf; exact ⟨rfl,rfl,fun k d e=>by simp at e⟩
 | .s :: ks,d :: ds,ds',v :: vs,T,r,h,hf,hT,hS=>by
  rw [cf] at hf
  cases e:cf ks ds ρ with
  | none=>rw [e] at hf; cases hf
  | some es =>
   rw [e] at hf; cases hf
   obtain ⟨l1,l2,ih⟩:=eJ (ks:=ks) h.2 e hT (fun i hi=>hS i (by simpa [aw] using hi))
   refine ⟨by simp [l1],by simp [l2],fun k d' e'=>?_⟩
   cases k with
   | zero=>simp at e'; subst e'; exact ⟨v,rfl,.inr ⟨rfl,h.1⟩⟩
   | succ k=>obtain ⟨u,g1,g2⟩:=ih k d' (by simpa using e'); exact ⟨u,by simpa using g1,by simpa [lbs] using g2⟩
 | .m i :: ks,d :: ds,ds',v :: vs,T,r,h,hf,hT,hS=>by
  rw [cf] at hf
  cases e0 : ρ[i]? with
  | none=>rw [e0] at hf; cases hf
  | some o =>
   cases o with
   | none=>rw [e0] at hf; cases hf
   | some d0 =>
    rw [e0] at hf
    dsimp only at hf
    cases e:cf ks ds ρ with
    | none=>rw [e] at hf; cases hf
    | some es =>
     rw [e] at hf; cases hf
     obtain ⟨l1,l2,ih⟩:=eJ (ks:=ks) h.2 e hT (fun i hi=>hS i (by simp [aw,hi]))
     refine ⟨by simp [l1],by simp [l2],fun k d' e'=>?_⟩
     cases k with
     | zero =>
      simp at e'; subst e'
      obtain ⟨u,g1,g2⟩:=hS i (by simp [aw]) d0 e0
      rw [h.1] at g1; cases g1
      exact ⟨v,rfl,.inl ⟨2 * i,by simp [lbs],rfl,g2⟩⟩
     | succ k=>obtain ⟨u,g1,g2⟩:=ih k d' (by simpa using e'); exact ⟨u,by simpa using g1,by simpa [lbs] using g2⟩
 | .t :: ks,d :: ds,ds',v :: vs,x :: T,r,h,hf,hT,hS=>by
  rw [cf] at hf
  cases e:cf ks ds ρ with
  | none=>rw [e] at hf; cases hf
  | some es =>
   rw [e] at hf; cases hf
   obtain ⟨l1,l2,ih⟩:=eJ (ks:=ks) (r:=r + 1) h.2 e (fun j x e=>by rw [show r + 1 + j=r + (j + 1) by omega]; exact hT (j + 1) x (by simpa using e)) (fun i hi=>hS i (by simpa [aw] using hi))
   refine ⟨by simp [l1],by simp [l2],fun k d' e'=>?_⟩
   cases k with
   | zero =>
    simp at e'; subst e'
    have:=hT 0 x rfl
    rw [h.1] at this
    exact ⟨v,rfl,.inl ⟨2 * r + 1,by simp [lbs],rfl,this⟩⟩
   | succ k=>obtain ⟨u,g1,g2⟩:=ih k d' (by simpa using e'); exact ⟨u,by simpa using g1,by simpa [lbs] using g2⟩
 | [],_ :: _,_,_,_,_,h,_,_,_=>h.elim
 | [],[],_,_ :: _,_,_,h,_,_,_=>h.elim
 | [],[],_,[],_ :: _,_,h,_,_,_=>h.elim
 | .s :: _,[],_,_,_,_,h,_,_,_=>h.elim
 | .s :: _,_ :: _,_,[],_,_,h,_,_,_=>h.elim
 | .m _ :: _,[],_,_,_,_,h,_,_,_=>h.elim
 | .m _ :: _,_ :: _,_,[],_,_,h,_,_,_=>h.elim
 | .t :: _,[],_,_,_,_,h,_,_,_=>h.elim
 | .t :: _,_ :: _,_,[],_,_,h,_,_,_=>h.elim
 | .t :: _,_ :: _,_,_ :: _,[],_,h,_,_,_=>h.elim
theorem c_ {G:Hp} {σ:St}:∀ {ks:List AK} {ds:List D} {vs:List V} {T:List (D×V)} {k i:Nat},eT G σ ks ds vs T→ks[k]? = some (.m i)→∃ v,vs[k]? = some v∧σ[i]? = some (some v)
 | [],_,_,_,k,i,_,e=>by simp at e
 | .s :: ks,d :: ds,v :: vs,T,0,i,h,e=>by simp at e
 | .s :: ks,d :: ds,v :: vs,T,k + 1,i,h,e=>by obtain ⟨u,g1,g2⟩:=c_ (k:=k) h.2 (by simpa using e); exact ⟨u,by simpa using g1,g2⟩
 | .m j :: ks,d :: ds,v :: vs,T,0,i,h,e=>by simp at e; subst e; exact ⟨v,rfl,h.1⟩
 | .m j :: ks,d :: ds,v :: vs,T,k + 1,i,h,e=>by obtain ⟨u,g1,g2⟩:=c_ (k:=k) h.2 (by simpa using e); exact ⟨u,by simpa using g1,g2⟩
 | .t :: ks,d :: ds,v :: vs,x :: T,0,i,h,e=>by simp at e
 | .t :: ks,d :: ds,v :: vs,x :: T,k + 1,i,h,e=>by obtain ⟨u,g1,g2⟩:=c_ (k:=k) h.2 (by simpa using e); exact ⟨u,by simpa using g1,g2⟩
 | .s :: _,[],_,_,_,_,h,_=>h.elim
 | .s :: _,_ :: _,[],_,_,_,h,_=>h.elim
 | .m _ :: _,[],_,_,_,_,h,_=>h.elim
 | .m _ :: _,_ :: _,[],_,_,_,h,_=>h.elim
 | .t :: _,[],_,_,_,_,h,_=>h.elim
 | .t :: _,_ :: _,[],_,_,_,h,_=>h.elim
 | .t :: _,_ :: _,_ :: _,[],_,_,h,_=>h.elim
def bG:List AK→DSt→DSt→DSt
 | .m i :: ks,x :: ρ2,ρ=>bG ks ρ2 (ρ.set i x)
 | _ :: ks,_ :: ρ2,ρ=>bG ks ρ2 ρ
 | _,_,ρ=>ρ
def dF:List AK→DSt→DSt→DSt
 | .s :: ks,os,ρ=>dF ks os ρ
 | .m i :: ks,o :: os,ρ=>dF ks os (ρ.set i o)
 | .t :: ks,_ :: os,ρ=>dF ks os ρ
 | _,_,ρ=>ρ
theorem eK:∀ {ks:List AK} {ρ2 ρ:DSt},ρ2.length=ks.length→dF ks (mus (ks.map AK.isM) ρ2) ρ=bG ks ρ2 ρ
 | [],[],ρ,_=>rfl
 | .s :: ks,x :: ρ2,ρ,h=>by simp only [List.map,AK.isM,mus,dF,bG]; exact eK (by simpa using h)
 | .m i :: ks,x :: ρ2,ρ,h=>by simp only [List.map,AK.isM,mus,dF,bG]; exact eK (by simpa using h)
 | .t :: ks,x :: ρ2,ρ,h=>by simp only [List.map,AK.isM,mus,dF,bG]; exact eK (by simpa using h)
theorem dE:∀ {ks:List AK} {ρ2 ρ:DSt},(bG ks ρ2 ρ).length=ρ.length
 | [],_,_=>by simp [bG]
 | .s :: ks,[],_=>by simp [bG]
 | .m i :: ks,[],_=>by simp [bG]
 | .t :: ks,[],_=>by simp [bG]
 | .s :: ks,x :: ρ2,ρ=>by simp only [bG]; exact dE
 | .m i :: ks,x :: ρ2,ρ=>by simp only [bG]; rw [dE]; simp
 | .t :: ks,x :: ρ2,ρ=>by simp only [bG]; exact dE
theorem dN:∀ {ks:List AK} {ρ2 ρ:DSt} {i:Nat},i ∉ aw ks→(bG ks ρ2 ρ)[i]? = ρ[i]?
 | [],_,_,_,_=>by simp [bG]
 | .s :: ks,[],_,_,_=>by simp [bG]
 | .m i :: ks,[],_,_,_=>by simp [bG]
 | .t :: ks,[],_,_,_=>by simp [bG]
 | .s :: ks,x :: ρ2,ρ,i,h=>by simp only [bG]; exact dN (by simpa [aw] using h)
 | .t :: ks,x :: ρ2,ρ,i,h=>by simp only [bG]; exact dN (by simpa [aw] using h)
 | .m j :: ks,x :: ρ2,ρ,i,h=>by
  simp only [bG]
  simp only [aw,List.mem_cons,not_or] at h
  rw [dN h.2,List.getElem?_set_ne (Ne.symm h.1)]
theorem dn:∀ {ks:List AK} {ρ2 ρ:DSt} {i:Nat} {d:D},(bG ks ρ2 ρ)[i]? = some (some d)→ρ2.length=ks.length→(i ∉ aw ks∧ρ[i]? = some (some d))∨∃ k:Nat,ks[k]? = some (.m i)∧ρ2[k]? = some (some d)
 | [],[],ρ,i,d,h,_=>.inl ⟨by simp [aw],by simpa [bG] using h⟩
 | .s :: ks,x :: ρ2,ρ,i,d,h,hl=>by
  simp only [bG] at h
  rcases dn h (by simpa using hl) with ⟨h1,h2⟩ | ⟨k,h1,h2⟩
  ·exact .inl ⟨by simpa [aw] using h1,h2⟩
  ·exact .inr ⟨k + 1,by simpa using h1,by simpa using h2⟩
 | .t :: ks,x :: ρ2,ρ,i,d,h,hl=>by
  simp only [bG] at h
  rcases dn h (by simpa using hl) with ⟨h1,h2⟩ | ⟨k,h1,h2⟩
  ·exact .inl ⟨by simpa [aw] using h1,h2⟩
  ·exact .inr ⟨k + 1,by simpa using h1,by simpa using h2⟩
 | .m j :: ks,x :: ρ2,ρ,i,d,h,hl=>by
  simp only [bG] at h
  rcases dn h (by simpa using hl) with ⟨h1,h2⟩ | ⟨k,h1,h2⟩
  ·rcases df h2 with ⟨rfl,rfl⟩ | ⟨h3,h4⟩
   ·exact .inr ⟨0,rfl,rfl⟩
   ·exact .inl ⟨by simp [aw,h1,h3],h4⟩
  ·exact .inr ⟨k + 1,by simpa using h1,by simpa using h2⟩
theorem i6:∀ {ks:List AK} {r k i:Nat},ks[k]? = some (.m i)→(lbs ks r)[k]? = some (some (2 * i))
 | [],_,_,_,e=>by simp at e
 | .s :: ks,r,0,i,e=>by simp at e
 | .s :: ks,r,k + 1,i,e=>by simp only [lbs,List.getElem?_cons_succ]; exact i6 (by simpa using e)
 | .m j :: ks,r,0,i,e=>by simp at e; subst e; simp [lbs]
 | .m j :: ks,r,k + 1,i,e=>by simp only [lbs,List.getElem?_cons_succ]; exact i6 (by simpa using e)
 | .t :: ks,r,0,i,e=>by simp at e
 | .t :: ks,r,k + 1,i,e=>by simp only [lbs,List.getElem?_cons_succ]; exact i6 (by simpa using e)
theorem di:∀ {ks:List AK} {r k l:Nat},(lbs ks r)[k]? = some (some l)→(ks.map AK.isM)[k]? = some true
 | [],_,_,_,e=>by simp [lbs] at e
 | .s :: ks,r,0,i,e=>by simp [lbs] at e
 | .s :: ks,r,k + 1,i,e=>by simp only [lbs,List.getElem?_cons_succ] at e; simp only [List.map,List.getElem?_cons_succ]; exact di e
 | .m j :: ks,r,0,i,e=>rfl
 | .m j :: ks,r,k + 1,i,e=>by simp only [lbs,List.getElem?_cons_succ] at e; simp only [List.map,List.getElem?_cons_succ]; exact di e
 | .t :: ks,r,0,i,e=>rfl
 | .t :: ks,r,k + 1,i,e=>by simp only [lbs,List.getElem?_cons_succ] at e; simp only [List.map,List.getElem?_cons_succ]; exact di e
theorem kY {ks:List AK} {k i:Nat} (h:ks[k]? = some (.m i)):i∈aw ks:=by
 induction ks generalizing k with
 | nil=>simp at h
 | cons x ks ih =>
  cases k with
  | zero=>simp at h; subst h; simp [aw]
  | succ k=>have:=ih (by simpa using h); cases x <;> simp [aw,this]
theorem i7 {C:Ctx} {ow:List Bool} {G:Hp} {ρ:DSt} {σ:St} {H:Hp} {pd T:List (D×V)} {ks:List AK} {ds ds':List D} {vs:List V} {fr:Bool} {sd:SpD} {q:D→DSt→Prop} {Q:VK} {E:XK}
 (hn:C.np≤pd.length) (r:R C ow G ρ σ H (T.reverse++pd)) (ha:eT G σ ks ds vs T) (hf:cf ks ds ρ=some ds') (nd:(aw ks).Nodup) (hw:∀ i∈aw ks,ow[i]? = some true)
 (h:sd ds' fun d os=>q d (dF ks os ρ))
 (k:∀ d ρ' v G' H',q d ρ'→aD G G'→Kp ow ρ ρ'→(if fr=true then R C ow G' ρ' σ H' ((d,v) :: pd) else R C ow G' ρ' σ H' pd∧Rep G' d v)→Q v H'):bA (ks.map AK.isM) fr sd vs H Q E:=by
 obtain ⟨O,ro⟩:=r
 have pn:=ro.pn
 obtain ⟨l1,l2,hat⟩:=eJ (O:=O) (H:=H) (r:=pd.length) ha hf (fun j x e=>fD pn e) (fun i hi d e=>by
  obtain ⟨v,h1,h2⟩:=ro.sl i d e; rw [if_pos (hw i hi)] at h2; exact ⟨v,h1,h2⟩)
 let lb:=lbs ks pd.length
 let fin:Nat→Option Nat:=fun l=>(fnd l lb 0).map (2 * ·)
 let fbk:Nat→Option Nat:=fun l=>if l=1 then some (2 * pd.length + 1) else if l % 2=0 then (match lb[l / 2]? with | some o=>o | none=>none) else none
 have uq:=dM (ks:=ks) (r:=pd.length) nd
 have fin_at:∀ (i l:Nat),lb[i]? = some (some l)→fin l=some (2 * i):=fun i l e=>by
  show (fnd l lb 0).map _=_
  rw [jO uq e]; simp
 have fin_of:∀ l l',fin l=some l'→∃ i,l'=2 * i∧lb[i]? = some (some l):=fun l l' e=>by
  change (fnd l lb 0).map _=_ at e
  cases z:fnd l lb 0 with
  | none=>rw [z] at e; cases e
  | some j=>rw [z] at e; cases e; obtain ⟨i,rfl,e2⟩:=jG z; exact ⟨i,by show 2 * (0 + i)=2 * i; omega,e2⟩
 have fin_none:∀ l,(∀ i:Nat,lb[i]?≠some (some l))→fin l=none:=fun l e=>by
  show (fnd l lb 0).map _=_
  rw [gb e]; rfl
 have ri:=ro.into (mu:=ks.map AK.isM) (fin:=fin) (ds:=ds') (vs:=vs) l1 (fun j d e=>by
  obtain ⟨v,h1,h2⟩:=hat j d e
  refine ⟨v,h1,?_⟩
  rcases h2 with ⟨l,h2,h3,h4⟩ | ⟨h2,h3⟩
  ·rw [if_pos h3]; exact ⟨l,h4,fin_at j l h2⟩
  ·rw [if_neg (by rw [h2]; decide)]; exact h3) (fun l l' e=>by
  obtain ⟨i,rfl,e2⟩:=fin_of l l' e
  exact ⟨i,rfl,di e2,by have:=(List.getElem?_eq_some_iff.mp (di e2)).1; rw [List.length_map] at this; omega⟩)
 refine ⟨_,G,ds',fun d os=>q d (dF ks os ρ),rfl,rfl,⟨_,ri⟩,h,by rw [List.length_map,l1,l2],?_⟩
 intro d ρ2 σ2 v G2 H2 hq z hl hr
 rw [List.length_map] at hl
 rw [eK hl] at hq
 have out:∀ (pd2 pd3:List (D×V)) (O2:Own),RO ⟨G,H,bQ fin O,msV (ks.map AK.isM) vs,0⟩ (ks.map AK.isM) G2 ρ2 σ2 H2 pd2 O2→C.np≤pd3.length →
  (∀ (O3:Own),(∀ a l π,O a=some (l,π)→fin l=none→O3 a=some (l,π)∧H2 a=H a)→(∀ a l l' π,O2 a=some (l',π)→fbk l'=some l→O3 a=some (l,π))→bR G G2→bK G2 H2 O3 pd3) →
  RO C ow G2 (bG ks ρ2 ρ) σ H2 pd3 (jB fin fbk O O2):=fun pd2 pd3 O2 r2 hn3 hP=>by
  refine ro.out (vs:=vs) r2 ?_ (by rw [dE]; exact ro.len) hn3 ?_ ?_ hP
  ·intro l0 l' l e1 e2
   obtain ⟨i,rfl,e3⟩:=fin_of l0 l' e1
   change (if 2 * i=1 then _ else if 2 * i % 2=0 then _ else _)=_ at e2
   rw [if_neg (by omega),if_pos (by omega),show 2 * i / 2=i by omega,e3] at e2
   exact (Option.some.inj e2).symm
  ·intro i d c e
   rcases dn e hl with ⟨_,h2⟩ | ⟨k,h1,_⟩
   ·exact h2
   ·exact absurd (hw i (kY h1)) c
  ·intro i d c e
   rcases dn e hl with ⟨h1,h2⟩ | ⟨j,h1,h2⟩
   ·refine .inl ⟨fin_none _ fun j e=>?_,h2⟩
    rcases bN e with ⟨z,h3,h4⟩ | ⟨z,h3,h4⟩
    ·exact h1 (by rw [show i=z by omega]; exact h3)
    ·omega
   ·obtain ⟨u,g1,g2⟩:=c_ ha h1
    have im:(ks.map AK.isM)[j]? = some true:=by rw [List.getElem?_map,h1]; rfl
    refine .inr ⟨j,u,?_,im,h2,g2,r2.mp j u (iR im g1)⟩
    show (if 2 * j=1 then _ else if 2 * j % 2=0 then _ else _)=_
    rw [if_neg (by omega),if_pos (by omega),show 2 * j / 2=j by omega,i6 h1]
 have pdk:∀ (O3:Own),(∀ a l π,O a=some (l,π)→fin l=none→O3 a=some (l,π)∧H2 a=H a)→bR G G2→bK G2 H2 O3 pd:=fun O3 h1 ts =>
  bK.keep ts (fun a j π hj e=>h1 a _ _ e (fin_none _ fun i e=>by
   rcases bN e with ⟨z,h3,h4⟩ | ⟨z,h3,h4⟩ <;> omega)) (cV (T:=T.reverse) pn)
 have kp:Kp ow ρ (bG ks ρ2 ρ):=fun j hj=>dN fun hs=>hj (hw j hs)
 refine k d (bG ks ρ2 ρ) v G2 H2 hq z kp ?_
 unfold Ret at hr
 split at hr
 ·rename_i c
  rw [if_pos c]
  obtain ⟨O2,r2⟩:=hr
  refine ⟨_,out _ ((d,v) :: pd) O2 r2 (Nat.le_succ_of_le hn) fun O3 h1 h2 ts=>⟨?_,pdk O3 h1 ts⟩⟩
  exact r2.pn.1.keep (fun _ _ z=>z) fun a τ e=>⟨h2 a _ _ _ e (by show (if 2 * 0 + 1=1 then _ else _)=_; rw [if_pos rfl]),rfl⟩
 ·rename_i c
  rw [if_neg c]
  obtain ⟨⟨O2,r2⟩,p⟩:=hr
  exact ⟨⟨_,out _ pd O2 r2 hn fun O3 h1 h2 ts=>pdk O3 h1 ts⟩,p⟩
section
variable {X:Cx} {ow:List Bool} {a b c e tg:Expr} {ma mb mc:ME} {pos p':Pos} {mr:MA} {es:List Expr} {ks:List AK} {x:Str}
def ka (ks:List AK) (sd:SpD) (m:MA):ME:=fun ρ q=>m ρ fun ds ρ1=>match cf ks ds ρ1 with
 | some ds'=>sd ds' fun d os=>q d (dF ks os ρ1)
 | none=>False
theorem qu {k:Nat} {f:Addr} {fd:FuncData} {ps:List Str} {mu:List Bool} {sd:SpD} (F:FnOk X.prog X.w X.K X.mg X.base CX0 k f fd ps (bA mu false sd)) (hr:Room k X.A) (hg:Gl X x) (hm:X.mg x=some (.ref f)) (hk:PySem.W.keepIn X.K (.ref f)=true) (hb:bS X.K fd ps [])
 (ha:QAk X ow ks (e :: es) mr) (hmu:mu=ks.map AK.isM:=by rfl) (nd:(aw ks).Nodup:=by decide) (hw:∀ i∈aw ks,ow[i]? = some true:=by decide) (hdb:(x == ("__debug__":Str))=false:=by decide)
 (he:starEach (e :: es) X.env=(false,eval e X.env) :: starEach es X.env:=by rfl) (hpl:(backTo pos (starEach es X.env)).any (·.1)=false:=by rfl):QE X ow (.Call (.Name x p') (e :: es) [] pos) (ka ks sd mr):=by
 obtain ⟨t,p,s⟩:=ha
 subst hmu
 refine ⟨_,kJ F hr hg hm hk hb .nil qQ p hdb he hpl,fun C G ρ σ H pd q Q r hm k=>s C G ρ σ H pd _ _ r hm fun ds ρ' vs T G' H' hq z kp r' p=>?_⟩
 rw [List.append_nil]
 split at hq
 ·rename_i ds' ef
  exact i7 (fr:=false) r.np r' p ef nd hw hq fun d ρ2 v G2 H2 hq2 z2 kp2 h2=>by
   rw [if_neg (by decide)] at h2
   exact k d ρ2 v G2 H2 hq2 (z.trans z2) (kp.trans kp2) h2.1 h2.2
 ·exact hq.elim
theorem pC {k:Nat} {f:Addr} {fd:FuncData} {ps:List Str} {mu:List Bool} {sd:SpD} (F:FnOk X.prog X.w X.K X.mg X.base CX0 k f fd ps (bA mu true sd)) (hr:Room k X.A) (hg:Gl X x) (hm:X.mg x=some (.ref f)) (hk:PySem.W.keepIn X.K (.ref f)=true) (hb:bS X.K fd ps [])
 (ha:QAk X ow ks (e :: es) mr) (hmu:mu=ks.map AK.isM:=by rfl) (nd:(aw ks).Nodup:=by decide) (hw:∀ i∈aw ks,ow[i]? = some true:=by decide) (hdb:(x == ("__debug__":Str))=false:=by decide)
 (he:starEach (e :: es) X.env=(false,eval e X.env) :: starEach es X.env:=by rfl) (hpl:(backTo pos (starEach es X.env)).any (·.1)=false:=by rfl):QF X ow (.Call (.Name x p') (e :: es) [] pos) (ka ks sd mr):=by
 obtain ⟨t,p,s⟩:=ha
 subst hmu
 refine ⟨_,kJ F hr hg hm hk hb .nil qQ p hdb he hpl,fun C G ρ σ H pd q Q r hm k=>s C G ρ σ H pd _ _ r hm fun ds ρ' vs T G' H' hq z kp r' p=>?_⟩
 rw [List.append_nil]
 split at hq
 ·rename_i ds' ef
  exact i7 (fr:=true) r.np r' p ef nd hw hq fun d ρ2 v G2 H2 hq2 z2 kp2 h2=>by
   rw [if_pos rfl] at h2
   exact k d ρ2 v G2 H2 hq2 (z.trans z2) (kp.trans kp2) h2
 ·exact hq.elim
end
theorem RO.grow {C:Ctx} {mu ow:List Bool} {G:Hp} {ds:List D} {vs:List V} {H:Hp} {O:Own} (n:Nat) (h:RO C mu G (ds.map some) (vs.map some) H [] O) (ho:∀ i:Nat,i<ds.length→ow[i]? = mu[i]?) :
 RO C ow G (ds.map some++List.replicate n none) (vs.map some++List.replicate n none) H [] O:=by
 have hl:ds.length=vs.length:=by simpa using h.len
 have up:∀ {α:Type} {l:List α} {i:Nat} {d : α},(l.map some++List.replicate n none)[i]? = some (some d)→i<l.length∧(l.map some)[i]? = some (some d):=fun {α l i d} e=>by
  by_cases c:i<l.length
  ·rw [List.getElem?_append_left (by simpa using c)] at e; exact ⟨c,e⟩
  ·rw [List.getElem?_append_right (by simpa using c)] at e
   rw [List.getElem?_replicate] at e
   split at e <;> cases e
 refine ⟨by simp [hl],h.gh,h.g0,h.gn,h.og,h.cok,h.fr,h.ft,h.al,?_,?_,h.pn,h.np⟩
 ·intro i v e
  have:=h.mp i v e
  rw [List.getElem?_append_left (dj this)]; exact this
 ·intro i d e
  obtain ⟨c,e1⟩:=up e
  obtain ⟨v,h1,h2⟩:=h.sl i d e1
  exact ⟨v,by rw [List.getElem?_append_left (dj h1)]; exact h1,by rw [ho i c]; exact h2⟩
theorem RO.trim {C:Ctx} {mu ow:List Bool} {G:Hp} {ρ:DSt} {σ:St} {H:Hp} {pd:List (D×V)} {O:Own} (h:RO C ow G ρ σ H pd O) (hm:fu C mu) (ho:∀ i:Nat,i<mu.length→ow[i]? = mu[i]?) :
 RO C mu G (bJ mu.length ρ) (bJ mu.length σ) H pd O:=by
 refine ⟨by rw [bO,bO],h.gh,h.g0,h.gn,h.og,h.cok,h.fr,h.ft,h.al,?_,?_,h.pn,h.np⟩
 ·intro i v e
  exact ix (lt_of_slot' (hm i v e)) (h.mp i v e)
 ·intro i d e
  obtain ⟨c,e1⟩:=iz e
  obtain ⟨v,h1,h2⟩:=h.sl i d e1
  exact ⟨v,ix c h1,by rw [← ho i c]; exact h2⟩
where
 lt_of_slot' {l:List Bool} {i:Nat} {x:Bool} (h:l[i]? = some x):i<l.length:=(List.getElem?_eq_some_iff.mp h).1
def gj (mu:List Bool) (q:D→DSt→Prop):EndsD:=⟨fun ρ=>q .non (mus mu ρ),fun d ρ=>q d (mus mu ρ),fun _=>False,fun _=>False⟩
theorem fnD {P:Program} {w:World} {K:PySem.W.Frag} {mg:Str→Option Value} {base:Heap} {x qual:Str} {st:Stmt} {f:Addr} {fd:FuncData} {N ps:List Str} {k:Nat} (F:Fun K x qual st f fd) (S:FnScope N ps (ag st)) (M:Md) (sd:SpD)
 (hl:∀ ds q,sd ds q→ds.length=ps.length) (ho:M.ow.take ps.length=M.mu) (hml:M.mu.length=ps.length)
 (hbody:∀ (cdv:Value) (A:Around) (outer:List Env) (s:Shared) (H:Hp) (E:XK),Room k (A.deeper (envOfC qual (ag st) s.heap.objs.size f cdv)) →
  ∃ m,QSs (gt CX0 P w K mg base N qual (ag st) f cdv A outer s H E).nox M (bI st) m∧∀ ds q,sd ds q→m (gj M.mu q) (ds.map some++List.replicate (N.length - ps.length) none)) :
 FnOk P w K mg base CX0 (k + 1) f fd ps (bA M.mu M.fr sd):=by
 have hov:∀ i:Nat,i<M.mu.length→M.ow[i]? = M.mu[i]?:=fun i hi=>by rw [← ho,List.getElem?_take_of_lt (by omega)]
 have hlen:∀ vs H Q E,bA M.mu M.fr sd vs H Q E→vs.length=ps.length:=fun vs H Q E ⟨C,G,ds,q,_,_,⟨O,ro⟩,h1,_,_⟩=>by
  have:=ro.len; simp at this; rw [← this]; exact hl ds q h1
 refine F.ok S hlen fun cdv A outer s H vs Q E hr hsp=>?_
 obtain ⟨m,⟨t,p,ss⟩,hm⟩:=hbody cdv A outer s H E hr
 have hvl:=hlen vs H Q E hsp
 obtain ⟨C,G,ds,q,hnp,hmu,⟨O,ro⟩,hsd,hml2,kk⟩:=hsp
 refine ⟨t,p,?_⟩
 have hmo:fu C M.mu:=fun i v e=>by rw [hmu] at e; exact (iJ e).1
 have r0:R C M.ow G (ds.map some++List.replicate (N.length - ps.length) none) (cw N vs) H []:=by
  unfold cw; rw [hvl]
  exact ⟨O,ro.grow _ fun i hi=>hov i (by omega)⟩
 refine ss C G _ _ H (gj M.mu q) _ hmo hnp r0 (hm ds q hsd) ⟨?_,fun _ _ _ _ h=>h.elim,fun _ _ _ _ h=>h.elim,?_⟩
 ·intro ρ σ G' H' h z ⟨O',r'⟩
  refine kk .non (bJ M.mu.length ρ) (bJ M.mu.length σ) .non G' H' (by rw [bP]; exact h) z (bO _ _) (R.non ⟨O',r'.trim hmo hov⟩)
 ·intro d ρ σ v G' H' h z hr'
  refine kk d (bJ M.mu.length ρ) (bJ M.mu.length σ) v G' H' (by rw [bP]; exact h) z (bO _ _) ?_
  unfold Ret at hr' ⊢
  split at hr'
  ·rename_i c; rw [if_pos c]; obtain ⟨O',r'⟩:=hr'; exact ⟨O',r'.trim hmo hov⟩
  ·rename_i c; rw [if_neg c]; obtain ⟨⟨O',r'⟩,p⟩:=hr'; exact ⟨⟨O',r'.trim hmo hov⟩,p⟩
theorem Seps.mk {G H:Hp} {O:Own} {i:Nat}:∀ {T:List (D×V)} {k:Nat} {π:List Nat},(∀ (j:Nat) x,T[j]? = some x→Sep G H O i x.1 ((k + j) :: π) x.2)→Seps G H O i (T.map (·.1)) k π (T.map (·.2))
 | [],_,_,_=>by simp; rw [Seps]
 | x :: T,k,π,h=>by
  simp only [List.map]; rw [Seps]
  exact ⟨x.2,_,rfl,by simpa using h 0 x rfl,Seps.mk fun j y e=>by rw [show k + 1 + j=k + (j + 1) by omega]; exact h (j + 1) y (by simpa using e)⟩
section
variable {C:Ctx} {ow:List Bool} {G:Hp} {ρ:DSt} {σ:St} {H:Hp} {pd T:List (D×V)} {O:Own}
theorem RO.gather (h:RO C ow G ρ σ H (T.reverse++pd) O) (hn:C.np≤pd.length):∃ O',RO C ow G ρ σ H pd O'∧Seps G H O' (2 * pd.length + 1) (T.map (·.1)) 0 [] (T.map (·.2)):=by
 refine ⟨lab (fun l π=>if l % 2=1∧pd.length≤l / 2 then (2 * pd.length + 1,π++[l / 2 - pd.length]) else (l,π)) O,⟨h.len,h.gh,h.g0,h.gn,?_,h.cok,h.fr,h.ft,h.al,h.mp,?_,?_,hn⟩,?_⟩
 ·intro a m e
  obtain ⟨l,π,e1,rfl⟩:=iD e
  obtain ⟨q1,q2,q3⟩:=h.og a _ e1
  refine ⟨q1,q2,?_⟩
  split
  ·rename_i z
   rcases q3 with q3 | ⟨_,q3⟩
   ·exact .inl q3
   ·rcases h.cok _ _ _ q3 with ⟨k,_,q4,_⟩ | ⟨k,q4,q5⟩
    ·omega
    ·omega
  ·exact q3
 ·intro j e q
  obtain ⟨u,h1,h2⟩:=h.sl j e q
  refine ⟨u,h1,?_⟩
  split at h2
  ·rename_i c; rw [if_pos c]; exact h2.keep (fun _ _ z=>z) fun a τ q=>⟨by rw [bW q,if_neg (by omega)],rfl⟩
  ·rename_i c; rw [if_neg c]; exact h2
 ·exact bK.keep (fun _ _ z=>z) (fun a j π hj q=>⟨by rw [bW q,if_neg (by omega)],rfl⟩) (cV (T:=T.reverse) h.pn)
 ·refine Seps.mk fun j x e=>?_
  have:=fD h.pn e
  refine Sep.map (f:=fun π=>π++[0 + j]) (fun _ _ z=>z) (fun _ _=>rfl) x.1 [] x.2 (fun a τ q=>⟨?_,rfl⟩) this
  rw [bW q,if_pos (by omega)]
  rw [show (2 * (pd.length + j) + 1) / 2 - pd.length=0 + j by omega]
theorem RO.newT (h:RO C ow G ρ σ H pd O) {p:Addr} (hp:H p=none) {ds:List D} {vs:List V} (hs:Seps G H O (2 * pd.length + 1) ds 0 [] vs):R C ow (upd G p (.tup vs)) ρ σ (upd H p (.tup vs)) ((.tup ds,.ref p) :: pd)∧aD G (upd G p (.tup vs)):=by
 obtain ⟨r,z⟩:=h.new hp (.tup vs)
 refine ⟨⟨O,r.len,r.gh,r.g0,r.gn,r.og,r.cok,r.fr,r.ft,r.al,r.mp,r.sl,⟨?_,r.pn⟩,Nat.le_succ_of_le r.np⟩,z⟩
 rw [Sep]
 exact ⟨p,vs,rfl,av,hs.keep z.ts fun a τ _ q=>⟨q,ah (fun e=>by obtain ⟨_,⟨xs,w⟩,_⟩:=h.og a _ q; rw [e,hp] at w; cases w)⟩⟩
end
def SFm (M:Md) (t:TE) (m:ME):Prop:=∀ (C:Ctx) (G:Hp) (ρ:DSt) (σ:St) (H:Hp) (pd:List (D×V)) (q:D→DSt→Prop) (Q:VK),fu C M.mu→R C M.ow G ρ σ H pd→m ρ q →
 (∀ d ρ' v G' H',q d ρ'→aD G G'→R C M.ow G' ρ' σ H' ((d,v) :: pd)→Q v H')→t σ H Q
structure QM (X:Cx) (M:Md) (e:Expr) (m:ME):Prop where
 ex:∃ t,PE X e t∧SFm M t m
def SAm (M:Md) (n:Nat) (t:TA) (m:MA):Prop:=∀ (C:Ctx) (G:Hp) (ρ:DSt) (σ:St) (H:Hp) (pd:List (D×V)) (q:List D→DSt→Prop) (Q:List V→Hp→Prop),fu C M.mu→R C M.ow G ρ σ H pd→m ρ q →
 (∀ (T:List (D×V)) ρ' G' H',q (T.map (·.1)) ρ'→aD G G'→R C M.ow G' ρ' σ H' (T.reverse++pd)→T.length=n→Q (T.map (·.2)) H')→t σ H Q
structure QMs (X:Cx) (M:Md) (es:List Expr) (m:MA):Prop where
 ex:∃ t,PA X es t∧SAm M es.length t m
section
variable {X:Cx} {M:Md} {a b c e:Expr} {ma mb mc:ME} {pos pos':Pos} {mr:MA} {es:List Expr}
theorem QF.qm (h:QF X M.ow e ma):QM X M e ma:=by
 obtain ⟨t,p,s⟩:=h
 exact ⟨_,p,fun C G ρ σ H pd q Q hm r h k=>s C G ρ σ H pd q Q r h fun d ρ' v G' H' hq z kp r'=>k d ρ' v G' H' hq z r'⟩
theorem cn (i:Nat) {x:Str} (ho:M.ow[i]? = some true:=by decide) (hu:M.mu[i]?≠some true:=by decide) (hN:X.N[i]? = some x:=by rfl) (hv:Vis X.env.scope x:=by first | exact Or.inl rfl | exact Or.inr (Or.inl rfl) | exact Or.inr (Or.inr rfl)) (hd:(x == ("__debug__":Str))=false:=by decide)
 (hcd:(x == ("__classdict__":Str))=false:=by decide):QM X M (.Name x pos) (qH i):=⟨_,dX hN hv hd hcd,fun C G ρ σ H pd q Q hm r h k=>by
 unfold qH at h
 split at h
 ·rename_i d e
  obtain ⟨O,ro⟩:=r
  obtain ⟨v,h1,h2⟩:=ro.move e ho (hm.no hu)
  exact ⟨v,h1,k d _ v G H h (aD.refl _) h2⟩
 ·exact h.elim⟩
theorem fJ:QMs X M [] lq:=⟨_,bw,fun C G ρ σ H pd q Q hm r h k=>k [] ρ G H h (aD.refl _) r rfl⟩
theorem b6 (ha:QM X M e ma) (hr:QMs X M es mr) (hs:starEach (e :: es) X.env=(false,eval e X.env) :: starEach es X.env:=by rfl):QMs X M (e :: es) (el ma mr):=by
 obtain ⟨t,p,s⟩:=ha; obtain ⟨t2,p2,s2⟩:=hr
 refine ⟨_,aL p p2 hs,fun C G ρ σ H pd q Q hm r h k=>s C G ρ σ H pd _ _ hm r h fun d ρ' v G' H' hq z r'=>?_⟩
 exact s2 C G' ρ' σ H' _ _ _ hm r' hq fun T ρ2 G2 H2 hq2 z2 r2 hn=>k ((d,v) :: T) ρ2 G2 H2 hq2 (z.trans z2) (by simpa using r2) (by simp [hn])
theorem iS {x1} (h:QMs X M es mr) (hl:es.length≤1000:=by decide):QM X M (.Tuple es x1 pos) (mTup mr):=by
 obtain ⟨t,p,s⟩:=h
 refine ⟨_,j5 p,fun C G ρ σ H pd q Q hm r h k=>s C G ρ σ H pd _ _ hm r h fun T ρ' G' H' hq z r' hn=>⟨cL (by simp; omega),fun a ha=>?_⟩⟩
 obtain ⟨O,r'⟩:=r'
 obtain ⟨O2,r2,s2⟩:=r'.gather r.np
 obtain ⟨r3,z3⟩:=r2.newT ha s2
 exact k _ ρ' _ _ _ hq (z.trans z3) r3
theorem eg (h:QM X M e ma) (hf:M.fr=true:=by rfl):QS X M (.Return (some e) pos) (mRet ma):=by
 obtain ⟨t,p,s⟩:=h
 refine ⟨_,jH p,fun C G ρ σ H n D hm hn r h k=>s C G ρ σ H [] _ _ hm r h fun d ρ' v G' H' hq z r'=>k.rt d ρ' σ v G' H' hq z (by unfold Ret; rw [if_pos hf]; exact r')⟩
end
def mW (g:MG) (mt:MT) (me:ME) (ρ0:DSt) (ds:List D) (K:List D→Prop):Prop:=∃ I:Nat→List D→Prop,I 0 [] ∧
 (∀ i d es,ds[i]? = some d→I i es→g d ρ0 fun ρ2=>mt ρ2 fun b ρ3=>if b=true then me ρ3 fun x _=>I (i + 1) (es++[x]) else I (i + 1) es)∧∀ es,I ds.length es→K es
def dR (k:Nat) (js:List Nat) (ρ:DSt):DSt:=List.replicate k none++js.map fun j=>(ρ[j]?).getD none
def n5 (mi:MA) (g:MG) (mt:MT) (me:ME) (k:Nat) (js:List Nat):ME:=fun ρ q=>mi ρ fun ds ρ1=>ds.length≤1000∧mW g mt me (dR k js ρ1) ds fun es=>q (.lst es) ρ1
structure QIf (X:Cx) (ow:List Bool) (ifs:List Expr) (m:MT):Prop where
 ex:∃ t,PIf X ifs t∧STe ow t m
theorem kI {X:Cx} {ow:List Bool}:QIf X ow [] (oZ true):=⟨_,pH,jS true⟩
section
variable {C:Ctx} {ow:List Bool} {G:Hp} {ρ:DSt} {σ:St} {H:Hp} {pd:List (D×V)} {O:Own}
theorem RO.inner (h:RO C ow G ρ σ H pd O) (own:List Str) (js:List Nat) (hj:∀ j∈js,ow[j]?≠some true) :
 RO ⟨G,H,bQ (fun _=>none) O,[],0⟩ [] G (dR own.length js ρ) (bC own js σ) H [] (bQ (fun _=>none) O):=by
 have no:∀ a,bQ (fun _=>none) O a=none:=fun a=>by unfold bQ; cases O a <;> rfl
 refine ⟨by simp [dR,bC],h.gh,fun _ _ e=>e,fun _ _ e=>.inl e,fun a l e=>?_,fun a l π e=>?_,fun _ _ e _ _=>e,h.ft,fun _ e=>e,fun i v e=>by simp at e,?_,trivial,Nat.le_refl _⟩
 ·rw [no] at e; cases e
 ·exact absurd (e.symm.trans (no a)) (by simp)
 ·intro i d e
  unfold dR at e
  by_cases c:i<own.length
  ·rw [List.getElem?_append_left (by simpa using c),List.getElem?_replicate] at e
   split at e <;> cases e
  ·rw [List.getElem?_append_right (by simpa using c),List.getElem?_map] at e
   simp only [List.length_replicate] at e
   cases z:js[i - own.length]? with
   | none=>rw [z] at e; cases e
   | some j =>
    rw [z] at e
    have e':(ρ[j]?).getD none=some d:=Option.some.inj e
    have e2 : ρ[j]? = some (some d):=by
     cases w : ρ[j]? with
     | none=>rw [w] at e'; cases e'
     | some o=>rw [w] at e'; exact congrArg some e'
    obtain ⟨v,h1,h2⟩:=h.sl j d e2
    rw [if_neg (hj j (List.mem_of_getElem? z))] at h2
    refine ⟨v,?_,by simpa using h2⟩
    unfold bC
    rw [List.getElem?_append_right (by simpa using c),List.getElem?_map]
    simp only [List.length_map]
    rw [z,show (some j).map _=some ((σ[j]?).getD none) from rfl,h1]; rfl
end
theorem RO.back {C:Ctx} {ow:List Bool} {G G':Hp} {ρ0 ρ2:DSt} {σ0 σ2:St} {H H':Hp} {pd:List (D×V)} {O O':Own} (h0:RO C ow G ρ0 σ0 H pd O) (hn:∀ i:Nat,ow[i]?≠some true) (h:RO C ow G' ρ2 σ2 H' pd O') (z:aD G G'):RO C ow G' ρ0 σ0 H' pd O' :=
 ⟨h0.len,h.gh,h.g0,h.gn,h.og,h.cok,h.fr,h.ft,h.al,h0.mp,fun i d e=>by
  obtain ⟨v,h1,h2⟩:=h0.sl i d e
  rw [if_neg (hn i)] at h2
  exact ⟨v,h1,by rw [if_neg (hn i)]; exact h2.mono z⟩,h.pn,h.np⟩
theorem j8 {ow:List Bool} {J:It} {g:TG} {mg:MG} {tt:TT} {mt:MT} {te:TE} {me:ME} {C:Ctx} {G:Hp} {ρ:DSt} {σ:St} {H:Hp} {pd:List (D×V)} {ds:List D} {own:List Str} {js:List Nat} {K:List D→Prop} {Z:List V→Hp→Prop}
 (r:R C ow G ρ σ H pd) (hj:∀ j∈js,ow[j]?≠some true) (jo:mQ J G ds) (sg:SG ⟨[],[],false⟩ g mg) (st:STe [] tt mt) (se:SE [] te me) (hk:∀ x H k,g x (bC own js σ) H k→g x (bC own js σ) H fun σ2 H2=>kept (bC own js σ) σ2∧k σ2 H2)
 (hl:ds.length≤1000) (h:mW mg mt me (dR own.length js ρ) ds K)
 (k:∀ es vs G' H',K es→aD G G'→R C ow G' ρ σ H' pd→Reps G' es vs→vs.length≤1000→Z vs H'):kT J g tt te (bC own js σ) H Z:=by
 obtain ⟨O,ro⟩:=r
 have ri:=ro.inner own js hj
 obtain ⟨I,i0,turn,fin⟩:=h
 have nt:∀ i:Nat,([]:List Bool)[i]?≠some true:=fun i=>by simp
 let C1:Ctx:=⟨G,H,bQ (fun _=>none) O,[],0⟩
 have fnone:bQ (fun _=>none) O=fun _=>none:=by funext a; unfold bQ; cases O a <;> rfl
 refine ⟨fun i m acc H'=>m=ds.length - i∧i≤ds.length∧acc.length≤i∧∃ G' es,aD G G'∧R C1 [] G' (dR own.length js ρ) (bC own js σ) H' []∧Reps G' es acc∧I i es,⟨_,rfl,Nat.zero_le _,Nat.le_refl _,G,[],aD.refl _,⟨_,ri⟩,bp,i0⟩,?_⟩
 rintro i m acc H' ⟨rfl,hi,ha,G',es,z,r',pa,w⟩
 obtain ⟨sp,go⟩:=jo C1 [] G' _ _ H' [] i z r'
 by_cases hlt:i<ds.length
 ·obtain ⟨g1,g2⟩:=go ds[i] (List.getElem?_eq_getElem hlt)
  refine .inr ⟨g1,de (by omega),fun acc' H2=>acc'.length≤i + 1∧∃ G2 es2,aD G G2∧R C1 [] G2 (dR own.length js ρ) (bC own js σ) H2 []∧Reps G2 es2 acc'∧I (i + 1) es2,fun acc' H2 h=>⟨ds.length - (i + 1),by omega,rfl,hlt,h.1,h.2⟩,fun x H1 hy=>hk _ _ _ ?_⟩
  obtain ⟨G1,z1,r1,p1⟩:=g2 x H1 hy
  refine sg C1 G1 _ _ H1 [] ds[i] x _ _ (fun i v e=>by simp [C1] at e) r1 p1 (turn i ds[i] es (List.getElem?_eq_getElem hlt) w) fun ρ2 σ2 h2 r2=>?_
  refine st C1 G1 ρ2 σ2 H1 [] _ _ r2 h2 fun b ρ3 G3 H3 h3 z3 kp3 r3=>?_
  have bk:∀ {G4:Hp} {ρ4:DSt} {H4:Hp},aD G3 G4→R C1 [] G4 ρ4 σ2 H4 []→R C1 [] G4 (dR own.length js ρ) (bC own js σ) H4 []:=fun z4 ⟨O4,r4⟩=>by
   obtain ⟨O1,r1'⟩:=r1
   exact ⟨_,r1'.back nt r4 (z3.trans z4)⟩
  cases b with
  | true =>
   rw [if_pos rfl] at h3 ⊢
   refine se C1 G3 ρ3 σ2 H3 [] _ _ r3 h3 fun d ρ4 v G4 H4 h4 z4 kp4 r4 p4=>?_
   exact ⟨by simp; omega,G4,es++[d],z.trans (z1.trans (z3.trans z4)),bk z4 r4,dL (Reps.mono (z1.trans (z3.trans z4)) _ _ pa) (bq p4 bp),h4⟩
  | false =>
   rw [if_neg (by decide)] at h3 ⊢
   exact ⟨by omega,G3,es,z.trans (z1.trans z3),bk (aD.refl _) r3,Reps.mono (z1.trans z3) _ _ pa,h3⟩
 ·have e:i=ds.length:=by omega
  subst e
  refine .inl ⟨sp (Nat.le_refl _),cL (by omega),?_⟩
  obtain ⟨O2,r2⟩:=r'
  refine k es acc G' H' (fin es w) z ⟨jB (fun _=>none) (fun _=>none) O O2,?_⟩ pa (by omega)
  refine ro.out (vs:=[]) r2 (fun _ _ _ e=>by cases e) ro.len ro.np (fun i d _ e=>e) (fun i d _ e=>.inl ⟨rfl,e⟩) fun O3 h1 h2 ts=>?_
  exact bK.keep ts (fun a j π hj e=>h1 a _ _ e rfl) ro.pn
section
variable {X:Cx} {ow:List Bool} {elt tg iter:Expr} {ifs:List Expr} {pos:Pos} {mi:MA} {mg:MG} {mt:MT} {me:ME} {scope:Scope} {cl:List (Str×Addr)}
def qS (n:Nat) (g:TG):Prop:=∀ (σ0:St),(∀ i,i<n→σ0[i]? = some none)→∀ σ x H k,kept σ0 σ→g x σ H k→g x σ H fun σ2 H2=>kept σ0 σ2∧k σ2 H2
theorem eO:∀ {a b:St} {i:Nat} {v:V},kept a b→a[i]? = some none→kept a (b.set i (some v))
 | [],[],i,v,h,e=>by simp at e
 | none :: r,y :: r',0,v,h,e=>h
 | none :: r,y :: r',i + 1,v,h,e=>by simp only [List.set_cons_succ]; exact eO (a:=r) (b:=r') h (by simpa using e)
 | some w :: r,y :: r',0,v,h,e=>by simp at e
 | some w :: r,y :: r',i + 1,v,h,e=>by simp only [List.set_cons_succ]; exact ⟨h.1,eO (a:=r) (b:=r') h.2 (by simpa using e)⟩
 | [],_ :: _,_,_,h,_=>h.elim
 | none :: _,[],_,_,h,_=>h.elim
 | some _ :: _,[],_,_,h,_=>h.elim
theorem d5:∀ (a:St),kept a a
 | []=>trivial
 | none :: r=>d5 r
 | some v :: r=>⟨rfl,d5 r⟩
def MonG (g:TG):Prop:=∀ x σ H (k k':St→Hp→Prop),(∀ σ2 H2,k σ2 H2→k' σ2 H2)→g x σ H k→g x σ H k'
structure CG (n:Nat) (g:TG) (m:MG):Prop where
 sg:SG ⟨[],[],false⟩ g m
 kp:qS n g
 mn:MonG g
theorem pq {n:Nat} (i:Nat) (h:i<n:=by decide):CG n (fX i) (iP i) :=
 ⟨fun C G ρ σ H pd d v k K hm r p h kk=>by obtain ⟨O,r⟩:=r; exact kk _ _ h ⟨O,r.setS (by simp) (fun v e=>by have:=hm i v e; simp at this) p⟩,
  fun σ0 h0 σ x H k hk hg=>⟨eO hk (h0 i h),hg⟩,fun x σ H k k' hk h=>hk _ _ h⟩
def canE (ow:List Bool) (m:ME):TE:=fun σ H Q=>∃ (C:Ctx) (G:Hp) (ρ:DSt) (pd:List (D×V)) (q:D→DSt→Prop),R C ow G ρ σ H pd∧m ρ q∧∀ d ρ' v G' H',q d ρ'→aD G G'→Kp ow ρ ρ'→R C ow G' ρ' σ H' pd→Rep G' d v→Q v H'
def canT (ow:List Bool) (m:MT):TT:=fun σ H Q=>∃ (C:Ctx) (G:Hp) (ρ:DSt) (pd:List (D×V)) (q:Bool→DSt→Prop),R C ow G ρ σ H pd∧m ρ q∧∀ d ρ' G' H',q d ρ'→aD G G'→Kp ow ρ ρ'→R C ow G' ρ' σ H' pd→Q d H'
theorem oJ {ow:List Bool} {m:ME}:SE ow (canE ow m) m:=fun C G ρ σ H pd q Q r h k=>⟨C,G,ρ,pd,q,r,h,k⟩
theorem mY {ow:List Bool} {m:MT}:STe ow (canT ow m) m:=fun C G ρ σ H pd q Q r h k=>⟨C,G,ρ,pd,q,r,h,k⟩
theorem QE.can {X:Cx} {ow:List Bool} {e:Expr} {m:ME} (h:QE X ow e m):PE X e (canE ow m):=by
 obtain ⟨t,p,s⟩:=h
 exact ⟨fun pins s' σ H Q I ⟨C,G,ρ,pd,q,r,h,k⟩=>p.go pins s' σ H Q I (s C G ρ σ H pd q Q r h k)⟩
theorem QIf.can {X:Cx} {ow:List Bool} {e:List Expr} {m:MT} (h:QIf X ow e m):PIf X e (canT ow m):=by
 obtain ⟨t,p,s⟩:=h
 exact ⟨fun pins s' σ H Q I ⟨C,G,ρ,pd,q,r,h,k⟩=>p.go pins s' σ H Q I (s C G ρ σ H pd q Q r h k)⟩
theorem gY {own:List Str} {js:List Nat} {σ:St}:∀ i,i<own.length→(bC own js σ)[i]? = some none:=fun i h=>by
 unfold bC
 rw [List.getElem?_append_left (by simpa using h),List.getElem?_map,List.getElem?_eq_getElem h]; rfl
theorem pZ {ow:List Bool} {wi:TI} {g:TG} {own:List Str} {js:List Nat} (si:SI ow wi mi) (cg:CG own.length g mg) (hj:∀ j∈js,ow[j]?≠some true):SE ow (kq wi g (canT [] mt) (canE [] me) own js) (n5 mi mg mt me own.length js):=fun C G ρ σ H pd q Q r h k =>
 si C G ρ σ H pd _ _ r h fun ds ρ' G' H' J hq z kp r' jo=>by
  refine j8 r' hj jo cg.sg mY oJ (fun x H k hg=>cg.kp _ gY _ x H k (d5 _) hg) hq.1 hq.2 fun es vs G2 H2 hK z2 r2 p2 hl p hp=>?_
  obtain ⟨O2,r2⟩:=r2
  obtain ⟨r3,z3⟩:=r2.new hp (.lst vs)
  exact k _ ρ' _ _ _ hK (z.trans (z2.trans z3)) kp ⟨O2,r3⟩ (fP av (Reps.mono z3 _ _ p2))
structure CInn (X:Cx) (tg:Expr) (ifs:List Expr) (elt:Expr) (g:TG) (mt:MT) (me:ME):Prop where
 pg:PG X tg g
 qi:QIf X [] ifs mt
 qe:QE X [] elt me
theorem jP {M:Md} {g:TG} {i:Nat} {y:Str} {spos py:Pos} (own:List Str) (js:List Nat) (c:CompOk X scope cl own js) (hc:X.calm=true) (hN:X.N.Nodup) (hy:X.N[i]? = some y) (hx:Loc X.env.scope y) (hi:QI X M.ow tg iter mi) (cg:CG own.length g mg)
 (inner:∀ (C:Addr) (s₀:Shared) (H₀:Hp) (ex:List Addr),CInn (bv X scope cl (cR X own js) C s₀ H₀ ex) tg ifs elt g mt me) (hj:∀ j∈js,M.ow[j]?≠some true:=by decide) (ho:M.ow[i]?≠some true:=by decide) (hu:M.mu[i]?≠some true:=by decide)
 (hsw:swapsWith (.ListComp elt [⟨tg,iter,ifs,0⟩] scope pos) (some (.Name y py)) spos.line X.env=pure true:=by rfl)
 (hs:∀ x,foldedSetIterable iter X.env x=pure x:=by intro _; rfl) (hf:X.fn y=true∨X.env.scope.names.lookup y=some .local:=by first | exact .inl rfl | exact .inr rfl | assumption) :
 QS X M (.Assign [.Name y py] (.ListComp elt [⟨tg,iter,ifs,0⟩] scope pos) spos) (nV i (n5 mi mg mt me own.length js)):=by
 obtain ⟨wi,pi,si⟩:=hi
 exact ⟨_,jz own js c hc hN hy hx pi (fun C s₀ H₀ ex=>⟨(inner C s₀ H₀ ex).pg,(inner C s₀ H₀ ex).qi.can,(inner C s₀ H₀ ex).qe.can⟩) hsw hs hf,nj (pZ si cg hj) ho hu⟩
end
theorem lh {g:MG} {me:ME} {ρ0:DSt} {ds:List D} {K:List D→Prop} (f:D→D)
 (step:∀ (d:D),d∈ds→∀ k:D→Prop,k (f d)→g d ρ0 fun ρ2=>me ρ2 fun x _=>k x) (h:K (ds.map f)):mW g (oZ true) me ρ0 ds K:=by
 refine ⟨fun i es=>es=(ds.take i).map f,rfl,?_,fun es e=>by rw [e,List.take_length]; exact h⟩
 rintro i d es hd rfl
 have:=step d (List.mem_of_getElem? hd) (fun x=>(ds.take i).map f++[x]=(ds.take (i + 1)).map f) (by
  rw [List.take_add_one,hd]; simp)
 exact this
section
variable {X:Cx}
end
section
variable {C:Ctx} {ow:List Bool} {G:Hp} {ρ:DSt} {σ:St} {H:Hp} {pd:List (D×V)} {O:Own}
end
section
variable {ow:List Bool} {t:TE} {m:ME}
end
section
variable {X:Cx} {M:Md} {a b c e:Expr} {ma mb mc:ME} {pos pos':Pos} {mr:MA} {es:List Expr}
theorem bf (ns:List Int):imms (ns.map D.int)=true:=by
 induction ns with
 | nil=>rfl
 | cons n r ih=>simp only [List.map,imms,imm,ih]; rfl
end
def mCut (m:MS):MS:=fun n ρ=>∃ I:DSt→Prop,m { n with nx:=I } ρ∧∀ ρ',I ρ'→n.nx ρ'
theorem jI {X:Cx} {M:Md} {st:Stmt} {m:MS} (h:QS X M st m):QS X M st (mCut m):=by
 obtain ⟨t,p,s⟩:=h
 refine ⟨_,p,fun C G ρ σ H n D hm hn r h k=>?_⟩
 obtain ⟨I,h1,h2⟩:=h
 exact s C G ρ σ H _ D hm hn r h1 ⟨fun ρ' σ' G' H' hi=>k.nx ρ' σ' G' H' (h2 ρ' hi),k.bk,k.ct,k.rt⟩
section
variable {C:Ctx} {ow:List Bool} {G:Hp} {ρ:DSt} {σ:St} {H:Hp} {pd:List (D×V)} {O:Own}
end
section
variable {X:Cx} {M:Md} {a b c e:Expr} {ma mb mc:ME} {pos pos':Pos} {mr:MA} {es:List Expr} {mgs:MGs}
end
section
variable {X:Cx} {M:Md} {a b c e:Expr} {ma mb mc:ME} {pos pos':Pos}
def mAugI (i:Nat) (mk m:ME):MS:=fun n ρ=>match ρ[i]? with
 | some (some (.lst _))=>mk ρ fun k ρ1=>match k with
  | .int j=>match ρ1[i]? with
   | some (some (.lst ds))=>0≤j∧match atI ds j with
    | some (.int x)=>m ρ1 fun d ρ2=>match d with
     | .int y=>match ρ2[i]? with
      | some (some (.lst ds2))=>match ixN ds2.length j with
       | some p=>n.nx (ρ2.set i (some (.lst (ds2.set p (.int (x + y))))))
       | none=>False
      | _=>False
     | _=>False
    | _=>False
   | _=>False
  | _=>False
 | _=>False
end
def qD (g:MG) (mt:MT) (me:ME) (ρ0:DSt) (k0:Nat) (ds:List D) (d0:D) (K:List D→D→Prop):Prop:=∃ I:Nat→List D→D→Prop,I 0 [] d0 ∧
 (∀ i x es d,ds[i]? = some x→I i es d→g x (ρ0.set k0 (some d)) fun ρ2=>mt ρ2 fun b ρ3=>if b=true then me ρ3 fun y ρ4=>(match ρ4[k0]? with | some (some d')=>I (i + 1) (es++[y]) d' | _=>False) else match ρ3[k0]? with | some (some d')=>I (i + 1) es d' | _=>False) ∧
 ∀ es d,I ds.length es d→K es d
def n3 (mi:MA) (g:MG) (mt:MT) (me:ME) (k:Nat) (js:List Nat) (j0 k0:Nat):ME:=fun ρ q=>mi ρ fun ds ρ1=>ds.length≤1000∧match ρ1[j0]? with
 | some (some d0)=>qD g mt me (dR k js ρ1) k0 ds d0 fun es d=>imms es=true∧q (.lst es) (ρ1.set j0 (some d))
 | _=>False
def owM (k0:Nat):List Bool:=List.replicate k0 false++[true]
theorem d_ {k0 i:Nat}:(owM k0)[i]? = some true↔i=k0:=by
 unfold owM
 by_cases h:i<k0
 ·rw [List.getElem?_append_left (by simpa using h),List.getElem?_replicate,if_pos h]
  constructor
  ·intro z; cases z
  ·intro z; omega
 ·rw [List.getElem?_append_right (by simpa using h),List.length_replicate]
  cases e:i - k0 with
  | zero=>simp; omega
  | succ m=>simp; omega
def muM (k0:Nat) (v:V):List (Option V):=List.replicate k0 none++[some v]
theorem kf {k0 i:Nat} {v w:V} (h:(muM k0 v)[i]? = some (some w)):i=k0∧w=v:=by
 unfold muM at h
 by_cases c:i<k0
 ·rw [List.getElem?_append_left (by simpa using c),List.getElem?_replicate,if_pos c] at h; cases h
 ·rw [List.getElem?_append_right (by simpa using c),List.length_replicate] at h
  cases e:i - k0 with
  | zero=>rw [e] at h; simp at h; exact ⟨by omega,h.symm⟩
  | succ m=>rw [e] at h; simp at h
theorem sw (k0:Nat) (v:V):(muM k0 v)[k0]? = some (some v):=by unfold muM; rw [List.getElem?_append_right (by simp)]; simp
theorem pE {k:Nat} {js:List Nat} {ρ:DSt} {i:Nat} {d:D} (e:(dR k js ρ)[i]? = some (some d)):k≤i∧∃ j,js[i - k]? = some j∧ρ[j]? = some (some d):=by
 unfold dR at e
 by_cases c:i<k
 ·rw [List.getElem?_append_left (by simpa using c),List.getElem?_replicate] at e
  split at e <;> cases e
 ·rw [List.getElem?_append_right (by simpa using c),List.getElem?_map] at e
  simp only [List.length_replicate] at e
  refine ⟨by omega,?_⟩
  cases z:js[i - k]? with
  | none=>rw [z] at e; cases e
  | some j =>
   rw [z] at e
   have e':(ρ[j]?).getD none=some d:=Option.some.inj e
   refine ⟨j,rfl,?_⟩
   cases w : ρ[j]? with
   | none=>rw [w] at e'; cases e'
   | some o=>rw [w] at e'; exact congrArg some e'
theorem ky {own:List Str} {js:List Nat} {σ:St} {i j:Nat} {v:V} (hi:own.length≤i) (hj:js[i - own.length]? = some j) (hv : σ[j]? = some (some v)):(bC own js σ)[i]? = some (some v):=by
 unfold bC
 rw [List.getElem?_append_right (by simpa using hi),List.getElem?_map]
 simp only [List.length_map]
 rw [hj,show (some j).map _=some ((σ[j]?).getD none) from rfl,hv]; rfl
structure CGM (k0 n:Nat) (g:TG) (m:MG):Prop where
 sg:SG ⟨owM k0,owM k0,false⟩ g m
 kp:qS n g
 mn:MonG g
theorem nW {k0 n:Nat} (i:Nat) (h:i<n:=by decide) (hk:n≤k0:=by decide):CGM k0 n (fX i) (iP i) :=
 ⟨fun C G ρ σ H pd d v k K hm r p hh kk=>by
  have hn:(owM k0)[i]?≠some true:=fun z=>by have:=d_.mp z; omega
  obtain ⟨O,r⟩:=r; exact kk _ _ hh ⟨O,r.setS hn (hm.no hn) p⟩,
  fun σ0 h0 σ x H k hk hg=>⟨eO hk (h0 i h),hg⟩,fun x σ H k k' hk h=>hk _ _ h⟩
theorem jj {ow:List Bool} {J:It} {g:TG} {mg:MG} {tt:TT} {mt:MT} {te:TE} {me:ME} {C:Ctx} {G:Hp} {ρ:DSt} {σ:St} {H:Hp} {pd:List (D×V)} {ds:List D} {own:List Str} {js:List Nat} {j0 k0:Nat} {d0:D} {K:List D→D→Prop} {Z:List V→Hp→Prop}
 (r:R C ow G ρ σ H pd) (ho:ow[j0]? = some true) (hk0:own.length≤k0) (hjk:js[k0 - own.length]? = some j0) (hj:∀ (i j:Nat),js[i]? = some j→i≠k0 - own.length→ow[j]?≠some true) (he : ρ[j0]? = some (some d0)) (jo:mQ J G ds) (cg:CGM k0 own.length g mg) (st:STe (owM k0) tt mt) (se:SE (owM k0) te me)
 (hl:ds.length≤1000) (h:qD mg mt me (dR own.length js ρ) k0 ds d0 K)
 (k:∀ es d vs G' H',K es d→aD G G'→R C ow G' (ρ.set j0 (some d)) σ H' pd→Reps G' es vs→vs.length≤1000→Z vs H'):kT J g tt te (bC own js σ) H Z:=by
 obtain ⟨O,ro⟩:=r
 obtain ⟨v0,hv0,sv0⟩:=ro.sl j0 d0 he
 rw [if_pos ho] at sv0
 let fin:Nat→Option Nat:=fun l=>if l=2 * j0 then some (2 * k0) else none
 let fbk:Nat→Option Nat:=fun l=>if l=2 * k0 then some (2 * j0) else none
 let C1:Ctx:=⟨G,H,bQ fin O,muM k0 v0,0⟩
 let ρ0:=dR own.length js ρ
 have s0k:(bC own js σ)[k0]? = some (some v0):=ky hk0 hjk hv0
 have r0l:k0<ρ0.length:=by
  have:k0 - own.length<js.length:=(List.getElem?_eq_some_iff.mp hjk).1
  show k0<(dR own.length js ρ).length
  unfold dR; simp; omega
 have fino:∀ l l',fin l=some l'→l=2 * j0∧l'=2 * k0:=fun l l' e=>by
  change (if l=2 * j0 then _ else _)=_ at e
  split at e
  ·rename_i c; exact ⟨c,(Option.some.inj e).symm⟩
  ·cases e
 have finj:fin (2 * j0)=some (2 * k0):=by show (if _ then _ else _)=_; rw [if_pos rfl]
 -- the inner state,by the owned slot's value
 have inner:∀ {G':Hp} {H':Hp} {O':Own} {d:D},aD G G'→aD G' H'→(∀ a o,G' a=some o→G a=some o∨H a=none)→(∀ a l,O' a=some l→G' a=none∧(∃ xs:WrO,H' a=some xs.ho)∧Nw C1 a l.1) →
  (∀ a o,H a=some o→bQ fin O a=none→NT o→H' a=some o)→(∀ a ps q,H' a=some (.tbl ps q)→G' a=none)→(∀ a,H' a=none→H a=none)→Sep G' H' O' (2 * k0) d [] v0→RO C1 (owM k0) G' (ρ0.set k0 (some d)) (bC own js σ) H' [] O':=by
  intro G' H' O' d z gh gn og fr ft al sp
  refine ⟨by rw [List.length_set]; show (dR own.length js ρ).length=_; unfold dR bC; simp,gh,z,gn,og,?_,fr,ft,al,?_,?_,trivial,Nat.le_refl _⟩
  ·intro a l π e
   obtain ⟨l0,e1,e2⟩:=d9 e
   obtain ⟨_,rfl⟩:=fino _ _ e2
   exact .inl ⟨k0,v0,rfl,sw k0 v0⟩
  ·intro i w e
   obtain ⟨rfl,rfl⟩:=kf e
   exact s0k
  ·intro i d' e
   rcases df e with ⟨rfl,e'⟩ | ⟨hne,e'⟩
   ·cases e'
    exact ⟨v0,s0k,by rw [if_pos (d_.mpr rfl)]; exact sp⟩
   ·obtain ⟨hi,j,h1,h2⟩:=pE e'
    obtain ⟨v,g1,g2⟩:=ro.sl j d' h2
    rw [if_neg (hj _ j h1 (by omega))] at g2
    exact ⟨v,ky hi h1 g1,by rw [if_neg (fun zz=>hne (d_.mp zz))]; exact g2.mono z⟩
 have og1:∀ a l,bQ fin O a=some l→G a=none∧(∃ xs:WrO,H a=some xs.ho)∧Nw C1 a l.1:=fun a l e=>by
  obtain ⟨l',π⟩:=l
  obtain ⟨l0,e1,e2⟩:=d9 e
  obtain ⟨q1,q2,_⟩:=ro.og a _ e1
  exact ⟨q1,q2,.inr ⟨π,e⟩⟩
 have cw:R C1 (owM k0) G (ρ0.set k0 (some d0)) (bC own js σ) H []:=⟨_,inner (aD.refl _) ro.gh (fun _ _ e=>.inl e) og1 (fun _ _ e _ _=>e) ro.ft (fun _ e=>e) (sv0.keep (fun _ _ z=>z) fun a τ q=>⟨kz q finj,rfl⟩)⟩
 obtain ⟨I,i0,turn,fini⟩:=h
 have hmu:fu C1 (owM k0):=fun i v e=>by obtain ⟨rfl,_⟩:=kf e; exact d_.mpr rfl
 refine ⟨fun i m acc H'=>m=ds.length - i∧i≤ds.length∧acc.length≤i∧∃ G' es d,aD G G'∧R C1 (owM k0) G' (ρ0.set k0 (some d)) (bC own js σ) H' []∧Reps G' es acc∧I i es d,⟨_,rfl,Nat.zero_le _,Nat.le_refl _,G,[],d0,aD.refl _,cw,bp,i0⟩,?_⟩
 rintro i m acc H' ⟨rfl,hi,ha,G',es,d,z,r',pa,w⟩
 obtain ⟨sp,go⟩:=jo C1 (owM k0) G' _ _ H' [] i z r'
 by_cases hlt:i<ds.length
 ·obtain ⟨g1,g2⟩:=go ds[i] (List.getElem?_eq_getElem hlt)
  refine .inr ⟨g1,de (by omega),fun acc' H2=>acc'.length≤i + 1∧∃ G2 es2 d2,aD G G2∧R C1 (owM k0) G2 (ρ0.set k0 (some d2)) (bC own js σ) H2 []∧Reps G2 es2 acc'∧I (i + 1) es2 d2,fun acc' H2 h=>⟨ds.length - (i + 1),by omega,rfl,hlt,h.1,h.2⟩,fun x H1 hy=>?_⟩
  obtain ⟨G1,z1,r1,p1⟩:=g2 x H1 hy
  have step1:=cg.sg C1 G1 _ _ H1 [] ds[i] x _ (fun σ2 H2=>∃ ρ2,(mt ρ2 fun b ρ3=>if b=true then me ρ3 fun y ρ4=>(match ρ4[k0]? with | some (some d')=>I (i + 1) (es++[y]) d' | _=>False) else match ρ3[k0]? with | some (some d')=>I (i + 1) es d' | _=>False)∧R C1 (owM k0) G1 ρ2 σ2 H2 []) hmu r1 p1 (turn i ds[i] es d (List.getElem?_eq_getElem hlt) w) (fun ρ2 σ2 h2 r2=>⟨ρ2,h2,r2⟩)
  refine cg.mn _ _ _ _ _ ?_ (cg.kp (bC own js σ) gY (bC own js σ) x H1 _ (d5 _) step1)
  rintro σ2 H2 ⟨hkp,ρ2,h2,r2⟩
  refine ⟨hkp,st C1 G1 ρ2 σ2 H2 [] _ _ r2 h2 fun b ρ3 G3 H3 h3 z3 kp3 r3=>?_⟩
  have bk:∀ {G4:Hp} {ρ4:DSt} {H4:Hp} {d':D},ρ4[k0]? = some (some d')→R C1 (owM k0) G4 ρ4 σ2 H4 []→R C1 (owM k0) G4 (ρ0.set k0 (some d')) (bC own js σ) H4 []:=fun e4 ⟨O4,r4⟩=>by
   obtain ⟨v,q1,q2⟩:=r4.sl k0 _ e4
   rw [if_pos (d_.mpr rfl)] at q2
   rw [dG hkp k0 v0 s0k] at q1
   cases q1
   exact ⟨O4,inner r4.g0 r4.gh r4.gn r4.og r4.fr r4.ft r4.al q2⟩
  cases b with
  | true =>
   rw [if_pos rfl] at h3 ⊢
   refine se C1 G3 ρ3 σ2 H3 [] _ _ r3 h3 fun y ρ4 v G4 H4 h4 z4 kp4 r4 p4=>?_
   split at h4
   ·rename_i d' e4
    exact ⟨by simp; omega,G4,es++[y],d',z.trans (z1.trans (z3.trans z4)),bk e4 r4,dL (Reps.mono (z1.trans (z3.trans z4)) _ _ pa) (bq p4 bp),h4⟩
   ·exact h4.elim
  | false =>
   rw [if_neg (by decide)] at h3 ⊢
   split at h3
   ·rename_i d' e4
    exact ⟨by omega,G3,es,d',z.trans (z1.trans z3),bk e4 r3,Reps.mono (z1.trans z3) _ _ pa,h3⟩
   ·exact h3.elim
 ·have e:i=ds.length:=by omega
  subst e
  refine .inl ⟨sp (Nat.le_refl _),cL (by omega),?_⟩
  obtain ⟨O2,r2⟩:=r'
  refine k es d acc G' H' (fini es d w) z ⟨jB fin fbk O O2,?_⟩ pa (by omega)
  refine ro.out (vs:=[]) r2 ?_ (by rw [List.length_set]; exact ro.len) ro.np ?_ ?_ fun O3 h1 h2 ts=>?_
  ·intro l0 l' l e1 e2
   obtain ⟨rfl,rfl⟩:=fino _ _ e1
   change (if 2 * k0=2 * k0 then _ else _)=_ at e2
   rw [if_pos rfl] at e2
   exact (Option.some.inj e2).symm
  ·intro i d' c e
   rcases df e with ⟨rfl,_⟩ | ⟨_,e'⟩
   ·exact absurd ho c
   ·exact e'
  ·intro i d' c e
   rcases df e with ⟨rfl,e'⟩ | ⟨hne,e'⟩
   ·cases e'
    exact .inr ⟨k0,v0,by show (if _ then _ else _)=_; rw [if_pos rfl],d_.mpr rfl,by rw [List.getElem?_set_self r0l],hv0,s0k⟩
   ·exact .inl ⟨by show (if _ then _ else _)=_; rw [if_neg (by omega)],e'⟩
  ·exact bK.keep ts (fun a j π hj e=>h1 a _ _ e (by show (if _ then _ else _)=_; rw [if_neg (by omega)])) ro.pn
section
variable {X:Cx} {ow:List Bool} {elt tg iter:Expr} {ifs:List Expr} {pos:Pos} {mi:MA} {mg:MG} {mt:MT} {me:ME} {scope:Scope} {cl:List (Str×Addr)}
theorem n6 {wi:TI} {g:TG} {own:List Str} {js:List Nat} {j0 k0:Nat} (si:SI ow wi mi) (cg:CGM k0 own.length g mg) (ho:ow[j0]? = some true) (hk0:own.length≤k0) (hjk:js[k0 - own.length]? = some j0) (hj:∀ (i j:Nat),js[i]? = some j→i≠k0 - own.length→ow[j]?≠some true) :
 SF ow (kq wi g (canT (owM k0) mt) (canE (owM k0) me) own js) (n3 mi mg mt me own.length js j0 k0):=fun C G ρ σ H pd q Q r h k =>
 si C G ρ σ H pd _ _ r h fun ds ρ' G' H' J hq z kp r' jo=>by
  obtain ⟨hl,hq⟩:=hq
  split at hq
  ·rename_i d0 e0
   refine jj r' ho hk0 hjk hj e0 jo cg mY oJ hl hq fun es d vs G2 H2 hK z2 r2 p2 hl p hp=>?_
   obtain ⟨O2,r2⟩:=r2
   exact k _ _ _ _ _ hK.2 (z.trans z2) (kp.trans fun j hj=>List.getElem?_set_ne (fun (zz:j0=j)=>hj (zz ▸ ho))) (r2.newL hp hK.1 p2)
  ·exact hq.elim
structure CInnM (X:Cx) (k0:Nat) (tg:Expr) (ifs:List Expr) (elt:Expr) (g:TG) (mt:MT) (me:ME):Prop where
 pg:PG X tg g
 qi:QIf X (owM k0) ifs mt
 qe:QE X (owM k0) elt me
theorem oF {g:TG} (own:List Str) (js:List Nat) (j0 k0:Nat) (c:CompOk X scope cl own js) (hc:X.calm=true) (hi:QI X ow tg iter mi) (cg:CGM k0 own.length g mg)
 (inner:∀ (C:Addr) (s₀:Shared) (H₀:Hp) (ex:List Addr),CInnM (bv X scope cl (cR X own js) C s₀ H₀ ex) k0 tg ifs elt g mt me) (ho:ow[j0]? = some true:=by decide) (hk0:own.length≤k0:=by decide) (hjk:js[k0 - own.length]? = some j0:=by rfl)
 (hj:(js.mapIdx fun i j=>decide (i=k0 - own.length) || !decide (ow[j]? = some true)).all id=true:=by decide)
 (hs:∀ x,foldedSetIterable iter X.env x=pure x:=by intro _; rfl):QF X ow (.ListComp elt [⟨tg,iter,ifs,0⟩] scope pos) (n3 mi mg mt me own.length js j0 k0):=by
 obtain ⟨wi,pi,si⟩:=hi
 have hj':∀ (i j:Nat),js[i]? = some j→i≠k0 - own.length→ow[j]?≠some true:=fun i j e hne z=>by
  rw [List.all_eq_true] at hj
  have:=hj (decide (i=k0 - own.length) || !decide (ow[j]? = some true)) (List.mem_of_getElem? (i:=i) (by rw [List.getElem?_mapIdx,e]; rfl))
  simp [hne,z] at this
 exact ⟨_,qB own js c hc pi (fun C s₀ H₀ ex=>⟨(inner C s₀ H₀ ex).pg,(inner C s₀ H₀ ex).qi.can,(inner C s₀ H₀ ex).qe.can⟩) hs,n6 si cg ho hk0 hjk hj'⟩
end
section
variable {X:Cx} {M:Md} {a b c e:Expr} {ma mb mc:ME} {pos pos' p1 p2 p3:Pos} {te:TE} {j1:Nat} {ow:List Bool}
end
def isW:D→Bool
 | .int _=>true
 | _=>false
def btw (lo hi:Int):D→Bool
 | .int i=>decide (lo≤i)&&decide (i≤hi)
 | _=>false
def fj:D→Bool
 | .tup [.lst ps,.lst rs]=>decide (ps.length=rs.length)&&(decide (1≤ps.length)&&decide (ps.length≤23))
 | _=>false
structure Tree (ps rs:List Int):Prop where
 len:ps.length=rs.length
 lo : 1≤ps.length
 hi:ps.length≤23
 par:∀ (i:Nat) (x:Int),ps[i]? = some x→0≤x∧x≤i
 room:∀ (i:Nat) (x:Int),rs[i]? = some x→1≤x∧x≤1000000
def pB:SpD:=fun ds q=>∃ d,ds=[d]∧d.isS=false∧q (.bl (isW d)) []
def lj:SpD:=fun ds q=>∃ d lo hi,ds=[d,.int lo,.int hi]∧d.isS=false∧q (.bl (btw lo hi d)) []
def sR:SpD:=fun ds q=>∃ ps rs,ds=[aP ps rs]∧Tree ps rs∧q .non []
def nr (K:PySem.W.Frag) (φ:Addr→Prop) (ns:List Int):Prop:=∀ a H,φ a→SqL K H a (ns.map V.int)
def re (K:PySem.W.Frag):SpD:=fun ds q=>∃ φ ns k,ds=[.scr φ ns,.int k]∧nr K φ ns∧0≤k∧k≤1000∧∀ c m,0≤c→q (a9 [c,m]) []
def so:SpD:=fun ds q=>∃ c m many,ds=[a9 [c,m],.int many]∧0≤c∧0<many∧Sm many∧∀ r c' m',0≤r→r<many→0≤c'→q (.int r) [some (a9 [c',m'])]
def mP (K:PySem.W.Frag):SpD:=fun ds q=>∃ φ ns,ds=[.scr φ ns]∧nr K φ ns∧ns.length≤63∧q (.bl true) []
def kF (K:PySem.W.Frag):Sp:=fun vs H Q _=>∃ (a:Addr) (ns:List Int),vs=[.ref a]∧Only H∧SqL K H a (ns.map V.int)∧ns.length≤63∧∀ H',Q (.bl true) H'
theorem lR {K:PySem.W.Frag} {vs:List V} {H:Hp} {Q:VK} {E:XK} (h:kF K vs H Q E):bA [false] false (mP K) vs H Q E:=by
 obtain ⟨a,ns,rfl,hO,hS,hl,hq⟩:=h
 have main:∀ φ:Addr→Prop,nr K φ ns→Rep H (.scr φ ns) (.ref a)→bA [false] false (mP K) [.ref a] H Q E:=fun φ hφ r=>by
  refine ⟨⟨H,H,fun _=>none,[none],0⟩,H,[.scr φ ns],fun d _=>d = .bl true,rfl,rfl,⟨fun _=>none,rfl,aD.refl _,aD.refl _,fun _ _ e=>.inl e,fun a l e=>by (first | cases e),fun a l π e=>by (first | cases e),fun _ _ e _ _=>e,(fun a ps q e=>by rcases hO a with z | ⟨o,xs,z⟩ <;> (rw [e] at z; cases z)),fun _ e=>e,fun i v e=>?_,?_,trivial,Nat.le_refl _⟩,⟨φ,ns,rfl,hφ,hl,rfl⟩,rfl,?_⟩
  ·cases i with
   | zero=>simp at e
   | succ i=>simp at e
  ·intro i d e
   cases i with
   | zero=>simp at e; subst e; exact ⟨_,rfl,by simpa using r⟩
   | succ i=>simp at e
  ·intro d ρ' σ' v G' H' hd _ _ hr
   subst hd
   unfold Ret at hr
   rw [if_neg (by decide)] at hr
   rw [bV hr.2]
   exact hq H'
 rcases hS with (h1 | ⟨o,h1⟩) | h1
 ·rcases hO a with z | ⟨o,xs,z⟩
  ·rw [h1] at z; cases z
  ·rw [h1] at z; cases z
 ·exact main (fun _=>False) (fun _ _ z=>z.elim) (by rw [Rep]; exact ⟨a,rfl,.inl ⟨o,h1⟩⟩)
 ·exact main (fun b=>b=a) (fun b H' z=>by subst z; exact .inr h1) (by rw [Rep]; exact ⟨a,rfl,.inr rfl⟩)
theorem atI_ints {ns:List Int} {k:Int} (h0 : 0≤k) (h1:k<ns.length):atI (ns.map D.int) k=some (.int (ns.getD k.toNat 0)):=by
 have ek:k=((k.toNat:Nat):Int):=by omega
 have hl:k.toNat<ns.length:=by omega
 have:atI (ns.map D.int) ((k.toNat:Nat):Int)=some (.int (ns.getD k.toNat 0)):=kj (by rw [List.getElem?_map,List.getD_eq_getElem?_getD,List.getElem?_eq_getElem hl]; rfl)
 rw [← ek] at this
 exact this
theorem sS {ns:List Int} {k:Int} (h0 : 0≤k) (h1:k<ns.length):atI ns k=some (ns.getD k.toNat 0):=by
 have ek:k=((k.toNat:Nat):Int):=by omega
 have hl:k.toNat<ns.length:=by omega
 have:atI ns ((k.toNat:Nat):Int)=some (ns.getD k.toNat 0):=kj (by rw [List.getD_eq_getElem?_getD,List.getElem?_eq_getElem hl]; rfl)
 rw [← ek] at this
 exact this
theorem jw {ds:List D} {k:Int} {d:D} {q:D→Prop} (h:atI ds k=some d) (hq:q d):atD ds k q:=by unfold atD; rw [h]; exact hq
theorem iG {ns:List Int} {i:Nat} {d:D} (h:(ns.map D.int)[i]? = some d):∃ z,ns[i]? = some z∧d = .int z:=by
 rw [List.getElem?_map] at h
 cases e:ns[i]? with
 | none=>rw [e] at h; cases h
 | some z=>rw [e] at h; exact ⟨z,rfl,(Option.some.inj h).symm⟩
theorem gP {ps rs:List Int} (hT:Tree ps rs):fj (aP ps rs)=true:=by
 show (decide ((ps.map D.int).length=(rs.map D.int).length)&&(decide (1≤(ps.map D.int).length)&&decide ((ps.map D.int).length≤23)))=true
 rw [List.length_map,List.length_map,decide_eq_true hT.len,decide_eq_true hT.lo,decide_eq_true hT.hi]; rfl
theorem cj {lo hi z:Int} (h1:lo≤z) (h2:z≤hi):btw lo hi (.int z)=true:=by show (decide (lo≤z)&&decide (z≤hi))=true; rw [decide_eq_true h1,decide_eq_true h2]; rfl
structure Ends2 (ps:List Int) (a b:Int):Prop where
 a0 : 0≤a
 a1:a≤ps.length
 b0 : 0≤b
 b1:b≤ps.length
 ne:a≠b
def pG:SpD:=fun ds q=>∃ ps rs d,ds=[aP ps rs,d]∧d.isS=false∧q (.bl (btw 0 ps.length d)) []
theorem la (ps:List Int) (y:Int):D.lst (ps.map D.int++[D.int y])=a9 (ps++[y]):=by unfold a9; rw [List.map_append]; rfl
theorem aN (ps:List Int):(ps.map D.int).length=ps.length:=List.length_map _
theorem fK {P:Nat→Int→Prop} {ps:List Int} {y:Int} (h:∀ (j:Nat) (x:Int),ps[j]? = some x→P j x) (hy:P ps.length y):∀ (j:Nat) (x:Int),(ps++[y])[j]? = some x→P j x:=by
 intro j x hj
 by_cases hjl:j<ps.length
 ·rw [List.getElem?_append_left hjl] at hj; exact h j x hj
 ·rw [List.getElem?_append_right (by omega)] at hj
  cases e:j - ps.length with
  | zero => rw [e] at hj; have : y = x := by simpa using hj
            subst this; rw [show j=ps.length by omega]; exact hy
  | succ q=>rw [e] at hj; simp at hj
theorem oz {ns:List Int} {d:D} (h:d∈ns.map D.int):∃ x∈ns,d = .int x:=by
 obtain ⟨x,h1,h2⟩:=List.mem_map.mp h
 exact ⟨x,h1,h2.symm⟩
def sdTie:SpD:=fun ds q=>∃ ps rs d,ds=[aP ps rs,d]∧d.isS=false∧q (.bl (btw 1 ps.length d)) []
def lay:Nat→D→Bool
 | _,.int _=>true
 | _,.bl _=>true
 | _,.non=>true
 | n + 1,.tup ds=>ds.all (lay n)
 | n + 1,.lst ds=>ds.all (lay n)
 | _,_=>false
theorem ij {n:Nat} (ih:∀ d,lay n d=true→(toP d).canLay0=true∧(toP d).depth≤n + 1):∀ ds:List D,ds.all (lay n)=true→PyData.canLayAll0 (toPs ds)=true∧PyData.depthAll (toPs ds)≤n + 1
 | [],_=>by rw [toPs]; simp [PyData.canLayAll0,PyData.depthAll]
 | d :: ds,h=>by
  rw [List.all_cons,Bool.and_eq_true] at h
  have h1:=ih d h.1
  have h2:=ij ih ds h.2
  rw [toPs]
  simp only [PyData.canLayAll0,PyData.depthAll,h1.1,h2.1,Bool.and_self,true_and]
  omega
theorem jA:∀ (n:Nat) (d:D),lay n d=true→(toP d).canLay0=true∧(toP d).depth≤n + 1
 | n,.int _,_=>by rw [toP]; simp [PyData.canLay0,PyData.depth]
 | n,.bl _,_=>by rw [toP]; simp [PyData.canLay0,PyData.depth]
 | n,.non,_=>by rw [toP]; simp [PyData.canLay0,PyData.depth]
 | n + 1,.tup ds,h=>by
  have:=ij (jA n) ds (by simpa [lay] using h)
  rw [toP]; simp only [PyData.canLay0,PyData.depth,this.1,true_and]; omega
 | n + 1,.lst ds,h=>by
  have:=ij (jA n) ds (by simpa [lay] using h)
  rw [toP]; simp only [PyData.canLay0,PyData.depth,this.1,true_and]; omega
 | 0,.tup _,h=>by simp [lay] at h
 | 0,.lst _,h=>by simp [lay] at h
 | n,.str _,h=>by cases n <;> simp [lay] at h
 | n,.dct,h=>by cases n <;> simp [lay] at h
 | n,.dic _ _,h=>by cases n <;> simp [lay] at h
 | n,.obj _ _ _,h=>by cases n <;> simp [lay] at h
 | n,.scr _ _,h=>by cases n <;> simp [lay] at h
 | n,.ext _,h=>by cases n <;> simp [lay] at h
theorem iK {n:Nat} {d:D} (h:lay n d=true) (hn:n≤60):okD d=true:=by
 have:=jA n d h
 unfold okD SeqAt.shaped
 rw [this.1,Bool.true_and]
 exact decide_eq_true (by omega)
theorem ie {n:Nat} (ih:∀ d,lay n d=true→PyData.eqv (toP d) (toP d)=true):∀ ds:List D,ds.all (lay n)=true→PyData.eqvAll (toPs ds) (toPs ds)=true
 | [],_=>by rw [toPs]; simp [PyData.eqvAll]
 | d :: ds,h=>by
  rw [List.all_cons,Bool.and_eq_true] at h
  rw [toPs,PyData.eqvAll,ih d h.1,ie ih ds h.2]; rfl
theorem dW:∀ (n:Nat) (d:D),lay n d=true→eqD d d=true
 | n,.int _,_=>by unfold eqD; rw [toP,PyData.eqv]; simp
 | n,.bl _,_=>by unfold eqD; rw [toP,PyData.eqv]; simp
 | n,.non,_=>by unfold eqD; rw [toP,PyData.eqv]
 | n + 1,.tup ds,h=>by unfold eqD; rw [toP,PyData.eqv]; exact ie (dW n) ds (by simpa [lay] using h)
 | n + 1,.lst ds,h=>by unfold eqD; rw [toP,PyData.eqv]; exact ie (dW n) ds (by simpa [lay] using h)
 | 0,.tup _,h=>by simp [lay] at h
 | 0,.lst _,h=>by simp [lay] at h
 | n,.str _,h=>by cases n <;> simp [lay] at h
 | n,.dct,h=>by cases n <;> simp [lay] at h
 | n,.dic _ _,h=>by cases n <;> simp [lay] at h
 | n,.obj _ _ _,h=>by cases n <;> simp [lay] at h
 | n,.scr _ _,h=>by cases n <;> simp [lay] at h
 | n,.ext _,h=>by cases n <;> simp [lay] at h
theorem gE (n:Nat) (ns:List Int):(ns.map D.int).all (lay n)=true:=by
 rw [List.all_eq_true]; intro d hd; obtain ⟨x,_,rfl⟩:=oz hd; cases n <;> rfl
theorem hJ (n:Nat) (ns:List Int):lay (n + 1) (a9 ns)=true:=by unfold a9; rw [lay]; exact gE n ns
theorem hZ (n:Nat) (ns ms:List Int):lay (n + 2) (aP ns ms)=true:=by unfold aP; rw [lay,List.all_cons,List.all_cons,hJ,hJ]; rfl
structure Ask where
 one:Int
 other:Int
 size:Int
 worth:Int
def a4 (a:Ask):D:=.tup [.int a.one,.int a.other,.int a.size,.int a.worth]
def aZ (as:List Ask):D:=.lst (as.map a4)
structure AskOk (ps:List Int) (a:Ask):Prop where
 ends:Ends2 ps a.one a.other
 s0 : 1≤a.size
 s1:a.size≤1000000
 w0 : 1≤a.worth
 w1:a.worth≤1000000000000
structure AsksOk (ps:List Int) (as:List Ask):Prop where
 len:as.length≤30
 ok:∀ a∈as,AskOk ps a
theorem e5 (as:List Ask):imms (as.map a4)=true:=by
 induction as with
 | nil=>rfl
 | cons a r ih=>rw [List.map_cons,imms,ih]; rfl
theorem gI (n:Nat) (as:List Ask):lay (n + 2) (aZ as)=true:=by
 unfold aZ; rw [lay,List.all_eq_true]; intro d hd
 obtain ⟨a,_,rfl⟩:=List.mem_map.mp hd
 rw [a4,lay]
 exact gE n [a.one,a.other,a.size,a.worth]
theorem kP {as:List Ask} {i:Nat} {d:D} (h:(as.map a4)[i]? = some d):∃ a,as[i]? = some a∧d=a4 a:=by
 rw [List.getElem?_map] at h
 cases e:as[i]? with
 | none=>rw [e] at h; cases h
 | some z=>rw [e] at h; exact ⟨z,rfl,(Option.some.inj h).symm⟩
theorem cY (as:List Ask):(as.map a4).length=as.length:=List.length_map _
def ju:SpD:=fun ds q=>∃ ps rs as,ds=[aP ps rs,aZ as]∧Tree ps rs∧AsksOk ps as∧q .non []
theorem fN {n:Nat} {k:Int} (h0 : 0≤k) (h1:k<n):ixN n k=some k.toNat:=by unfold ixN; rw [if_pos h0,if_pos h1]
theorem jR {ps:List Int} {a r:Int} (a0 : 0≤a) (a1:a<1 + (ps.length:Int)) (r0 : 0≤r) (r1:r<ps.length):Ends2 ps a ((a + 1 + r) % (1 + (ps.length:Int))):=by
 refine ⟨a0,by omega,Int.emod_nonneg _ (by omega),?_,?_⟩
 ·have:=Int.emod_lt_of_pos (a + 1 + r) (show 0<1 + (ps.length:Int) by omega); omega
 ·intro he
  by_cases hlt:a + 1 + r<1 + (ps.length:Int)
  ·rw [Int.emod_eq_of_lt (by omega) hlt] at he; omega
  ·have e:(a + 1 + r) % (1 + (ps.length:Int))=a + 1 + r - (1 + (ps.length:Int)):=by
    rw [← Int.sub_emod_right,Int.emod_eq_of_lt (by omega) (by omega)]
   omega
section
variable {X:Cx}
end
section
variable {X:Cx} {M:Md} {e:Expr} {ma:ME} {pos:Pos}
end
section
variable {X:Cx}
variable {ow:List Bool} {e:Expr} {ma:ME}
end
section
variable {X:Cx}
variable {ow:List Bool} {e:Expr} {ma:ME} {pos p1 p2 p3:Pos}
end
end L2
namespace L2
open PySem
end L2
namespace L2
open PySem PySem.Spec PyProof.Rows
section
variable {prog:Program} {w:World} {A:Around} {E:Value→Shared→Prop} {s:Shared}
end
section
variable {X:Cx} {M:Md} {e:Expr} {es:List Expr} {mgs:MGs} {pos:Pos}
end
section
variable {X:Cx} {M:Md} {pos:Pos}
end
section
variable {X:Cx} {es:List Expr} {k:Nat} {tpos:Pos}
variable {ow:List Bool} {a b:Expr} {mr:MA} {pos:Pos}
end
end L2
namespace L2
open PySem
end L2
namespace L2
open PySem PySem.Spec PyProof.Rows
def iU (h:Heap) (e:Addr) (cls:Value) (dx:Option Addr) (tb:Value):Prop :=
 ∃ (vs:Array Value) (sl:Array (Option Value)),h.get? e=some { cls:=cls,dict:=dx,data:=.fields vs,slots:=sl }∧vs[1]? = some tb∧(dx=none∨vs[2]? = some .none)
def mU (h:Heap) (t:Addr) (v:Value):Prop:=∃ o ts,h.get? t=some o∧o.data = .fields ts∧ts[3]? = some v
def tbV:Option Addr→Value
 | none=>.none
 | some t=>.ref t
structure FlyO (h:Heap) (e:Addr) (cls:Value) (dx:Option Addr) (T:Option Addr):Prop where
 ex:iU h e cls dx (tbV T)
 tb:∀ t,T=some t→t≠e∧mU h t .none
theorem iU.notFrame {h base:Heap} {l:List Env} {e:Addr} {cls:Value} {dx:Option Addr} {tb:Value} (x:iU h e cls dx tb) (hl:h.FunFrames base l):e ∉ frs l:=fun hm=>by
 obtain ⟨vs,sl,he,_⟩:=x
 obtain ⟨_,o,ho,hnf⟩:=hl.mem hm
 rw [he] at ho; cases ho; exact hnf vs rfl
theorem mU.notFrame {h base:Heap} {l:List Env} {t:Addr} {v:Value} (x:mU h t v) (hl:h.FunFrames base l):t ∉ frs l:=fun hm=>by
 obtain ⟨o',ts,he,hd,_⟩:=x
 obtain ⟨_,o,ho,hnf⟩:=hl.mem hm
 rw [he] at ho; cases ho; exact hnf ts hd
section
variable {M:Model} {A:Around} {E:Value→Shared→Prop} {s:Shared}
def fA (l:List Env) (e:Addr) (T:Option Addr) (h h':Heap):Prop:=∀ b o,b≠e→T≠some b→h.get? b=some o→(b ∉ frs l→h'.get? b=some o)∧∃ sl,h'.get? b=some { o with slots:=sl }
theorem gT {base:Heap} {env:Env} {outer:List Env} {L e:Addr} {cls:Value} {dx:Option Addr} {tb head:Value} {hadNext:Bool} {Q:Unit→Shared→Prop}
 (hfr:A.frames=some (env :: outer)) (hl:s.heap.FunFrames base (env :: outer)) (hf:env.frame=some L) (F:iU s.heap e cls dx tb)
 (h:∀ h',s.heap.objs.size≤h'.objs.size→∀ t',s.heap.objs.size≤t'→FlyO h' e cls dx (some t')→fA (env :: outer) e none s.heap h'→Q () { s with heap:=h' }) :
 wpAny M A (do let a ← frameOf env; let pl ← entryPlaceOf L hadNext; let b ← EntryCells.newEntry head a .none (rawInt L) .none pl; setField (.ref e) 1 b) (fun _ s'=>wpAny M A (setFlight (.ref e) none) Q E s') E s:=by
 have hene:=F.notFrame hl
 obtain ⟨vs,sl,he,h1,h2⟩:=F
 have hsz : 1<vs.size:=(Array.getElem?_eq_some_iff.mp h1).1
 refine wpAny_bind (wpAny_frameOf_fun hfr hl hf fun g1 hs1=>?_)
 refine wpAny_bind (wpAny_entryPlaceOf fun pl hpl=>?_)
 unfold EntryCells.newEntry newFields
 refine wpAny_bind (wpAny_newObj_type ?_ (hpl.sizeOk5 _ _ _ _ _))
 have he1:g1.get? e=some { cls:=cls,dict:=dx,data:=.fields vs,slots:=sl }:=(hs1.2.1 e hene).trans he
 generalize hO:({ cls:=.type "traceback",dict:=none,data:=.fields ([head,.ref L,.none,rawInt L,.none]++(if pl.isEmpty then List.replicate 6 Value.none else pl)).toArray }:Obj)=O
 have hOd:∃ ts:Array Value,O.data = .fields ts∧3<ts.size:=by
  rw [← hO]; exact ⟨_,rfl,by simp only [List.size_toArray,List.length_append,List.length_cons,List.length_nil]; omega⟩
 have hOf:O.isFreed=false:=by rw [← hO]; rfl
 obtain ⟨ts,hts,h3⟩:=hOd
 have he2:=Heap.get?_push_of_some (h:=g1) O he1
 refine wpAny_setField he2 rfl hsz ?_
 have hTe:g1.objs.size≠e:=Nat.ne_of_gt (Heap.lt_size he1)
 have he3:=Heap.get?_update_self (Obj.mapFields (·.setIfInBounds 1 (Value.ref g1.objs.size))) he2 (Obj.isFreed_of_fields (Obj.data_mapFields rfl _))
 have hT3:((g1.push O).update e (Obj.mapFields (·.setIfInBounds 1 (Value.ref g1.objs.size)))).get? g1.objs.size=some O:=(Heap.get?_update_other _ _ (Ne.symm hTe)).trans (Heap.get?_push_size g1 hOf)
 unfold setFlight
 refine wpAny_bind (wpAny_field he3 (Obj.data_mapFields rfl _) (x:=.ref g1.objs.size) (by simp [hsz]) ?_)
 rw [if_pos (show (Value.ref g1.objs.size != Value.none)=true from by simp)]
 refine wpAny_setField hT3 hts h3 ?_
 have hsz1:g1.objs.size=s.heap.objs.size:=hs1.1
 refine h _ ?_ g1.objs.size (Nat.le_of_eq hsz1.symm) ⟨⟨_,sl,?_,by show (vs.setIfInBounds 1 (Value.ref g1.objs.size))[1]? = _; simp [hsz]; rfl,h2.imp id fun h2=>(by show (vs.setIfInBounds 1 (Value.ref g1.objs.size))[2]? = _; rw [Array.getElem?_setIfInBounds_ne (by decide)]; exact h2)⟩,fun t ht=>?_⟩ fun b o hbe _ hb=>?_
 ·rw [Heap.size_after_update,Heap.size_after_update,Heap.size_push]; exact Nat.le_succ_of_le (Nat.le_of_eq hsz1.symm)
 ·rw [Heap.get?_update_other _ _ hTe]; exact he3
 ·cases ht
  refine ⟨hTe,_,_,Heap.get?_update_self _ hT3 (Obj.isFreed_of_fields (Obj.data_mapFields hts _)),Obj.data_mapFields hts _,?_⟩
  show (ts.setIfInBounds 3 ((none:Option Addr).elim Value.none fun f=>rawInt f))[3]? = _
  simp [h3]
 ·have keep:∀ o',g1.get? b=some o'→(((g1.push O).update e (Obj.mapFields (·.setIfInBounds 1 (Value.ref g1.objs.size)))).update g1.objs.size (Obj.mapFields (·.setIfInBounds 3 ((none:Option Addr).elim Value.none fun f=>rawInt f)))).get? b=some o':=fun o' ho'=>by
   have hbT:g1.objs.size≠b:=Nat.ne_of_gt (Heap.lt_size ho')
   rw [Heap.get?_update_other _ _ hbT,Heap.get?_update_other _ _ (Ne.symm hbe)]
   exact Heap.get?_push_of_some _ ho'
  obtain ⟨sl',hb'⟩:=hs1.2.2 b o hb
  exact ⟨fun hn=>keep o ((hs1.2.1 b hn).trans hb),sl',keep _ hb'⟩
theorem gf {base:Heap} {env:Env} {outer:List Env} {L e:Addr} {cls:Value} {dx:Option Addr} {T:Option Addr} {Q:Unit→Shared→Prop}
 (hfr:A.frames=some (env :: outer)) (hl:s.heap.FunFrames base (env :: outer)) (hf:env.frame=some L) (F:FlyO s.heap e cls dx T)
 (h:∀ h',s.heap.objs.size≤h'.objs.size→∀ t',s.heap.objs.size≤t'→FlyO h' e cls dx (some t')→fA (env :: outer) e T s.heap h'→(∀ t,T=some t→∃ o,h'.get? t=some o)→Q () { s with heap:=h' }) :
 wpAny M A (noteFrame (.ref e) env) (fun _ s'=>wpAny M A (setFlight (.ref e) none) Q E s') E s:=by
 obtain ⟨X,tb⟩:=F
 obtain ⟨vs,sl,he,h1,h2⟩:=id X
 unfold noteFrame
 simp only [hf]
 refine wpAny_bind (wpAny_field he rfl h1 ?_)
 cases T with
 | none =>
  rw [if_neg (by decide)]
  exact gT hfr hl hf X fun h' hs t' ht' fl kb=>h h' hs t' ht' fl kb fun t z=>by cases z
 | some T =>
  obtain ⟨hTe,oT,ts,hT,hdT,h3⟩:=tb T rfl
  show wpAny M A (if (Value.ref T != Value.none)=true then _ else _) _ _ _
  rw [if_pos (show (Value.ref T != Value.none)=true from by simp)]
  refine wpAny_bind (wpAny_field hT hdT h3 ?_)
  rw [if_neg (show ¬ ((Value.none == rawInt L)=true) from by simp [rawInt])]
  refine wpAny_bind (wpAny_setField hT hdT (Array.getElem?_eq_some_iff.mp h3).1 ?_)
  have other:∀ b,b≠T→(s.heap.update T (Obj.mapFields (·.setIfInBounds 3 Value.none))).get? b=s.heap.get? b:=fun b hb=>Heap.get?_update_other _ _ (Ne.symm hb)
  have hTn:=mU.notFrame ⟨oT,ts,hT,hdT,h3⟩ hl
  have hl2:(s.heap.update T (Obj.mapFields (·.setIfInBounds 3 Value.none))).FunFrames base (env :: outer):=hl.of_keeps fun b o hb hnf=>⟨o,(other b fun q=>by subst q; rw [hT] at hb; cases hb; exact hnf ts hdT).trans hb,rfl⟩
  have hT2:=Heap.get?_update_self (Obj.mapFields (·.setIfInBounds 3 Value.none)) hT (Obj.isFreed_of_fields (Obj.data_mapFields hdT _))
  refine gT (s:={ s with heap:=s.heap.update T (Obj.mapFields (·.setIfInBounds 3 Value.none)) }) hfr hl2 hf ⟨vs,sl,(other e (Ne.symm hTe)).trans he,h1,h2⟩ fun h' hs t' ht' fl kb=>?_
  have hs':s.heap.objs.size≤h'.objs.size:=by rw [Heap.size_after_update] at hs; exact hs
  have ht2:s.heap.objs.size≤t':=by rw [Heap.size_after_update] at ht'; exact ht'
  refine h h' hs' t' ht2 fl (fun b o hbe hbT hb=>kb b o hbe (by simp) ((other b fun q=>hbT (by rw [q])).trans hb)) fun t z=>?_
  cases z
  obtain ⟨_,sl2,q⟩:=kb T _ hTe (by simp) hT2
  exact ⟨_,q⟩
theorem lc {base:Heap} {env:Env} {outer:List Env} {L e:Addr} {cls:Value} {dx:Option Addr} {T:Option Addr} {Q:Unit→Shared→Prop}
 (hfr:A.frames=some (env :: outer)) (hl:s.heap.FunFrames base (env :: outer)) (hf:env.frame=some L) (F:FlyO s.heap e cls dx T)
 (h:∀ h',s.heap.objs.size≤h'.objs.size→∀ t',s.heap.objs.size≤t'→FlyO h' e cls dx (some t')→fA (env :: outer) e T s.heap h'→(∀ t,T=some t→∃ o,h'.get? t=some o)→Q () { s with heap:=h' }):wpAny M A (leaving env (.ref e)) Q E s:=by
 unfold leaving
 exact wpAny_bind (gf hfr hl hf F h)
end
abbrev XS:=St→XK
structure Out (X:Cx) (pins:List (Addr×Obj)) (H:Hp) (a:Addr):Prop where
 new:X.s₀.heap.get? a=none
 unt:H a=none
 pin:∀ p∈X.pn++pins,p.1≠a
structure Fly (X:Cx) (pins:List (Addr×Obj)) (H:Hp) (s:Shared) (e:Addr) (cls:Value) (dx:Option Addr):Prop where
 go:∃ T,FlyO s.heap e cls dx T∧Out X pins H e∧∀ t,T=some t→Out X pins H t
structure Acc (X:Cx) (xk:XS):Prop where
 go:∀ (pins:List (Addr×Obj)) (σ:St) (H:Hp) (s:Shared) (e:Addr) (cls:Value) (dx:Option Addr),Inv X pins σ H s→Fly X pins H s e cls dx→xk σ cls dx H→X.xe (.ref e) s
def CX1 (P:Program) (w:World):CXT:=fun outer H s E e s'=>∃ ea H' cls dx T,e = .ref ea∧s'.os=s.os∧AllBare s'.gens∧Un (frs outer) [] H H' s.heap s'.heap∧HOk P w H' s'.heap∧FlyO s'.heap ea cls dx T ∧
 (s.heap.get? ea=none∧H' ea=none)∧(∀ t,T=some t→s.heap.get? t=none∧H' t=none)∧E cls dx H'
section
variable {X:Cx} {pins:List (Addr×Obj)} {σ:St} {H H':Hp} {s s':Shared} {e:Addr} {cls:Value} {dx:Option Addr} {T:Option Addr}
theorem aT.here {P:Program} {w:World} {H:Hp} {h:Heap} {a:Addr} {o:HO} (x:aT P w H h a o):∃ u,h.get? a=some u:=by
 cases o with
 | lst xs=>obtain ⟨_,_,_,_,e⟩:=x; exact ⟨_,e⟩
 | tup xs=>obtain ⟨_,_,_,_,e,_⟩:=x; exact ⟨_,e⟩
 | dK kvs=>obtain ⟨_,_,_,_,o,_,_,e,_⟩:=x; exact ⟨_,e⟩
 | dT kvs=>obtain ⟨_,_,_,_,o,_,_,e,_⟩:=x; exact ⟨_,e⟩
 | set S n=>obtain ⟨o,_,_,_,e,_⟩:=x; exact ⟨_,e⟩
 | ins C dx fs=>obtain ⟨_,_,_,e,_⟩:=x; exact ⟨_,e⟩
 | own y=>exact x
 | xd fs=>obtain ⟨_,⟨_,_,_,e,_⟩,_⟩:=x; exact ⟨_,e⟩
 | rng lo hi=>obtain ⟨_,_,_,e⟩:=x; exact ⟨_,e⟩
 | frz ob u=>obtain ⟨e,_⟩:=x; exact ⟨_,e⟩
 | tbl ps q=>obtain ⟨e,_⟩:=x; exact ⟨_,e⟩
 | met f y=>exact ⟨_,(show h.get? a=some _ from x)⟩
 | ext φ=>obtain ⟨_,e,_⟩:=x; exact e
theorem HOk.no {P:Program} {w:World} {H:Hp} {h:Heap} {a:Addr} (x:HOk P w H h) (e:h.get? a=none):H a=none:=by
 cases q:H a with
 | none=>rfl
 | some o=>obtain ⟨u,z⟩:=(x a o q).here; rw [e] at z; cases z
theorem Inv.pinNo (I:Inv X pins σ H s) {a:Addr} (h:s.heap.get? a=none):∀ p∈X.pn++pins,p.1≠a:=fun p hp z=>by
 have:=(I.pin p hp).1
 rw [z,h] at this; cases this
theorem Inv.old (I:Inv X pins σ H s) (hex:X.ex=[]) {a:Addr} (h:s.heap.get? a=none):X.s₀.heap.get? a=none:=by
 cases q:X.s₀.heap.get? a with
 | none=>rfl
 | some o=>obtain ⟨u,z⟩:=I.base.there a o q (by rw [hex]; simp); rw [h] at z; cases z
theorem Inv.callN {h':Heap} {g':Array GenState} {t':Nat} {d':Drawn} {ch:List Addr} (I:Inv X pins σ H s) (u:Un (frs X.stack) ch H H' s.heap h') (hok:HOk X.prog X.w H' h') (hg:AllBare g')
 (hch:∀ b∈ch,X.s₀.heap.get? b=none∧b≠X.env.locals∧(∀ x c,X.env.cells.lookup x=some c→c≠b)∧(∀ p∈X.pn++pins,p.1≠b)∧b ∉ X.fs) :
 Inv X pins σ H' { s with heap:=h',gens:=g',drawn:=d',toks:=t' }:=by
 have nin:∀ b o,X.s₀.heap.get? b=some o→b ∉ ch:=fun b o q hb=>by rw [(hch b hb).1] at q; cases q
 have sp:∀ {b:Addr},b∈ch++X.ex→b∈ch∨b∈X.ex:=fun z=>List.mem_append.mp z
 have ok1:Cx.Ok { X with ex:=ch++X.ex }:={ I.ok with
  exf:=fun b hb=>(sp hb).elim (fun z=>⟨(hch b z).2.1,(hch b z).2.2.1⟩) (I.ok.exf b)
  noex:=fun b o q hb=>(sp hb).elim (nin b o (I.ok.bs b o q).1) (I.ok.noex b o q)
  exfs:=fun b hb=>(sp hb).elim (fun z=>(hch b z).2.2.2.2) (I.ok.exfs b) }
 have I1:Inv { X with ex:=ch++X.ex } pins σ H s:=⟨ok1,I.os,I.bare,I.base.mono (fun _ z=>z) (fun _ z=>List.mem_append_right _ z),I.loc,I.cell,I.free,I.freeC,I.pin,I.hok,I.len⟩
 have J:=I1.call (g':=g') (t':=t') (d':=d') u hok hg fun b hb=>⟨.inl (List.mem_append_left _ hb),(hch b hb).2.1,(hch b hb).2.2.1,(hch b hb).2.2.2.1⟩
 have nn:∀ b o,X.s₀.heap.get? b=some o→b ∉ X.ex→b ∉ ch++X.ex:=fun b o q hx hb=>(sp hb).elim (nin b o q) hx
 exact ⟨I.ok,J.os,J.bare,⟨fun b o q n hb hx=>J.base.keep b o q n hb (nn b o q hx),fun b o q n hb hx=>J.base.slot b o q n hb (nn b o q hx),fun b o q n hx=>J.base.free b o q n (nn b o q hx),fun b o q hx=>J.base.there b o q (nn b o q hx),
  J.base.tups,J.base.frzs,J.base.tbls⟩,J.loc,J.cell,J.free,J.freeC,J.pin,J.hok,J.len⟩
theorem Inv.fieldsNot (I:Inv X pins σ H s) {a:Addr} {o:Obj} {vs:Array Value} (h:s.heap.get? a=some o) (hd:o.data = .fields vs):a≠X.env.locals∧∀ x c,X.env.cells.lookup x=some c→c≠a:=by
 constructor
 ·intro z
  obtain ⟨m,⟨o',es,ep,ho,r⟩,_⟩:=I.loc
  rw [z] at h; rw [h] at ho; cases ho
  obtain ⟨r1,r2,_⟩:=r
  rw [hd] at r1; cases r1
 ·intro x c hc z
  obtain ⟨v,q⟩:=I.cell x c hc
  subst z
  obtain ⟨o',ho,hd'⟩:=q
  rw [h] at ho; cases ho
  rw [hd] at hd'; cases hd'
theorem Inv.noted {h':Heap} {t':Addr} (I:Inv X pins σ H s) (hst:X.stack=X.env :: X.outer) (fl:FlyO s.heap e cls dx T) (oe:Out X pins H e) (ot:∀ t,T=some t→Out X pins H t) (hs:s.heap.objs.size≤h'.objs.size)
 (ht:s.heap.objs.size≤t') (fl':FlyO h' e cls dx (some t')) (kb:fA (X.env :: X.outer) e T s.heap h') (there:∀ t,T=some t→∃ o,h'.get? t=some o) :
 Inv X pins σ H { s with heap:=h' }∧Fly X pins H { s with heap:=h' } e cls dx:=by
 have hst':X.env :: X.outer=X.stack:=hst.symm
 rw [hst'] at kb
 have hch:∀ b∈e :: T.toList,X.s₀.heap.get? b=none∧b≠X.env.locals∧(∀ x c,X.env.cells.lookup x=some c→c≠b)∧(∀ p∈X.pn++pins,p.1≠b)∧b ∉ X.fs:=fun b hb=>by
  have out:∀ z,z∈X.fs→z∈frs (X.env :: X.outer):=fun z hz=>by unfold frs; rw [List.filterMap_cons]; split; exact hz; exact List.mem_cons_of_mem _ hz
  have stk:s.heap.FunFrames X.base (X.env :: X.outer):=by rw [hst']; exact I.stack
  rcases List.mem_cons.mp hb with rfl | hb
  ·obtain ⟨vs,sl,q,_⟩:=fl.ex
   exact ⟨oe.new,(I.fieldsNot q rfl).1,(I.fieldsNot q rfl).2,oe.pin,fun z=>fl.ex.notFrame stk (out _ z)⟩
  ·have:T=some b:=by cases T with | none=>cases hb | some t=>simp at hb; rw [hb]
   obtain ⟨_,o,ts,q,hd,h3⟩:=fl.tb b this
   exact ⟨(ot b this).new,(I.fieldsNot q hd).1,(I.fieldsNot q hd).2,(ot b this).pin,fun z=>mU.notFrame ⟨o,ts,q,hd,h3⟩ stk (out _ z)⟩
 have nb:∀ b,b ∉ e :: T.toList→b≠e∧T≠some b:=fun b hb=>⟨fun z=>hb (by simp [z]),fun z=>hb (by simp [z])⟩
 have un:Un (frs X.stack) (e :: T.toList) H H s.heap h':={
  keep:=fun b o q _ hn hx=>((kb b o (nb b hx).1 (nb b hx).2 q).1 hn)
  slot:=fun b o q _ _ hx=>(kb b o (nb b hx).1 (nb b hx).2 q).2
  free:=fun _ _ _ n _=>n
  there:=fun b o q hx=>let ⟨sl,z⟩:=(kb b o (nb b hx).1 (nb b hx).2 q).2; ⟨_,z⟩
  tups:=fun _ _ z=>z
  frzs:=fun _ _ _ z=>z
  tbls:=fun b ps _ z=>⟨#[],by rw [z]; simp⟩ }
 have hok:HOk X.prog X.w H h':=fun a o q=>(I.hok a o q).stay (fun c v hc z=>by
  have hH:∃ u,H c=some u:=by rcases hc with hc | hc; exact ⟨_,hc ▸ q⟩; exact ⟨_,hc⟩
  obtain ⟨u,hu⟩:=hH
  have c1:c≠e:=fun y=>by rw [y,oe.unt] at hu; cases hu
  have c2:T≠some c:=fun y=>by rw [(ot c y).unt] at hu; cases hu
  exact (kb c v c1 c2 z).1 fun y=>by rw [I.stkFree c y] at hu; cases hu) (fun _ z=>z) (fun _ _ z=>z) fun _ _ _ z=>z
 refine ⟨I.callN (h':=h') (g':=s.gens) (d':=s.drawn) (t':=s.toks) un hok I.bare hch,⟨some t',fl',oe,fun t z=>?_⟩⟩
 cases z
 exact ⟨Heap.get?_none_of_le (Nat.le_trans I.sz ht),I.hok.fresh ht,I.pinNo (Heap.get?_none_of_le ht)⟩
end
theorem sA {P:Program} {w:World} {K:PySem.W.Frag} {mg:Str→Option Value} {base:Heap} {N:List Str} {qual:Str} {scope:Scope} {f:Addr} {cd:Value} {A:Around} {outer:List Env} {s:Shared} {H:Hp} {E:XK} :
 Acc (gt (CX1 P w) P w K mg base N qual scope f cd A outer s H E) (fun _=>E):=by
 refine ⟨fun pins σ H' s' e cls dx I fl h=>?_⟩
 obtain ⟨T,flo,oe,ot⟩:=fl.go
 show wpAny _ _ (leaving _ (.ref e)) _ _ s'
 refine lc (base:=base) (outer:=outer) (L:=s.heap.objs.size) (T:=T) I.ok.frames I.stack rfl flo fun h' hs t' ht fl' kb there=>?_
 obtain ⟨I2,fl2⟩:=I.noted rfl flo oe ot hs ht fl' kb there
 refine ⟨e,H',cls,dx,some t',rfl,I.os,I.bare,?_,I2.hok,fl',⟨oe.new,oe.unt⟩,fun t z=>?_,h⟩
 ·exact I2.base
 ·cases z; exact ⟨Heap.get?_none_of_le (Nat.le_trans I.sz ht),I.hok.fresh ht⟩
section
variable {X:Cx} {x:Str} {p pos:Pos} {e:Expr} {es:List Expr} {t:TA} {k:Nat} {f:Addr} {fd:FuncData} {ps:List Str} {sp:Sp} {xk:XS}
theorem Inv.raised {pins:List (Addr×Obj)} {σ:St} {H:Hp} {s s':Shared} {ev:Value} (hex:X.ex=[]) (I:Inv X pins σ H s) (ac:Acc X xk) (h:CX1 X.prog X.w X.stack H s (xk σ) ev s'):X.xe ev s':=by
 obtain ⟨ea,H',cls,dx,T,rfl,os,bare,un,hok,fl,oe,ot,q⟩:=h
 have I2:=I.call' os un hok bare (ch:=[]) fun b z=>absurd z (by simp)
 exact ac.go pins σ H' s' ea cls dx I2 ⟨T,fl,⟨I.old hex oe.1,oe.2,I.pinNo oe.1⟩,fun t z=>⟨I.old hex (ot t z).1,(ot t z).2,I.pinNo (ot t z).1⟩⟩ q
theorem qr {pins:List (Addr×Obj)} {σ:St} {H:Hp} {s:Shared} {Q:VK} {us:List Value} {vs:List V} (F:FnOk X.prog X.w X.K X.mg X.base (CX1 X.prog X.w) k f fd ps sp) (hr:Room k X.A) (hb:bS X.K fd ps [])
 (hex:X.ex=[]) (ac:Acc X xk) (I:Inv X pins σ H s) (r:aO vs us) (h:sp vs H Q (xk σ)):wpAny (model X.prog X.w) X.A (call (.ref f) us) (EP X pins σ Q) X.xe s:=by
 have hl:us.length=ps.length:=by rw [← F.len _ _ _ _ h]; exact r.length.symm
 have hb':=hb s us I.kIn (by simpa using hl)
 rw [List.append_nil] at hb'
 refine wpAny_call (codeAny_mono (F.run X.A X.stack s H ⟨us,[]⟩ us vs Q (xk σ) hr I.env0 hb' r h) fun r s' hq=>?_)
 cases r with
 | error e=>exact I.raised hex ac hq
 | ok fl =>
  cases fl with
  | ret u=>exact I.after hq
  | next=>exact False.elim hq
  | brk=>exact False.elim hq
  | cont=>exact False.elim hq
def n4 (xk:XS) (sp:Sp) (t:TA):TE:=fun σ H Q=>t σ H fun vs H1=>sp vs H1 Q (xk σ)
theorem nO (hex:X.ex=[]) (ac:Acc X xk) (F:FnOk X.prog X.w X.K X.mg X.base (CX1 X.prog X.w) k f fd ps sp) (hr:Room k X.A) (hg:Gl X x) (hm:X.mg x=some (.ref f)) (hk:PySem.W.keepIn X.K (.ref f)=true) (hb:bS X.K fd ps [])
 (ha:PA X (e :: es) t) (hdb:(x == ("__debug__":Str))=false:=by decide) (he:starEach (e :: es) X.env=(false,eval e X.env) :: starEach es X.env:=by rfl) (hpl:(backTo pos (starEach es X.env)).any (·.1)=false:=by rfl) :
 PE X (.Call (.Name x p) (e :: es) [] pos) (n4 xk sp t):=by
 (try refine ⟨?_⟩); intro pins s σ H Q I h
 refine wpAny_Call_Name_kw (b3 I hg hm ?_ hdb)
 refine PySem.W.callWith_K (h₀:=X.base) I.ok.mod.kin hk (thn (ha pos pins s σ H _ I h) fun us s1 ⟨vs,H1,I1,r,q⟩=>⟨I1.kIn,?_⟩) he hpl
 exact qr F hr hb hex ac I1 r q
end
abbrev bmV:List Value:=[.type "ValueError",.type "Exception",.type "BaseException",.type "object"]
def bh (K:PySem.W.Frag) (C:Addr) (bm:List Value) (ini:Option Value):Bool:=match K.lookup C with
 | some ⟨.type "type",_,.cls cd,sl⟩=>(match cd.mro,sl.toList with
  | .ref C' :: bm',[_,_,_,_,some (.builtin n),_]=>C' == C&&n == "ValueError.__new__" && !cd.hasDel&&bm' == bm&&PySem.W.tailIn K bmV bm&&PySem.W.nsOkIn K cd.ns&&PySem.W.nsIn K cd.ns "__init__" == some ini
  | _,_=>false)
 | _=>false
def f6 (h:Heap) (C:Addr) (bm:List Value) (ini:Option Value):Prop:=∃ N nm q bs hdct sn sub ab col dd k0 k1 k2 k3 k5 mN,h.get? C=some (excClassObj nm q C N bs bm hdct sn sub ab col dd k0 k1 k2 k3 k5 "ValueError.__new__")∧h.Ns N mN∧mN "__init__" = ini∧OwnTail h bmV bm
theorem e9 {K:PySem.W.Frag} {h:Heap} {N:Addr} {mg:Str→Option Value} {n:Str} {v:Value} (X:K.In h) (G:h.Ns N mg) (e:PySem.W.nsIn K N n=some (some v)):mg n=some v:=by
 obtain ⟨o,es,ep,ho,hd,_,hf⟩:=G
 unfold PySem.W.nsIn at e
 split at e
 ·rename_i c d es' n' sl q
  have:=X _ _ q
  rw [ho] at this
  cases this
  cases hd
  split at e
  ·rename_i w he
   cases e
   rw [← hf]
   unfold nsFind findBy
   rw [← Array.find?_toList,he]
   rfl
  ·split at e <;> cases e
 ·cases e
theorem bF {K:PySem.W.Frag} {h:Heap} {C:Addr} {bm:List Value} {ini:Option Value} (X:K.In h) (q:bh K C bm ini=true):f6 h C bm ini:=by
 unfold bh at q
 split at q
 ·rename_i dd cd sl ho
  split at q
  ·rename_i C' bm' k0 k1 k2 k3 n k5 hm hs
   simp only [Bool.and_eq_true,beq_iff_eq,Bool.not_eq_true'] at q
   obtain ⟨⟨⟨⟨⟨⟨rfl,rfl⟩,hdel⟩,rfl⟩,ht⟩,hok⟩,hni⟩:=q
   obtain ⟨nm,bs,mro,ns,qn,hd,sn,sub,ab,col,del⟩:=cd
   dsimp only at hm hdel hok hni
   subst hm hdel
   have hsl:sl = #[k0,k1,k2,k3,some (.builtin "ValueError.__new__"),k5]:=by
    obtain ⟨l⟩:=sl
    simp only at hs
    rw [hs]
   subst hsl
   refine ⟨ns,nm,qn,bs,hd,sn,sub,ab,col,dd,k0,k1,k2,k3,k5,_,X _ _ ho,.of_isNs (PySem.W.isNs_of_in X hok),?_,PySem.W.tail_of_in X ht⟩
   cases ini with
   | none=>exact PySem.W.nsMap_none_of_in X hok hni
   | some v=>exact e9 X (.of_isNs (PySem.W.isNs_of_in X hok)) hni
  ·cases q
 ·cases q
theorem bX {h:Heap} {bm:List Value} (T:OwnTail h bmV bm):bm.contains (.type "BaseException")=true:=T.hasType (by decide)
section
variable {X:Cx} {pins:List (Addr×Obj)} {σ:St} {H:Hp} {s:Shared} {xk:XS}
theorem Inv.made1 {h':Heap} {e:Addr} {cls:Value} {args:List Value} (hex:X.ex=[]) (I:Inv X pins σ H s) (m:Heap.MadeExcOf s.heap h' e cls args):Inv X pins σ H { s with heap:=h' }∧Fly X pins H { s with heap:=h' } e cls none:=by
 refine ⟨I.kept (t':=s.toks) m.keeps,none,⟨?_,fun t z=>by cases z⟩,⟨I.old hex m.new,I.hok.no m.new,I.pinNo m.new⟩,fun t z=>by cases z⟩
 obtain ⟨t,ht,_,_⟩:=m.there
 exact ⟨_,_,ht,rfl,.inl rfl⟩
variable {x:Str} {C:Addr} {bm:List Value} {e:Expr} {args:List Expr} {np cpos pos:Pos} {t:TA}
def ki (xk:XS) (C:Addr) (t:TA):TS:=fun _ σ H=>t σ H fun vs H1=>vs.length≤sizeLine∧xk σ (.ref C) none H1
theorem k8 (hex:X.ex=[]) (hcalm:X.calm=true) (ac:Acc X xk) (hc:bh X.K C bm none=true) (hg:Gl X x) (hm:X.mg x=some (.ref C)) (ha:PA X (e :: args) t)
 (hdb:(x == ("__debug__":Str))=false:=by decide) (he:starEach (e :: args) X.env=(false,eval e X.env) :: starEach args X.env:=by rfl) (hpl:(backTo cpos (starEach args X.env)).any (·.1)=false:=by rfl) :
 PS X (.Raise (some (.Call (.Name x np) (e :: args) [] cpos)) none pos) (ki xk C t):=by
 refine ⟨fun pins s σ H D I h=>?_⟩
 obtain ⟨N,nm,q,bs,hdct,sn,sub,ab,col,dd,k0,k1,k2,k3,k5,mN,hC,hN,hni,T⟩:=bF I.ok.mod.kin hc
 refine wpAny_Raise_call_subT (C:=C) (N:=N) (nm:=nm) (q:=q) (bs:=bs) (bm:=bm) (hdct:=hdct) (sn:=sn) (sub:=sub) (ab:=ab) (col:=col) (dd:=dd) (k0:=k0) (k1:=k1) (k2:=k2) (k3:=k3) (k5:=k5) (mN:=mN)
  PySem.F.excBase_ValueError (bX T) (I.ok.hd hcalm) ?_ hni (b3 I hg hm ⟨rfl,?_⟩ hdb)
 ·rw [he]; show ((false||(backTo cpos (starEach args X.env)).any (·.1)))=false; rw [hpl]; rfl
 ·have hq:=ha cpos pins s σ H _ I h
  rw [he] at hq ⊢
  refine Calls.evalArgs_plain (thn hq fun us s1 ⟨vs,H1,I1,r,q1⟩=>?_)
  obtain ⟨hl,q2⟩:=q1
  refine ⟨rfl,by rw [← r.length]; exact hl,I1.bk _ _ hC,hN.keeps I1.bk,T.keeps I1.bk,fun h' ea hm=>?_⟩
  obtain ⟨J,fl⟩:=I1.made1 hex hm
  exact ac.go pins σ H1 _ ea (.ref C) none J fl q2
end
def gc (e:Addr) (cls:Value) (dx:Option Addr):Heap→Prop:=fun h=>∃ vs sl,h.get? e=some { cls:=cls,dict:=dx,data:=.fields vs,slots:=sl }
def jk (X:Cx) (E:Value→Shared→Prop):Prop:=PassesOwn (model X.prog X.w) X.A X.env E∧∀ hd,PassesOwnAt (model X.prog X.w) (X.A.mark hd) X.A X.env E
abbrev Cx.tr (X:Cx) (E:Value→Shared→Prop) (p:List (Addr×Obj)):Cx:={ X with xe:=E,pn:=X.pn++p }
abbrev Cx.hand (X:Cx) (v:Value):Cx:={ X with A:=X.A.mark (some v),calm:=false,xe:=fun _ _=>False }
def Ends.unb (D:Ends) (i:Nat):Ends:={ nx:=fun σ H=>D.nx (σ.set i none) H,rt:=D.rt,bk:=fun σ H=>D.bk (σ.set i none) H,ct:=fun σ H=>D.ct (σ.set i none) H }
section
variable {X:Cx} {pins p:List (Addr×Obj)} {σ:St} {H:Hp} {s:Shared} {E:Value→Shared→Prop} {v:Value}
theorem Cx.Ok.tr (ok:X.Ok):(X.tr E p).Ok:={ ok with }
theorem Cx.Ok.untr (ok:(X.tr E p).Ok):X.Ok:={ ok with }
theorem Inv.tr (I:Inv X (p++pins) σ H s):Inv (X.tr E p) pins σ H s:=⟨I.ok.tr,I.os,I.bare,I.base,I.loc,I.cell,I.free,I.freeC,fun q hq=>I.pin q (by simpa using hq),I.hok,I.len⟩
theorem Inv.untr (I:Inv (X.tr E p) pins σ H s):Inv X (p++pins) σ H s:=⟨I.ok.untr,I.os,I.bare,I.base,I.loc,I.cell,I.free,I.freeC,fun q hq=>I.pin q (by simpa using hq),I.hok,I.len⟩
theorem SP.untr {D:Ends} {f:Flow} {s':Shared} (h:SP (X.tr E p) pins D f s'):SP X (p++pins) D f s':=by
 cases f with
 | next=>obtain ⟨σ',H',I,q⟩:=h; exact ⟨σ',H',I.untr,q⟩
 | brk=>obtain ⟨σ',H',I,q⟩:=h; exact ⟨σ',H',I.untr,q⟩
 | cont=>obtain ⟨σ',H',I,q⟩:=h; exact ⟨σ',H',I.untr,q⟩
 | ret u=>obtain ⟨v,σ',H',I,r,q⟩:=h; exact ⟨v,σ',H',I.untr,r,q⟩
theorem Inv.drop (I:Inv X (p++pins) σ H s):Inv X p σ H s:=I.pins_of fun q hq=>I.pin q (by simp [hq])
theorem Cx.Ok.hand (ok:X.Ok):(X.hand v).Ok:={ ok with hd:=(fun z=>by cases z),frames:=ok.frames }
theorem Inv.hand (I:Inv X pins σ H s):Inv (X.hand v) pins σ H s:=⟨I.ok.hand,I.os,I.bare,I.base,I.loc,I.cell,I.free,I.freeC,I.pin,I.hok,I.len⟩
theorem Inv.unhand (ok:X.Ok) (I:Inv (X.hand v) pins σ H s):Inv X pins σ H s:=⟨ok,I.os,I.bare,I.base,I.loc,I.cell,I.free,I.freeC,I.pin,I.hok,I.len⟩
theorem PS.any {st:Stmt} {t:TS} (h:PS X.nox st t):PS (X.tr E p) st t:=⟨fun pins s σ H D I hw =>
 wpAny_mono (h (p++pins) s σ H D (I.untr.wish _) hw) (fun f s' q=>by
  have q:=q.unwish
  cases f with
  | next=>obtain ⟨σ',H',I,q⟩:=q; exact ⟨σ',H',I.tr,q⟩
  | brk=>obtain ⟨σ',H',I,q⟩:=q; exact ⟨σ',H',I.tr,q⟩
  | cont=>obtain ⟨σ',H',I,q⟩:=q; exact ⟨σ',H',I.tr,q⟩
  | ret u=>obtain ⟨v,σ',H',I,r,q⟩:=q; exact ⟨v,σ',H',I.tr,r,q⟩) fun _ _ z=>False.elim z⟩
theorem PA.any {es:List Expr} {t:TA} (h:PA X.nox es t):PA (X.tr E p) es t:=⟨fun pos pins s σ H D I hw =>
 wpAny_mono (h pos (p++pins) s σ H D (I.untr.wish _) hw) (fun f s' ⟨vs,H',I',r,q⟩=>⟨vs,H',(I'.unwish).tr,r,q⟩) fun _ _ z=>False.elim z⟩
theorem PT.any {e:Expr} {t:TT} (h:PT X.nox e t):PT (X.tr E p) e t:=⟨fun pins s σ H D I hw =>
 wpAny_mono (h (p++pins) s σ H D (I.untr.wish _) hw) (fun f s' ⟨H',I',q⟩=>⟨H',(I'.unwish).tr,q⟩) fun _ _ z=>False.elim z⟩
variable {e:Addr} {cls:Value} {dx T:Option Addr}
theorem Inv.track {vs:Array Value} {sl:Array (Option Value)} (I:Inv X pins σ H s) (he:s.heap.get? e=some { cls:=cls,dict:=dx,data:=.fields vs,slots:=sl }) (o:Out X pins H e) :
 Inv X pins σ (upd H e (.ext (gc e cls dx))) s:=by
 have ne:∀ b u,H b=some u→b≠e:=fun b u q z=>by rw [z,o.unt] at q; cases q
 have up:∀ b,b≠e→upd H e (.ext (gc e cls dx)) b=H b:=fun b z=>by simp [upd,z]
 have old:∀ b ob,X.s₀.heap.get? b=some ob→b≠e:=fun b ob q z=>by rw [z,o.new] at q; cases q
 refine ⟨I.ok,I.os,I.bare,⟨I.base.keep,I.base.slot,fun b ob q n hx=>(up b (old b ob q)).trans (I.base.free b ob q n hx),I.base.there,fun b xs q=>?_,fun b ob u q=>?_,fun b ps q0 q=>?_⟩,I.loc,I.cell,
  (up _ (Ne.symm (I.fieldsNot he rfl).1)).trans I.free,fun x c q=>(up _ ((I.fieldsNot he rfl).2 x c q)).trans (I.freeC x c q),fun q hq=>?_,fun b u q=>?_,I.len⟩
 ·have z:=I.base.tups b xs q; exact (up b (ne b _ z)).trans z
 ·have z:=I.base.frzs b ob u q; exact (up b (ne b _ z)).trans z
 ·obtain ⟨m,z⟩:=I.base.tbls b ps q0 q; exact ⟨m,(up b (ne b _ z)).trans z⟩
 ·obtain ⟨a1,a2,a3⟩:=I.pin q hq; exact ⟨a1,(up _ (o.pin q hq)).trans a2,a3⟩
 ·by_cases hb:b=e
  ·subst hb
   have:u = .ext (gc b cls dx):=by simp [upd] at q; exact q.symm
   subst this
   exact ⟨⟨vs,sl,he⟩,⟨_,he⟩,fun h1 h2 ⟨vs',sl',q'⟩ k=>⟨vs',sl',k _ q'⟩⟩
  ·rw [up b hb] at q
   exact (I.hok b u q).stay (fun _ _ _ z=>z) (fun c z=>(up c (ne c _ z)).trans z) (fun c xs z=>(up c (ne c _ z)).trans z) fun c ob u z=>(up c (ne c _ z)).trans z
theorem gi {M:Model} {A:Around} {t:Addr} {Q:Unit→Shared→Prop} (F:FlyO s.heap e cls dx (some t))
 (h:∀ h',FlyO h' e cls dx (some t)→(∀ b o,b≠t→s.heap.get? b=some o→h'.get? b=some o)→Q () { s with heap:=h' }):wpAny M A (setFlight (.ref e) none) Q E s:=by
 obtain ⟨⟨vs,sl,he,h1,h2⟩,tb⟩:=F
 obtain ⟨hte,o,ts,ht,hd,h3⟩:=tb t rfl
 unfold setFlight
 refine wpAny_bind (wpAny_field he rfl h1 ?_)
 show wpAny M A (if (Value.ref t != Value.none)=true then _ else _) _ _ _
 rw [if_pos (show (Value.ref t != Value.none)=true from by simp)]
 refine wpAny_setField ht hd (Array.getElem?_eq_some_iff.mp h3).1 ?_
 have hsz : 3<ts.size:=(Array.getElem?_eq_some_iff.mp h3).1
 refine h _ ⟨⟨vs,sl,(Heap.get?_update_other _ _ hte).trans he,h1,h2⟩,fun t' z=>?_⟩ fun b ob hb q=>(Heap.get?_update_other _ _ (Ne.symm hb)).trans q
 cases z
 refine ⟨hte,_,_,Heap.get?_update_self _ ht (Obj.isFreed_of_fields (Obj.data_mapFields hd _)),Obj.data_mapFields hd _,?_⟩
 show (ts.setIfInBounds 3 ((none:Option Addr).elim Value.none fun f=>rawInt f))[3]? = _
 simp [hsz]
theorem Inv.goes {h':Heap} {m:Str→Option Value} {w:Option Value} {n:Str} {i t':Nat} (I:Inv X pins σ H s) (hN:X.N.Nodup) (hi:X.N[i]? = some n)
 (hl:∀ (i:Nat) (x:Str) (v:V),X.N[i]? = some x→σ[i]? = some (some v)→Vis X.env.scope x→∃ u,aX v u∧Look X.env s.heap m x u) (hn:s.heap.Ns X.env.locals m)
 (hn':h'.Ns X.env.locals (fun x=>if x=n then w else m x)) (hs:Heap.SameBut X.env.locals s.heap h'):Inv X pins (σ.set i none) H { s with heap:=h',toks:=t' }:=by
 have oth:∀ b o,X.s₀.heap.get? b=some o→b≠X.env.locals:=fun b o e=>Nat.ne_of_lt (Nat.lt_of_lt_of_le (Heap.lt_size e) I.ok.above)
 refine ⟨I.ok,I.os,I.bare,⟨fun b o e n hb hx=>(hs.2 b (oth b o e)).trans (I.base.keep b o e n hb hx),fun b o e n hb hx=>?_,I.base.free,fun b o e hx=>?_,I.base.tups,I.base.frzs,I.base.tbls⟩,⟨_,hn',fun j y v' e1 e2 e3=>?_⟩,fun y c e=>?_,I.free,I.freeC,fun q hq=>?_,fun b u q=>?_,by simpa using I.len⟩
 ·obtain ⟨sl,e1⟩:=I.base.slot b o e n hb hx
  exact ⟨sl,(hs.2 b (oth b o e)).trans e1⟩
 ·obtain ⟨o',e1⟩:=I.base.there b o e hx
  exact ⟨o',(hs.2 b (oth b o e)).trans e1⟩
 ·by_cases hj:j=i
  ·subst hj
   have:j<σ.length:=by rw [I.len]; exact (List.getElem?_eq_some_iff.mp hi).1
   rw [List.getElem?_set_self this] at e2; cases e2
  ·rw [List.getElem?_set_ne (Ne.symm hj)] at e2
   obtain ⟨u',r',q⟩:=hl j y v' e1 e2 e3
   refine ⟨u',r',?_⟩
   rcases q with ⟨k,e⟩ | ⟨k,c,e,z⟩
   ·refine .inl ⟨k,?_⟩
    have:y≠n:=fun e=>hj (fZ hN e1 (e ▸ hi))
    simp [this,e]
   ·exact .inr ⟨k,c,e,z.sameBut hs (I.cne y c e)⟩
 ·obtain ⟨w',z⟩:=I.cell y c e
  exact ⟨w',z.sameBut hs (I.cne y c e)⟩
 ·obtain ⟨e,n,ne,nf,d⟩:=I.pin q hq
  exact ⟨(hs.2 q.1 ne).trans e,n,ne,nf,d⟩
 ·refine (I.hok b u q).stay (fun c w' hc z=>(hs.2 c ?_).trans z) (fun _ z=>z) (fun _ _ z=>z) fun _ _ _ z=>z
  rintro rfl
  rcases hc with rfl | hc
  ·rw [I.free] at q; cases q
  ·rw [I.free] at hc; cases hc
theorem f_ {M:Model} {A:Around} {C D0:Addr} {bm bmD:List Value} {ini iniD:Option Value} {oe:Obj} {Q:Bool→Shared→Prop} (hC:f6 s.heap C bm ini) (hD:f6 s.heap D0 bmD iniD) (he:s.heap.get? e=some oe) (hcls:oe.cls = .ref C)
 (hq:Q ((Value.ref C :: bm).contains (.ref D0)) s):wpAny M A (excMatches (.ref e) (.ref D0)) Q E s:=by
 obtain ⟨N,nm,q,bs,hdct,sn,sub,ab,col,dd,k0,k1,k2,k3,k5,mN,hC,hN,hni,T⟩:=hC
 obtain ⟨N',nm',q',bs',hdct',sn',sub',ab',col',dd',k0',k1',k2',k3',k5',mN',hD,hN',hni',T'⟩:=hD
 obtain ⟨h,g,d,t,os⟩:=s
 have hbD:(Value.ref D0 :: bmD).contains (.type "BaseException")=true:=by rw [List.contains_cons,bX T',Bool.or_true]
 have f:=tc_notTuple
 generalize hb:(Value.ref C :: bm).contains (.ref D0)=b at hq
 unfold excMatches
 repeat (first | (with_reducible refine wpAny_loadPart_at he ?_; rw [hcls]) | with_reducible refine wpAny_loadPart_at hD ?_ | (with_reducible refine wpAny_isSubtype_exc hD ?_; rw [hbD]) | (with_reducible refine wpAny_isSubtype_exc hC ?_; rw [hb]) | wp_step)
 cases b <;> (wp_walk; exact hq)
theorem pI {A:Around} {D:Ends} {n:Str} {i:Nat} {f:Flow} {s':Shared} {npos:Pos} (ok:X.Ok) (hN:X.N.Nodup) (hi:X.N[i]? = some n) (hl:X.env.kindOf n=some .local) (h:SP (X.hand v) pins (D.unb i) f s') :
 wpAny (model X.prog X.w) A (do bindName X.env n .none; unbindBehindTheSuite X.env n npos) (fun _ s5=>SP X pins D f s5) E s':=by
 have hcls:(X.env.scope.kind == .class||(X.env.scope.kind == .module&&X.env.locals != X.env.globals))=false:=by rw [ok.kind]; rfl
 have main:∀ σ' H',Inv (X.hand v) pins σ' H' s'→(∀ s5,Inv X pins (σ'.set i none) H' s5→SP X pins D f s5)→wpAny (model X.prog X.w) A (do bindName X.env n .none; unbindBehindTheSuite X.env n npos) (fun _ s5=>SP X pins D f s5) E s':=fun σ' H' J k=>by
  have J:=J.unhand ok
  obtain ⟨m,hn,hll⟩:=id J.loc
  exact wpAny_nameGoes_keeps hl hn hcls fun h' w hn' hs=>k _ (J.goes hN hi hll hn hn' hs)
 cases f with
 | next=>obtain ⟨σ',H',J,q⟩:=h; exact main σ' H' J fun s5 J5=>⟨_,H',J5,q⟩
 | brk=>obtain ⟨σ',H',J,q⟩:=h; exact main σ' H' J fun s5 J5=>⟨_,H',J5,q⟩
 | cont=>obtain ⟨σ',H',J,q⟩:=h; exact main σ' H' J fun s5 J5=>⟨_,H',J5,q⟩
 | ret u=>obtain ⟨v',σ',H',J,r,q⟩:=h; exact main σ' H' J fun s5 J5=>⟨v',_,H',J5,r,q⟩
variable {x n:Str} {i:Nat} {C D0:Addr} {bm bmD:List Value} {ini iniD:Option Value} {b0:Stmt} {suite:List Stmt} {np npos:Pos} {ts:TS} {D:Ends} {t:Addr}
theorem k9 (hN:X.N.Nodup) (hi:X.N[i]? = some n) (hl:X.env.kindOf n=some .local) (hg:Gl X x) (hm:X.mg x=some (.ref D0)) (hD:bh X.K D0 bmD iniD=true) (hC:bh X.K C bm ini=true)
 (hsub:(Value.ref C :: bm).contains (.ref D0)=true) (hs:PSs (X.hand (.ref e)) (b0 :: suite) ts) (I:Inv X pins σ H s) (F:FlyO s.heap e (.ref C) dx (some t)) (oe:Out X pins H e) (ot:Out X pins H t) (ht:X.s₀.heap.objs.size≤t)
 (q:ts (D.unb i) (σ.set i (some (.ref e))) (upd H e (.ext (gc e (.ref C) dx)))) (hdb:(x == ("__debug__":Str))=false:=by decide) :
 wpAny (model X.prog X.w) X.A (handleBy (.ref e) X.env [.ExceptHandler (some (.Name x np)) (some n) (b0 :: suite) npos]) (SP X pins D) X.xe s:=by
 refine wpAny_handleBy_cons (codeAny_handlers_test (b3 (X:=X.hand (.ref e)) I.hand hg hm ?_ hdb)) (by intro q; cases q)
 obtain ⟨⟨vs,sl,he,h1⟩,tb⟩:=id F
 refine f_ (bF I.kIn hC) (bF I.kIn hD) he rfl ?_
 rw [hsub]
 refine codeAny_handlers_suite_as (gi F fun h' F' k=>?_)
 obtain ⟨hte,o',ts',ht',hd',_⟩:=tb t rfl
 have I2:Inv X pins σ H { s with heap:=h' }:=I.turned (t':=s.toks) k ot.unt (I.fieldsNot ht' hd').1 (.inr ht) (I.fieldsNot ht' hd').2 ot.pin
 obtain ⟨vs2,sl2,he2,_⟩:=F'.ex
 have I3:=I2.track he2 oe
 refine b7 (X:=X.hand (.ref e)) I3.hand hN hi (.inl hl) (v:=.ref e) rfl (fun s3 I4=>?_) (.inr hl)
 refine wpAny_mono (hs pins s3 _ _ _ I4 q) (fun f s4 h4=>?_) fun _ _ z=>False.elim z
 exact pI I.ok hN hi hl h4
def tTry (i:Nat) (okc:Value→Prop) (tb:XS→TS) (ts:Addr→TS):TS:=fun D σ H=>tb (fun σ' cls dx H'=>okc cls∧∀ ea,H' ea=none→ts ea (D.unb i) (σ'.set i (some (.ref ea))) (upd H' ea (.ext (gc ea cls dx)))) D σ H
def iL (K:PySem.W.Frag) (D0:Addr) (cls:Value):Prop:=∃ C bm ini,cls = .ref C∧bh K C bm ini=true∧(Value.ref C :: bm).contains (.ref D0)=true
theorem rJ {body:List Stmt} {pos:Pos} {tb:XS→TS} {ts:Addr→TS} (hst:X.stack=X.env :: X.outer) (hf:X.env.frame=some X.env.locals) (hN:X.N.Nodup) (hi:X.N[i]? = some n) (hl:X.env.kindOf n=some .local) (hg:Gl X x) (hm:X.mg x=some (.ref D0)) (hD:bh X.K D0 bmD iniD=true)
 (hb:∀ E p xk,jk X E→Acc (X.tr E p) xk→PSs (X.tr E p) body (tb xk)) (hs:∀ ea,PSs (X.hand (.ref ea)) (b0 :: suite) (ts ea)) (hdb:(x == ("__debug__":Str))=false:=by decide) :
 PS X (.Try body [.ExceptHandler (some (.Name x np)) (some n) (b0 :: suite) npos] [] [] pos) (tTry i (iL X.K D0) tb ts):=by
 refine ⟨fun pins s σ H D I h=>?_⟩
 refine wpAny_Try_except ?_
 have ac:Acc (X.tr (fun e s₁=>wpAny (model X.prog X.w) X.A (noteFrame e X.env) (fun _ s₂=>wpAny (model X.prog X.w) X.A (setFlight e none) (fun _ s₃ =>
  wpAny (model X.prog X.w) X.A (handleBy e X.env [.ExceptHandler (some (.Name x np)) (some n) (b0 :: suite) npos]) (SP X pins D) X.xe s₃) X.xe s₂) X.xe s₁) pins)
  (fun σ' cls dx H'=>iL X.K D0 cls∧∀ ea,H' ea=none→ts ea (D.unb i) (σ'.set i (some (.ref ea))) (upd H' ea (.ext (gc ea cls dx)))):=by
  refine ⟨fun pins' σ' H' s' ea cls dx J fl ⟨⟨C,bm,ini,hc,hC,hsub⟩,hk⟩=>?_⟩
  subst hc
  obtain ⟨T,flo,oe,ot⟩:=fl.go
  have J:=J.untr.drop
  have oe:Out X pins H' ea:=⟨oe.new,oe.unt,fun q hq=>oe.pin q (List.mem_append_left _ hq)⟩
  have ot:∀ t,T=some t→Out X pins H' t:=fun t z=>⟨(ot t z).new,(ot t z).unt,fun q hq=>(ot t z).pin q (List.mem_append_left _ hq)⟩
  show wpAny _ _ (noteFrame (.ref ea) X.env) _ _ s'
  refine gf (base:=X.base) (outer:=X.outer) (L:=X.env.locals) (T:=T) (by rw [← hst]; exact J.ok.frames) (by rw [← hst]; exact J.stack) hf flo fun h' hs' t' ht fl' kb there=>?_
  obtain ⟨J2,fl2⟩:=J.noted hst flo oe ot hs' ht fl' kb there
  have hsz:X.s₀.heap.objs.size≤t':=Nat.le_trans J.sz ht
  exact k9 hN hi hl hg hm hD hC hsub (hs _) J2 fl' oe ⟨Heap.get?_none_of_le hsz,J.hok.fresh ht,J.pinNo (Heap.get?_none_of_le ht)⟩ hsz (hk ea oe.unt) hdb
 refine wpAny_mono (hb _ pins _ ⟨PassesOwn.looking,fun _=>PassesOwnAt.looking⟩ ac [] s σ H D (Inv.tr (by simpa using I)) h) (fun f s' q=>?_) fun e s' q=>q
 have q:=q.untr
 rw [List.append_nil] at q
 cases f with
 | next=>exact wpAny_execs_nil q
 | ret v=>exact q
 | brk=>exact q
 | cont=>exact q
end
theorem jY {C:Ctx} {ow:List Bool} {G:Hp} {ρ:DSt} {σ:St} {H:Hp} {pd T:List (D×V)} {ks:List AK} {ds ds':List D} {vs:List V}
 (hn:C.np≤pd.length) (r:R C ow G ρ σ H (T.reverse++pd)) (ha:eT G σ ks ds vs T) (hf:cf ks ds ρ=some ds') (nd:(aw ks).Nodup) (hw:∀ i∈aw ks,ow[i]? = some true) :
 ∃ C':Ctx,C'.np=0∧C'.mu=msV (ks.map AK.isM) vs∧R C' (ks.map AK.isM) G (ds'.map some) (vs.map some) H []∧(ks.map AK.isM).length=ds'.length ∧
  ∀ (fr:Bool) d ρ2 σ2 v G2 H2,aD G G2→ρ2.length=(ks.map AK.isM).length→Ret fr C' (ks.map AK.isM) G2 ρ2 σ2 H2 d v→Kp ow ρ (dF ks (mus (ks.map AK.isM) ρ2) ρ) ∧
   (if fr=true then R C ow G2 (dF ks (mus (ks.map AK.isM) ρ2) ρ) σ H2 ((d,v) :: pd) else R C ow G2 (dF ks (mus (ks.map AK.isM) ρ2) ρ) σ H2 pd∧Rep G2 d v):=by
 obtain ⟨O,ro⟩:=r
 have pn:=ro.pn
 obtain ⟨l1,l2,hat⟩:=eJ (O:=O) (H:=H) (r:=pd.length) ha hf (fun j x e=>fD pn e) (fun i hi d e=>by
  obtain ⟨v,h1,h2⟩:=ro.sl i d e; rw [if_pos (hw i hi)] at h2; exact ⟨v,h1,h2⟩)
 let lb:=lbs ks pd.length
 let fin:Nat→Option Nat:=fun l=>(fnd l lb 0).map (2 * ·)
 let fbk:Nat→Option Nat:=fun l=>if l=1 then some (2 * pd.length + 1) else if l % 2=0 then (match lb[l / 2]? with | some o=>o | none=>none) else none
 have uq:=dM (ks:=ks) (r:=pd.length) nd
 have fin_at:∀ (i l:Nat),lb[i]? = some (some l)→fin l=some (2 * i):=fun i l e=>by
  show (fnd l lb 0).map _=_
  rw [jO uq e]; simp
 have fin_of:∀ l l',fin l=some l'→∃ i,l'=2 * i∧lb[i]? = some (some l):=fun l l' e=>by
  change (fnd l lb 0).map _=_ at e
  cases z:fnd l lb 0 with
  | none=>rw [z] at e; cases e
  | some j=>rw [z] at e; cases e; obtain ⟨i,rfl,e2⟩:=jG z; exact ⟨i,by show 2 * (0 + i)=2 * i; omega,e2⟩
 have fin_none:∀ l,(∀ i:Nat,lb[i]?≠some (some l))→fin l=none:=fun l e=>by
  show (fnd l lb 0).map _=_
  rw [gb e]; rfl
 have ri:=ro.into (mu:=ks.map AK.isM) (fin:=fin) (ds:=ds') (vs:=vs) l1 (fun j d e=>by
  obtain ⟨v,h1,h2⟩:=hat j d e
  refine ⟨v,h1,?_⟩
  rcases h2 with ⟨l,h2,h3,h4⟩ | ⟨h2,h3⟩
  ·rw [if_pos h3]; exact ⟨l,h4,fin_at j l h2⟩
  ·rw [if_neg (by rw [h2]; decide)]; exact h3) (fun l l' e=>by
  obtain ⟨i,rfl,e2⟩:=fin_of l l' e
  exact ⟨i,rfl,di e2,by have:=(List.getElem?_eq_some_iff.mp (di e2)).1; rw [List.length_map] at this; omega⟩)
 refine ⟨_,rfl,rfl,⟨_,ri⟩,by rw [List.length_map,l1,l2],?_⟩
 intro fr d ρ2 σ2 v G2 H2 z hl hr
 rw [List.length_map] at hl
 rw [eK hl]
 have out:∀ (pd2 pd3:List (D×V)) (O2:Own),RO ⟨G,H,bQ fin O,msV (ks.map AK.isM) vs,0⟩ (ks.map AK.isM) G2 ρ2 σ2 H2 pd2 O2→C.np≤pd3.length →
  (∀ (O3:Own),(∀ a l π,O a=some (l,π)→fin l=none→O3 a=some (l,π)∧H2 a=H a)→(∀ a l l' π,O2 a=some (l',π)→fbk l'=some l→O3 a=some (l,π))→bR G G2→bK G2 H2 O3 pd3) →
  RO C ow G2 (bG ks ρ2 ρ) σ H2 pd3 (jB fin fbk O O2):=fun pd2 pd3 O2 r2 hn3 hP=>by
  refine ro.out (vs:=vs) r2 ?_ (by rw [dE]; exact ro.len) hn3 ?_ ?_ hP
  ·intro l0 l' l e1 e2
   obtain ⟨i,rfl,e3⟩:=fin_of l0 l' e1
   change (if 2 * i=1 then _ else if 2 * i % 2=0 then _ else _)=_ at e2
   rw [if_neg (by omega),if_pos (by omega),show 2 * i / 2=i by omega,e3] at e2
   exact (Option.some.inj e2).symm
  ·intro i d c e
   rcases dn e hl with ⟨_,h2⟩ | ⟨k,h1,_⟩
   ·exact h2
   ·exact absurd (hw i (kY h1)) c
  ·intro i d c e
   rcases dn e hl with ⟨h1,h2⟩ | ⟨j,h1,h2⟩
   ·refine .inl ⟨fin_none _ fun j e=>?_,h2⟩
    rcases bN e with ⟨z,h3,h4⟩ | ⟨z,h3,h4⟩
    ·exact h1 (by rw [show i=z by omega]; exact h3)
    ·omega
   ·obtain ⟨u,g1,g2⟩:=c_ ha h1
    have im:(ks.map AK.isM)[j]? = some true:=by rw [List.getElem?_map,h1]; rfl
    refine .inr ⟨j,u,?_,im,h2,g2,r2.mp j u (iR im g1)⟩
    show (if 2 * j=1 then _ else if 2 * j % 2=0 then _ else _)=_
    rw [if_neg (by omega),if_pos (by omega),show 2 * j / 2=j by omega,i6 h1]
 have pdk:∀ (O3:Own),(∀ a l π,O a=some (l,π)→fin l=none→O3 a=some (l,π)∧H2 a=H a)→bR G G2→bK G2 H2 O3 pd:=fun O3 h1 ts =>
  bK.keep ts (fun a j π hj e=>h1 a _ _ e (fin_none _ fun i e=>by
   rcases bN e with ⟨z,h3,h4⟩ | ⟨z,h3,h4⟩ <;> omega)) (cV (T:=T.reverse) pn)
 have kp:Kp ow ρ (bG ks ρ2 ρ):=fun j hj=>dN fun hs=>hj (hw j hs)
 refine ⟨kp,?_⟩
 unfold Ret at hr
 split at hr
 ·rename_i c
  rw [if_pos c]
  obtain ⟨O2,r2⟩:=hr
  refine ⟨_,out _ ((d,v) :: pd) O2 r2 (Nat.le_succ_of_le hn) fun O3 h1 h2 ts=>⟨?_,pdk O3 h1 ts⟩⟩
  exact r2.pn.1.keep (fun _ _ z=>z) fun a τ e=>⟨h2 a _ _ _ e (by show (if 2 * 0 + 1=1 then _ else _)=_; rw [if_pos rfl]),rfl⟩
 ·rename_i c
  rw [if_neg c]
  obtain ⟨⟨O2,r2⟩,p⟩:=hr
  exact ⟨⟨_,out _ pd O2 r2 hn fun O3 h1 h2 ts=>pdk O3 h1 ts⟩,p⟩
def jf (H:Hp) (ns:List Str) (ds:List D):Option Addr→Prop
 | none=>ns=[]∧ds=[]
 | some d=>∃ xs,H d=some (.xd (ns.zip xs))∧xs.length=ns.length∧Reps H ds xs
theorem jf.mono {H H':Hp} {ns:List Str} {ds:List D} {dx:Option Addr} (s:aD H H') (h:jf H ns ds dx):jf H' ns ds dx:=by
 cases dx with
 | none=>exact h
 | some d=>obtain ⟨xs,h1,h2,h3⟩:=h; exact ⟨xs,s _ _ h1,h2,Reps.mono s _ _ h3⟩
abbrev XD:=Addr→List Str→List D→DSt→Prop
abbrev SpX:=List D→(D→DSt→Prop)→XD→Prop
def cZ (mu:List Bool) (fr:Bool) (sd:SpX):Sp:=fun vs H Q E=>∃ (C:Ctx) (G:Hp) (ds:List D) (q:D→DSt→Prop) (qx:XD),C.np=0∧C.mu=msV mu vs∧R C mu G (ds.map some) (vs.map some) H []∧sd ds q qx∧mu.length=ds.length ∧
 (∀ d ρ' σ' v G' H',q d (mus mu ρ')→aD G G'→ρ'.length=mu.length→Ret fr C mu G' ρ' σ' H' d v→Q v H') ∧
 (∀ c ns es ρ' σ' dx G' H',qx c ns es (mus mu ρ')→aD G G'→ρ'.length=mu.length→R C mu G' ρ' σ' H' []→jf G' ns es dx→E (.ref c) dx H')
theorem ld {C:Ctx} {ow:List Bool} {G:Hp} {ρ:DSt} {σ:St} {H:Hp} {pd T:List (D×V)} {ks:List AK} {ds ds':List D} {vs:List V} {fr:Bool} {sd:SpX} {q:D→DSt→Prop} {qx:XD} {Q:VK} {E:XK}
 (hn:C.np≤pd.length) (r:R C ow G ρ σ H (T.reverse++pd)) (ha:eT G σ ks ds vs T) (hf:cf ks ds ρ=some ds') (nd:(aw ks).Nodup) (hw:∀ i∈aw ks,ow[i]? = some true)
 (h:sd ds' (fun d os=>q d (dF ks os ρ)) fun c ns es os=>qx c ns es (dF ks os ρ))
 (k:∀ d ρ' v G' H',q d ρ'→aD G G'→Kp ow ρ ρ'→(if fr=true then R C ow G' ρ' σ H' ((d,v) :: pd) else R C ow G' ρ' σ H' pd∧Rep G' d v)→Q v H')
 (kx:∀ c ns es ρ' dx G' H',qx c ns es ρ'→aD G G'→Kp ow ρ ρ'→R C ow G' ρ' σ H' pd→jf G' ns es dx→E (.ref c) dx H'):cZ (ks.map AK.isM) fr sd vs H Q E:=by
 obtain ⟨C',h1,h2,h3,h4,h5⟩:=jY hn r ha hf nd hw
 refine ⟨C',G,ds',_,_,h1,h2,h3,h,h4,fun d ρ' σ' v G' H' hq z hl hr=>?_,fun c ns es ρ' σ' dx G' H' hq z hl hr hx=>?_⟩
 ·obtain ⟨kp,hr⟩:=h5 fr d ρ' σ' v G' H' z hl hr
  exact k d _ v G' H' hq z kp hr
 ·obtain ⟨kp,hr⟩:=h5 false .non ρ' σ' .non G' H' z hl (by unfold Ret; rw [if_neg (by decide)]; exact ⟨hr,fL⟩)
  rw [if_neg (by decide)] at hr
  exact kx c ns es _ dx G' H' hq z kp hr.1 hx
section
variable {X:Cx} {E:Value→Shared→Prop} {p:List (Addr×Obj)}
theorem e6.tr {pins:List (Addr×Obj)} {H:Hp} {b:Addr} (h:e6 X (p++pins) H b):e6 (X.tr E p) pins H b:=⟨h.1,h.2.1,h.2.2.1,h.2.2.2.1,h.2.2.2.2.1,fun q hq=>h.2.2.2.2.2 q (by simpa using hq)⟩
theorem PI.any {tg iter:Expr} {wi:TI} (h:PI X.nox tg iter wi):PI (X.tr E p) tg iter wi:=⟨fun pins s σ H R I hw =>
 wpAny_mono (h (p++pins) s σ H R (I.untr.wish _) hw) (fun v s1 h1=>wpAny_mono h1 (fun u s2 ⟨it,fp,tn,J,H',e,I',T,t0,f,r⟩=>⟨it,fp,tn,J,H',e,(I'.unwish).tr,T,t0,fun b hb=>e6.tr (f b hb),r⟩) fun _ _ z=>False.elim z) fun _ _ z=>False.elim z⟩
theorem PG.any {tg:Expr} {t:TG} (h:PG X.nox tg t):PG (X.tr E p) tg t:=⟨fun pins s σ H v u Q I r hw =>
 wpAny_mono (h (p++pins) s σ H v u Q (I.untr.wish _) r hw) (fun _ s1 ⟨σ',H',I',q⟩=>⟨σ',H',(I'.unwish).tr,q⟩) fun _ _ z=>False.elim z⟩
end
structure KsX (C:Ctx) (ow:List Bool) (G:Hp) (pd:List (D×V)) (xx:XD) (xk:XS):Prop where
 go:∀ c ns es ρ σ dx G' H,xx c ns es ρ→aD G G'→R C ow G' ρ σ H pd→jf G' ns es dx→xk σ (.ref c) dx H
theorem KsX.mono {C:Ctx} {ow:List Bool} {G G1:Hp} {pd:List (D×V)} {xx:XD} {xk:XS} (h:KsX C ow G pd xx xk) (s:aD G G1):KsX C ow G1 pd xx xk:=⟨fun c ns es ρ σ dx G' H a b=>h.go c ns es ρ σ dx G' H a (s.trans b)⟩
abbrev MSX:=XD→MS
abbrev MEX:=XD→ME
def Good (X:Cx) (E:Value→Shared→Prop) (p:List (Addr×Obj)) (xk:XS):Prop:=jk X E∧Acc (X.tr E p) xk
def SSX (M:Md) (t:XS→TS) (m:MSX):Prop:=∀ (C:Ctx) (G:Hp) (ρ:DSt) (σ:St) (H:Hp) (n:EndsD) (D:Ends) (xx:XD) (xk:XS),fu C M.mu→C.np=0→R C M.ow G ρ σ H []→m xx n ρ→Ks C M.ow M.fr G n D→KsX C M.ow G [] xx xk→t xk D σ H
def SEX (ow:List Bool) (t:XS→TE) (m:MEX):Prop:=∀ (C:Ctx) (G:Hp) (ρ:DSt) (σ:St) (H:Hp) (pd:List (D×V)) (q:D→DSt→Prop) (Q:VK) (xx:XD) (xk:XS),R C ow G ρ σ H pd→m xx ρ q→KsX C ow G pd xx xk →
 (∀ d ρ' v G' H',q d ρ'→aD G G'→Kp ow ρ ρ'→R C ow G' ρ' σ H' pd→Rep G' d v→Q v H')→t xk σ H Q
structure QX (X:Cx) (M:Md) (st:Stmt) (m:MSX):Prop where
 ex:∃ t,(∀ E p xk,Good X E p xk→PS (X.tr E p) st (t xk))∧SSX M t m
structure QXs (X:Cx) (M:Md) (st:List Stmt) (m:MSX):Prop where
 ex:∃ t,(∀ E p xk,Good X E p xk→PSs (X.tr E p) st (t xk))∧SSX M t m
structure QXE (X:Cx) (ow:List Bool) (e:Expr) (m:MEX):Prop where
 ex:∃ t,(∀ E p xk,Good X E p xk→PE (X.tr E p) e (t xk))∧SEX ow t m
section
variable {X:Cx} {M:Md} {a b c e:Expr} {mt:MT} {pos pos':Pos} {st:Stmt} {rest:List Stmt} {m:MS} {m1 m2:MSX} {mex:MEX}
theorem jc (h:QS X.nox M st m):QX X M st (fun _=>m):=by
 obtain ⟨t,p,s⟩:=h
 exact ⟨fun _=>t,fun E q xk g=>PS.any p,fun C G ρ σ H n D xx xk hm hn r h k kx=>s C G ρ σ H n D hm hn r h k⟩
theorem bZ:QXs X M [] (fun _=>qK):=⟨fun _=>_,fun E q xk g=>kQ,fun C G ρ σ H n D xx xk hm hn r h k kx=>k.nx ρ σ G H h (aD.refl _) r⟩
theorem a8 (h:QX X M st m1):QXs X M [st] m1:=by obtain ⟨t,p,s⟩:=h; exact ⟨_,fun E q xk g=>ec (p E q xk g),s⟩
theorem a6 (h:QX X M st m1) (h2:QXs X M rest m2):QXs X M (st :: rest) (fun xx=>mSeq (m1 xx) (m2 xx)):=by
 obtain ⟨t,p,s⟩:=h; obtain ⟨t2,p2,s2⟩:=h2
 refine ⟨fun xk=>tSeq (t xk) (t2 xk),fun E q xk g=>cx (p E q xk g) (p2 E q xk g),fun C G ρ σ H n D xx xk hm hn r h k kx=>s C G ρ σ H _ _ xx xk hm hn r h ?_ kx⟩
 exact ⟨fun ρ' σ' G' H' h' z r'=>s2 C G' ρ' σ' H' n D xx xk hm hn r' h' (k.mono z) (kx.mono z),k.bk,k.ct,k.rt⟩
theorem eA {s1 s2:List Stmt} (h:QT X.nox M.ow c mt) (h1:QXs X M s1 m1) (h2:QXs X M s2 m2):QX X M (.If c s1 s2 pos) (fun xx=>mIfS mt (m1 xx) (m2 xx)):=by
 obtain ⟨t,p,s⟩:=h; obtain ⟨t1,p1,s1⟩:=h1; obtain ⟨t2,p2,s2⟩:=h2
 refine ⟨fun xk=>tIfS t (t1 xk) (t2 xk),fun E q xk g=>qE (PT.any p) (p1 E q xk g) (p2 E q xk g),fun C G ρ σ H n D xx xk hm hn r h k kx=>s C G ρ σ H [] _ _ r h fun b ρ' G' H' hq z kp r'=>?_⟩
 cases b with
 | true=>rw [if_pos rfl] at hq ⊢; exact s1 C G' ρ' σ H' n D xx xk hm hn r' hq (k.mono z) (kx.mono z)
 | false=>rw [if_neg (by decide)] at hq ⊢; exact s2 C G' ρ' σ H' n D xx xk hm hn r' hq (k.mono z) (kx.mono z)
theorem b4 (h:QXE X M.ow e mex) (hs:swapsWith e none pos.line X.env=pure false:=by rfl):QX X M (.Expr e pos) (fun xx=>q8 (mex xx)):=by
 obtain ⟨t,p,s⟩:=h
 exact ⟨fun xk=>qV (t xk),fun E q xk g=>cq (p E q xk g) hs,fun C G ρ σ H n D xx xk hm hn r h k kx=>s C G ρ σ H [] _ _ xx xk r h kx fun d ρ' v G' H' hq z kp r' p=>k.nx ρ' σ G' H' hq z r'⟩
variable {mg:MG}
theorem jM {mi:MA} {tg iter:Expr} {body:List Stmt} (hc:X.calm=true) (hi:QI X.nox M.ow tg iter mi) (hg:QG X.nox M tg mg) (hb:QXs X M body m1)
 (hs:∀ x,foldedSetIterable iter X.env x=pure x:=by intro _; rfl):QX X M (.For tg iter body [] pos) (fun xx=>mFor mi mg (m1 xx)):=by
 obtain ⟨ti,pi,si⟩:=hi; obtain ⟨tg',pg,sg⟩:=hg; obtain ⟨tb,pb,sb⟩:=hb
 refine ⟨fun xk=>tFor ti tg' (tb xk),fun E q xk g=>ol g.1.1 hc (PI.any pi) (PG.any pg) (pb E q xk g) hs,fun C G ρ σ H n D xx xk hm hn r h k kx=>si C G ρ σ H [] _ _ r h fun ds ρ0 G0 H0 J hq z0 kp r0 jo=>?_⟩
 obtain ⟨I,i0,turn,fin⟩:=hq
 refine ⟨fun i j σ' H'=>j=ds.length - i∧i≤ds.length∧∃ G' ρ',aD G0 G'∧R C M.ow G' ρ' σ' H' []∧I i ρ',⟨_,rfl,Nat.zero_le _,G0,ρ0,aD.refl _,r0,i0⟩,?_⟩
 rintro i j σ' H' ⟨rfl,hi,G',ρ',z,r',w⟩
 obtain ⟨st,go⟩:=jo C M.ow G' ρ' σ' H' [] i z r'
 by_cases hlt:i<ds.length
 ·obtain ⟨g1,g2⟩:=go ds[i] (List.getElem?_eq_getElem hlt)
  refine .inr ⟨g1,fun σ2 H2=>∃ G2 ρ2,aD G0 G2∧R C M.ow G2 ρ2 σ2 H2 []∧I (i + 1) ρ2,fun σ2 H2 h=>⟨ds.length - (i + 1),by omega,rfl,hlt,h⟩,fun x H1 hy=>?_⟩
  obtain ⟨G1,z1,r1,p1⟩:=g2 x H1 hy
  refine sg C G1 ρ' σ' H1 [] ds[i] x _ _ hm r1 p1 (turn i ds[i] ρ' (List.getElem?_eq_getElem hlt) w) fun ρ2 σ2 h2 r2=>?_
  refine sb C G1 ρ2 σ2 H1 _ _ xx xk hm hn r2 h2 ⟨?_,?_,?_,?_⟩ (kx.mono (z0.trans (z.trans z1)))
  ·intro ρ3 σ3 G3 H3 h3 z3 r3; exact ⟨G3,ρ3,z.trans (z1.trans z3),r3,h3⟩
  ·intro ρ3 σ3 G3 H3 h3 z3 r3; exact k.nx ρ3 σ3 G3 H3 h3 (z0.trans (z.trans (z1.trans z3))) r3
  ·intro ρ3 σ3 G3 H3 h3 z3 r3; exact ⟨G3,ρ3,z.trans (z1.trans z3),r3,h3⟩
  ·intro d ρ3 σ3 v G3 H3 h3 z3 r3; exact k.rt d ρ3 σ3 v G3 H3 h3 (z0.trans (z.trans (z1.trans z3))) r3
 ·have e:i=ds.length:=by omega
  subst e
  exact .inl ⟨st (Nat.le_refl _),k.nx ρ' σ' G' H' (fin ρ' w) (z0.trans z) r'⟩
variable {es:List Expr} {ks:List AK} {mr:MA} {x:Str} {p':Pos} {ow:List Bool}
def nY (ks:List AK) (sd:SpX) (m:MA):MEX:=fun xx ρ q=>m ρ fun ds ρ1=>match cf ks ds ρ1 with
 | some ds'=>sd ds' (fun d os=>q d (dF ks os ρ1)) fun c ns es os=>xx c ns es (dF ks os ρ1)
 | none=>False
end
section
variable {X:Cx} {M:Md} {e:Expr} {es:List Expr} {ks:List AK} {mr:MA} {x:Str} {pos p':Pos} {ow:List Bool} {mu:List Bool} {k:Nat} {f:Addr} {fd:FuncData} {ps:List Str} {sd:SpX}
theorem mJ (F:FnOk X.prog X.w X.K X.mg X.base (CX1 X.prog X.w) k f fd ps (cZ mu false sd)) (hr:Room k X.A) (hg:Gl X x) (hm:X.mg x=some (.ref f)) (hk:PySem.W.keepIn X.K (.ref f)=true) (hb:bS X.K fd ps [])
 (ha:QAk X.nox ow ks (e :: es) mr) (hex:X.ex=[]:=by rfl) (hmu:mu=ks.map AK.isM:=by rfl) (nd:(aw ks).Nodup:=by decide) (hw:∀ i∈aw ks,ow[i]? = some true:=by decide) (hdb:(x == ("__debug__":Str))=false:=by decide)
 (he:starEach (e :: es) X.env=(false,eval e X.env) :: starEach es X.env:=by rfl) (hpl:(backTo pos (starEach es X.env)).any (·.1)=false:=by rfl):QXE X ow (.Call (.Name x p') (e :: es) [] pos) (nY ks sd mr):=by
 obtain ⟨t,p,s⟩:=ha
 subst hmu
 refine ⟨fun xk=>n4 xk (cZ (ks.map AK.isM) false sd) t,fun E q xk g=>nO (X:=X.tr E q) hex g.2 F hr hg hm hk hb (PA.any p) hdb he hpl,fun C G ρ σ H pd q Q xx xk r hm kx k=>s C G ρ σ H pd _ _ r hm fun ds ρ' vs T G' H' hq z kp r' p=>?_⟩
 split at hq
 ·rename_i ds' ef
  exact ld (fr:=false) r.np r' p ef nd hw hq (fun d ρ2 v G2 H2 hq2 z2 kp2 h2=>by
   rw [if_neg (by decide)] at h2
   exact k d ρ2 v G2 H2 hq2 (z.trans z2) (kp.trans kp2) h2.1 h2.2) fun c ns es ρ2 dx G2 H2 hq2 z2 kp2 r2 x2=>kx.go c ns es ρ2 σ dx G2 H2 hq2 (z.trans z2) r2 x2
 ·exact hq.elim
def qw (c:Addr) (m:MA):MSX:=fun xx _ ρ=>m ρ fun _ ρ1=>xx c [] [] ρ1
theorem lf {C:Addr} {bm:List Value} {np cpos:Pos} (hc:bh X.K C bm none=true) (hg:Gl X x) (hm:X.mg x=some (.ref C)) (ha:QA X.nox M.ow (e :: es) mr) (hcalm:X.calm=true:=by rfl) (hex:X.ex=[]:=by rfl)
 (hdb:(x == ("__debug__":Str))=false:=by decide) (he:starEach (e :: es) X.env=(false,eval e X.env) :: starEach es X.env:=by rfl) (hpl:(backTo cpos (starEach es X.env)).any (·.1)=false:=by rfl) (hsz:(e :: es).length≤sizeLine:=by simp [sizeLine]) :
 QX X M (.Raise (some (.Call (.Name x np) (e :: es) [] cpos)) none pos) (qw C mr):=by
 obtain ⟨t,p,s⟩:=ha
 refine ⟨fun xk=>ki xk C t,fun E q xk g=>k8 (X:=X.tr E q) hex hcalm g.2 hc hg hm (PA.any p) hdb he hpl,fun C' G ρ σ H n D xx xk hm hn r h k kx=>s C' G ρ σ H [] _ _ r h fun ds ρ' vs G' H' hq z kp r' p' hl=>⟨by rw [hl]; exact hsz,?_⟩⟩
 exact kx.go C [] [] ρ' σ none G' H' hq z r' ⟨rfl,rfl⟩
end
theorem Fun.okX {P:Program} {w:World} {K:PySem.W.Frag} {mg:Str→Option Value} {base:Heap} {x qual:Str} {st:Stmt} {f:Addr} {fd:FuncData} {N ps:List Str} {k:Nat} {sp:Sp} (F:Fun K x qual st f fd) (S:FnScope N ps (ag st)) (len:∀ vs H Q E,sp vs H Q E→vs.length=ps.length)
 (hbody:∀ (cdv:Value) (A:Around) (outer:List Env) (s:Shared) (H:Hp) (vs:List V) (Q:VK) (E:XK),Room k (A.deeper (envOfC qual (ag st) s.heap.objs.size f cdv))→sp vs H Q E →
  ∃ t,PSs (gt (CX1 P w) P w K mg base N qual (ag st) f cdv A outer s H E) (bI st) t∧t { nx:=fun _ H'=>Q .non H',rt:=Q } (cw N vs) H):FnOk P w K mg base (CX1 P w) (k + 1) f fd ps sp:=by
 obtain ⟨oc,od,kV,doc,pm,an,cdv,ct,osl,rfl,lk,hcd⟩:=F.ex
 exact qL lk hcd S len fun A outer s H vs Q E hr hsp=>hbody cdv A outer s H vs Q E hr hsp
theorem fnX {P:Program} {w:World} {K:PySem.W.Frag} {mg:Str→Option Value} {base:Heap} {x qual:Str} {st:Stmt} {f:Addr} {fd:FuncData} {N ps:List Str} {k:Nat} (F:Fun K x qual st f fd) (S:FnScope N ps (ag st)) (M:Md) (sd:SpX)
 (hl:∀ ds q qx,sd ds q qx→ds.length=ps.length) (ho:M.ow.take ps.length=M.mu) (hml:M.mu.length=ps.length)
 (hbody:∀ (cdv:Value) (A:Around) (outer:List Env) (s:Shared) (H:Hp) (E:XK),Room k (A.deeper (envOfC qual (ag st) s.heap.objs.size f cdv)) →
  ∃ m,QXs (gt (CX1 P w) P w K mg base N qual (ag st) f cdv A outer s H E) M (bI st) m∧∀ ds q qx,sd ds q qx→m (fun c ns es ρ=>qx c ns es (mus M.mu ρ)) (gj M.mu q) (ds.map some++List.replicate (N.length - ps.length) none)) :
 FnOk P w K mg base (CX1 P w) (k + 1) f fd ps (cZ M.mu M.fr sd):=by
 have hov:∀ i:Nat,i<M.mu.length→M.ow[i]? = M.mu[i]?:=fun i hi=>by rw [← ho,List.getElem?_take_of_lt (by omega)]
 have hlen:∀ vs H Q E,cZ M.mu M.fr sd vs H Q E→vs.length=ps.length:=fun vs H Q E ⟨C,G,ds,q,qx,_,_,⟨O,ro⟩,h1,_,_⟩=>by
  have:=ro.len; simp at this; rw [← this]; exact hl ds q qx h1
 refine F.okX S hlen fun cdv A outer s H vs Q E hr hsp=>?_
 obtain ⟨m,⟨t,p,ss⟩,hm⟩:=hbody cdv A outer s H E hr
 have hvl:=hlen vs H Q E hsp
 obtain ⟨C,G,ds,q,qx,hnp,hmu,⟨O,ro⟩,hsd,hml2,kk,kkx⟩:=hsp
 refine ⟨t (fun _=>E),p _ [] (fun _=>E) ⟨⟨PassesOwn.leaving,fun _=>PassesOwnAt.leaving⟩,sA⟩,?_⟩
 have hmo:fu C M.mu:=fun i v e=>by rw [hmu] at e; exact (iJ e).1
 have r0:R C M.ow G (ds.map some++List.replicate (N.length - ps.length) none) (cw N vs) H []:=by
  unfold cw; rw [hvl]
  exact ⟨O,ro.grow _ fun i hi=>hov i (by omega)⟩
 refine ss C G _ _ H (gj M.mu q) _ _ _ hmo hnp r0 (hm ds q qx hsd) ⟨?_,fun _ _ _ _ h=>h.elim,fun _ _ _ _ h=>h.elim,?_⟩ ⟨?_⟩
 ·intro ρ σ G' H' h z ⟨O',r'⟩
  refine kk .non (bJ M.mu.length ρ) (bJ M.mu.length σ) .non G' H' (by rw [bP]; exact h) z (bO _ _) (R.non ⟨O',r'.trim hmo hov⟩)
 ·intro d ρ σ v G' H' h z hr'
  refine kk d (bJ M.mu.length ρ) (bJ M.mu.length σ) v G' H' (by rw [bP]; exact h) z (bO _ _) ?_
  unfold Ret at hr' ⊢
  split at hr'
  ·rename_i c; rw [if_pos c]; obtain ⟨O',r'⟩:=hr'; exact ⟨O',r'.trim hmo hov⟩
  ·rename_i c; rw [if_neg c]; obtain ⟨⟨O',r'⟩,p⟩:=hr'; exact ⟨⟨O',r'.trim hmo hov⟩,p⟩
 ·intro c ns es ρ σ dx G' H' h z ⟨O',r'⟩ hx
  exact kkx c ns es (bJ M.mu.length ρ) (bJ M.mu.length σ) dx G' H' (by rw [bP]; exact h) z (bO _ _) ⟨O',r'.trim hmo hov⟩ hx
def j9 (c:Addr) (ns:List Str) (es:List D):D:=.ext fun H a=>∃ dx,H a=some (.ext (gc a (.ref c) dx))∧jf H ns es dx
def EndsD.unb (n:EndsD) (i:Nat):EndsD:={ nx:=fun ρ=>n.nx (ρ.set i none),rt:=fun d ρ=>n.rt d (ρ.set i none),bk:=fun ρ=>n.bk (ρ.set i none),ct:=fun ρ=>n.ct (ρ.set i none) }
theorem RO.gone {C:Ctx} {ow:List Bool} {G:Hp} {ρ:DSt} {σ:St} {H:Hp} {pd:List (D×V)} {O:Own} (h:RO C ow G ρ σ H pd O) (i:Nat) (hm:∀ v,C.mu[i]?≠some (some v)):RO C ow G (ρ.set i none) (σ.set i none) H pd O:=by
 refine ⟨by simpa using h.len,h.gh,h.g0,h.gn,h.og,h.cok,h.fr,h.ft,h.al,fun j v e=>?_,fun j d e=>?_,h.pn,h.np⟩
 ·have:i≠j:=fun z=>by subst z; exact hm v e
  rw [List.getElem?_set_ne this]; exact h.mp j v e
 ·have:i≠j:=fun z=>by
   subst z
   rw [List.getElem?_set] at e
   split at e
   ·split at e <;> cases e
   ·rename_i c; exact c rfl
  rw [List.getElem?_set_ne this] at e ⊢
  exact h.sl j d e
def mTry (i:Nat) (ok:Value→Prop) (mb:MSX) (ms:Value→MS):MSX:=fun _ n ρ=>mb (fun c ns es ρ'=>ok (.ref c)∧∀ v,ms v (n.unb i) (ρ'.set i (some (j9 c ns es)))) n ρ
theorem sE {X:Cx} {M:Md} {body:List Stmt} {b0:Stmt} {suite:List Stmt} {x n:Str} {i:Nat} {D0:Addr} {bmD:List Value} {iniD:Option Value} {np npos pos:Pos} {mb:MSX} {ms:Value→MS} (hN:X.N.Nodup) (hi:X.N[i]? = some n) (hl:X.env.kindOf n=some .local) (hg:Gl X x) (hm:X.mg x=some (.ref D0)) (hD:bh X.K D0 bmD iniD=true)
 (hb:QXs X M body mb) (hs:∀ v,QSs (X.hand v) M (b0 :: suite) (ms v)) (hst:X.stack=X.env :: X.outer:=by rfl) (hf:X.env.frame=some X.env.locals:=by rfl) (ho:M.ow[i]?≠some true:=by decide) (hu:M.mu[i]?≠some true:=by decide) (hdb:(x == ("__debug__":Str))=false:=by decide) :
 QX X M (.Try body [.ExceptHandler (some (.Name x np)) (some n) (b0 :: suite) npos] [] [] pos) (mTry i (iL X.K D0) mb ms):=by
 obtain ⟨tb,pb,sb⟩:=hb
 have hs':∀ ea:Addr,∃ t,PSs (X.hand (.ref ea)) (b0 :: suite) t∧SS M t (ms (.ref ea)):=fun ea=>(hs (.ref ea)).ex
 let ts:Addr→TS:=fun ea=>(hs' ea).choose
 have hts:∀ ea,PSs (X.hand (.ref ea)) (b0 :: suite) (ts ea)∧SS M (ts ea) (ms (.ref ea)):=fun ea=>(hs' ea).choose_spec
 refine ⟨fun _=>tTry i (iL X.K D0) tb ts,fun E q xk g=>rJ (X:=X.tr E q) hst hf hN hi hl hg hm hD (fun E' p' xk' h1 h2=>?_) (fun ea=>?_) hdb,fun C G ρ σ H n D xx xk hm hn r h k kx=>?_⟩
 ·have e:(X.tr E q).tr E' p'=X.tr E' (q++p'):=by
   show ({ X with xe:=E',pn:=(X.pn++q)++p' }:Cx) = { X with xe:=E',pn:=X.pn++(q++p') }
   rw [List.append_assoc]
  rw [e] at h2 ⊢
  exact pb E' (q++p') xk' ⟨h1,h2⟩
 ·refine ⟨fun pins s σ H D I hw=>?_⟩
  have I':Inv (X.hand (.ref ea)) (q++pins) σ H s:=⟨{ I.ok with },I.os,I.bare,I.base,I.loc,I.cell,I.free,I.freeC,fun z hz=>I.pin z (by simpa using hz),I.hok,I.len⟩
  refine wpAny_mono ((hts ea).1 (q++pins) s σ H D I' hw) (fun f s' z=>?_) fun _ _ z=>False.elim z
  have back:∀ {σ' H'},Inv (X.hand (.ref ea)) (q++pins) σ' H' s'→Inv ((X.tr E q).hand (.ref ea)) pins σ' H' s':=fun {σ' H'} J=>⟨{ J.ok with },J.os,J.bare,J.base,J.loc,J.cell,J.free,J.freeC,fun z hz=>J.pin z (by simpa using hz),J.hok,J.len⟩
  cases f with
  | next=>obtain ⟨σ',H',J,q⟩:=z; exact ⟨σ',H',back J,q⟩
  | brk=>obtain ⟨σ',H',J,q⟩:=z; exact ⟨σ',H',back J,q⟩
  | cont=>obtain ⟨σ',H',J,q⟩:=z; exact ⟨σ',H',back J,q⟩
  | ret u=>obtain ⟨v,σ',H',J,r,q⟩:=z; exact ⟨v,σ',H',back J,r,q⟩
 ·refine sb C G ρ σ H n D _ _ hm hn r h k ⟨fun c ns es ρ' σ' dx G' H' hq z r' hx=>⟨hq.1,fun ea hea=>?_⟩⟩
  obtain ⟨O,ro⟩:=r'
  obtain ⟨ro2,z2⟩:=ro.new hea (.ext (gc ea (.ref c) dx))
  have rep:Rep (upd G' ea (.ext (gc ea (.ref c) dx))) (j9 c ns es) (.ref ea):=by
   unfold j9
   rw [Rep]
   exact ⟨ea,_,rfl,aD.refl _,dx,by simp [upd],hx.mono z2⟩
  refine (hts ea).2 C _ _ _ _ (n.unb i) (D.unb i) hm hn ⟨O,ro2.setS ho (hm.no hu) rep⟩ (hq.2 (.ref ea)) ⟨?_,?_,?_,?_⟩
  ·intro ρ3 σ3 G3 H3 h3 z3 ⟨O3,r3⟩; exact k.nx _ _ G3 H3 h3 (z.trans (z2.trans z3)) ⟨O3,r3.gone i (hm.no hu)⟩
  ·intro ρ3 σ3 G3 H3 h3 z3 ⟨O3,r3⟩; exact k.bk _ _ G3 H3 h3 (z.trans (z2.trans z3)) ⟨O3,r3.gone i (hm.no hu)⟩
  ·intro ρ3 σ3 G3 H3 h3 z3 ⟨O3,r3⟩; exact k.ct _ _ G3 H3 h3 (z.trans (z2.trans z3)) ⟨O3,r3.gone i (hm.no hu)⟩
  ·intro d ρ3 σ3 v G3 H3 h3 z3 r3
   refine k.rt d (ρ3.set i none) (σ3.set i none) v G3 H3 h3 (z.trans (z2.trans z3)) ?_
   unfold Ret at r3 ⊢
   split at r3
   ·rename_i c; rw [if_pos c]; obtain ⟨O3,r3⟩:=r3; exact ⟨O3,r3.gone i (hm.no hu)⟩
   ·rename_i c; rw [if_neg c]; obtain ⟨⟨O3,r3⟩,p⟩:=r3; exact ⟨⟨O3,r3.gone i (hm.no hu)⟩,p⟩
end L2
namespace L2
open PySem PySem.Spec PyProof.Rows PySem.W Builtin.ObjectAttr
section
variable {prog:Program} {w:World} {A:Around} {E:Value→Shared→Prop} {s:Shared} {K:PySem.W.Frag} {x D:Addr} {ox:Obj} {od:Option Obj} {name:Str} {bm:List Value} {ini:Option Value} {tk:Tok}
theorem lB {M:Model} {nameV:Value} {Q:Unit→Shared→Prop} (I:PySem.W.InstAt s.heap x ox D od) (hC:f6 s.heap D bm ini) (hq:Q () s):wpAny M A (checkBuiltinCall "BaseException.__getattribute__" ⟨[.ref x,nameV],[]⟩) Q E s:=by
 obtain ⟨N,nm,q,bs,hdct,sn,sub,ab,col,dd,k0,k1,k2,k3,k5,mN,hC,hN,hni,T⟩:=hC
 obtain ⟨h,g,d,t,os⟩:=s
 have hx:=I.at_
 have hc:=I.cls
 have hk:builtinKind "BaseException.__getattribute__" = some .slot:=by decide +kernel
 have hsplit:splitId "BaseException.__getattribute__" = some ("BaseException","__getattribute__"):=by decide +kernel
 have hcB:(Value.ref D :: bm).contains (.type "BaseException")=true:=by rw [List.contains_cons,bX T,Bool.or_true]
 have ha:=PySem.F.args_bexc_ga (.ref x) nameV
 simp only [checkBuiltinCall,hk,hsplit]
 refine wpAny_bind ?_
 ·unfold isInstance
  repeat (first | (with_reducible refine wpAny_loadPart_at hx ?_; rw [hc]) | (with_reducible refine wpAny_isSubtype_exc hC ?_; rw [hcB]) | wp_step)
  exact hq
theorem lM {g a:Value} {Q:Fin→Shared→Prop} (X:K.In s.heap) (I:PySem.W.InstAt s.heap x ox D od) (hf:PySem.W.findObj K D od name=some (.bind g a)) (h:wpAny (model prog w) A (call g [a,.ref x,.ref D]) (fun v s'=>Q (.done (.ret v)) s') E s) :
 wpAny (model prog w) A (Builtin.«object.__getattribute__» ⟨[.ref x,.str name tk],[]⟩) Q E s:=by
 have L0:=I.type (M:=model prog w)
 have L1:=PySem.W.looks_find (M:=model prog w) X I hf
 refine wpAny_bind (wpAny_pure (wpAny_bind (wpAny_pure (wpAny_bind (L0.at (wpAny_bind (L1.at ?_)))))))
 show wpAny _ _ (bindTo g a (.ref x) (.ref D)) _ _ _
 unfold bindTo
 exact wpAny_bind (wpAny_holding (wpAny_mono h (fun v s' z=>wpAny_pure z) fun _ _ z=>z))
theorem rl {fill expr:Bool} {Q:Value→Shared→Prop} (X:K.In s.heap) (I:PySem.W.InstAt s.heap x ox D od) (hC:f6 s.heap D bm ini) (hga:PySem.W.findIn K (.ref D) "__getattribute__" = some (some (.builtin "BaseException.__getattribute__")))
 (hgn:PySem.W.findIn K (.ref D) "__getattr__" = some none)
 (h:wpAny (model prog w) A.in1 (Builtin.«object.__getattribute__» ⟨[.ref x,.str name tk],[]⟩) (fun fin s'=>match fin with | .done (.ret v)=>wpAny (model prog w) A (handedOut v) Q E s' | _=>False) (fun _ _=>False) s) :
 wpAny (model prog w) A (getAttrBy (.ref x) (.str name tk) fill expr) Q E s:=by
 obtain ⟨hh,g,d,t,os⟩:=s
 have L0:=I.type (M:=model prog w)
 have L1:=PySem.W.looks_findIn (M:=model prog w) X hga
 have L2:=PySem.W.looks_findIn (M:=model prog w) X hgn
 have f3:=PySem.F.attr_ValueError.ga.bind (.ref x)
 unfold getAttrBy
 refine wpAny_holding (wpAny_bind (L0.at (wpAny_bind (L1.at ?_))))
 show wpAny _ _ (if (true&&(Value.builtin "BaseException.__getattribute__" == Value.builtin "object.__getattribute__"))=true then _ else getAttrByItsOwn _ _ _ _ _ _) _ _ _
 rw [if_neg (by decide +kernel)]
 unfold getAttrByItsOwn
 show wpAny _ _ (typeLookup (.ref D) "__getattr__" >>= _) _ _ _
 refine wpAny_bind (L2.at (wpAny_bind (wpAny_attempt (wpAny_holding ?_))))
 unfold callGetattribute
 rw [if_neg (by cases expr <;> decide)]
 unfold boundAndCalled
 rw [f3]
 refine wpAny_bind (wpAny_pure (wpAny_call (codeAny_call_builtin PySem.F.attr_ValueError.ga.plain PySem.F.entry_bexc_ga (lB I hC ?_))))
 refine wpAny_mono h (fun fin s' z=>?_) fun _ _ z=>z.elim
 rcases fin with (_ | _ | _ | _) | _ <;> first | exact z | exact z.elim
theorem ln {Q:Option Value→Shared→Prop} (X:K.In s.heap) (I:PySem.W.InstAt s.heap x ox D od) (hC:f6 s.heap D bm ini) (hga:PySem.W.findIn K (.ref D) "__getattribute__" = some (some (.builtin "BaseException.__getattribute__")))
 (hgn:PySem.W.findIn K (.ref D) "__getattr__" = some none) (hf:PySem.W.findObj K D od "__class__" = some (.bind (.builtin "getset_descriptor.__get__") (.builtin "object.__class__"))) (hm:PySem.W.mroIn K D (.type "object")=some true)
 (h:Q (some (.ref D)) { s with toks:=s.toks + 1 }):wpAny (model prog w) A (getAttr? (.ref x) "__class__") Q E s:=by
 unfold getAttr?
 refine wpAny_bind (wpAny_mkText ?_)
 unfold getAttrBy?
 refine wpAny_bind (wpAny_attempt ?_)
 refine rl (s:={ s with toks:=s.toks + 1 }) X I hC hga hgn (lM (s:={ s with toks:=s.toks + 1 }) X I hf ?_)
 exact wpAny_call (PySem.W.class_get (s:={ s with toks:=s.toks + 1 }) X I hm (PySem.W.handed_on rfl (wpAny_pure h)))
def b_ (K:PySem.W.Frag) (D:Addr):Bool:=PySem.W.findIn K (.ref D) "__getattribute__" == some (some (.builtin "BaseException.__getattribute__"))&&PySem.W.findIn K (.ref D) "__getattr__" == some none &&
 PySem.W.findIn K (.ref D) "__class__" == some (some (.builtin "object.__class__"))&&PySem.W.specialIn K (.builtin "object.__class__") "__get__" == some (some (.builtin "getset_descriptor.__get__"))&&PySem.W.takesIn K (.builtin "object.__class__") == some true &&
 PySem.W.mroIn K D (.type "object") == some true&&PySem.W.hasDictIn K D
theorem iX (q:b_ K D=true) (hq:bh K D bm ini=true):PySem.W.KitX K (.ref x) (.ref D) (fun h=>∃ ox od,PySem.W.InstAt h x ox D od):=by
 simp only [b_,Bool.and_eq_true,beq_iff_eq] at q
 obtain ⟨⟨⟨⟨⟨⟨q1,q2⟩,q3⟩,q4⟩,q5⟩,q6⟩,q7⟩:=q
 obtain ⟨cdD,hcD,_⟩:=PySem.W.any_some q7
 refine ⟨fun _ _ _ ⟨ox,od,I⟩=>I.type,fun _ _ X _=>?_,fun h tp dd its n sl X htp=>?_,fun {_ _ _ _ _ s} X ⟨ox,od,I⟩ k=>?_⟩
 ·unfold PySem.W.clsIn at hcD
  split at hcD
  ·rename_i c' d' cd' sl' ho
   intro A' Q' E' s' k q
   unfold isType loadHead
   exact wpAny_bind (wpAny_loadPart (k _ _ (X _ _ ho)) (wpAny_pure q))
  ·cases hcD
 ·refine Bool.eq_false_iff.mpr fun q=>?_
  have e:D=tp:=Value.ref.inj (beq_iff_eq.mp q)
  subst e
  unfold PySem.W.clsIn at hcD
  split at hcD
  ·rename_i c' d' cd' sl' ho
   have z:=(X _ _ ho).symm.trans htp
   cases z
  ·cases hcD
 ·refine ln X I (bF X hq) q1 q2 ?_ q6 k
  unfold PySem.W.findObj
  rw [hcD,q3]
  simp only [Option.bind_some,q4,q5]
end
end L2
namespace L2
open PySem PySem.Spec PyProof.Rows
section
variable {X:Cx}
theorem i5 {pins:List (Addr×Obj)} {σ:St} {H:Hp} {s:Shared} {a:Addr} {C:Addr} {dx:Option Addr} {ns:List Str} {es:List D} (I:Inv X pins σ H s) (h:H a=some (.ext (gc a (.ref C) dx))) (hx:jf H ns es dx):∃ ox od,PySem.W.InstAt s.heap a ox C od:=by
 obtain ⟨⟨vs,sl,q⟩,_,_⟩:=(show aT X.prog X.w H s.heap a (.ext (gc a (.ref C) dx)) from I.hok a _ h)
 cases dx with
 | none=>exact ⟨_,none,q,rfl,rfl,trivial⟩
 | some d =>
  obtain ⟨xs,h1,_,_⟩:=hx
  obtain ⟨u,z⟩:=(I.hok d _ h1).here
  exact ⟨_,some u,q,rfl,rfl,z⟩
def IsX (K:PySem.W.Frag) (c:Value) (d:D) (b:Bool):Prop:=(∃ C ns es bm ini,d=j9 C ns es∧bh K C bm ini=true∧b_ K C=true∧PySem.W.kitOne K (.ref C) c=some b)∨(d.isS=false∧PySem.W.kitOne K (.type d.ty) c=some b)
def rIsX (K:PySem.W.Frag) (c:V) (cv:Value):List V→Hp→VK→Prop:=fun xs H Q=>∃ x d b,xs=[x,c]∧Rep H d x∧IsX K cv d b∧Q (.bl b) H
theorem mM {c:V} {cv:Value} (hc:∀ u,aX c u→u=cv):dC X (.builtin "isinstance") (rIsX X.K c cv):=by
 intro pins s σ H xs us Q I r h
 obtain ⟨x,d,b,rfl,hd,e,q⟩:=h
 obtain ⟨u,w',rfl,ru,rw'⟩:=gZ r
 obtain rfl:=hc _ rw'
 have fin:∀ tk,EP X pins σ Q (.bool b) { s with toks:=tk }:=fun tk=>⟨.bl b,H,I.tok tk,rfl,q⟩
 rcases e with ⟨C,ns,es,bm,ini,rfl,h1,h2,h3⟩ | ⟨hs,e⟩
 ·unfold j9 at hd
  rw [Rep] at hd
  obtain ⟨a,H0,rfl,z,dx,h4,h5⟩:=hd
  cases (show u=Value.ref a from ru)
  exact PySem.W.kia_one (iX h2 h1) I.kIn (i5 I (z _ _ h4) (h5.mono z)) h3 (fun z=>nomatch z) fin
 ·exact gS I ru (hd.ty hs) e fin
variable {ow:List Bool} {a:Expr} {ma:ME} {pos:Pos}
def mIsX (K:PySem.W.Frag) (c:Value) (m:ME):ME:=fun ρ q=>m ρ fun d ρ'=>∃ b,IsX K c d b∧q (.bl b) ρ'
theorem mF {c:V} {cv:Value} {x y:Str} {p1 p2:Pos} (hc:∀ u,aX c u→u=cv) (hg:Gl X x) (hm:X.mg x=none) (hv:bootBuiltins x=some (.builtin "isinstance")) (ha:QE X ow a ma) (ht:PE X (.Name y p2) (tC c))
 (hn:x ≠ "__name__":=by decide) (hdb:(x == ("__debug__":Str))=false:=by decide)
 (hs:starEach [.Name y p2] X.env=[(false,eval (.Name y p2) X.env)]:=by rfl)
 (he:starEach [a,.Name y p2] X.env=(false,eval a X.env) :: starEach [.Name y p2] X.env:=by rfl) (hpl:(backTo pos (starEach [.Name y p2] X.env)).any (·.1)=false:=by rfl) :
 QE X ow (.Call (.Name x p1) [a,.Name y p2] [] pos) (mIsX X.K cv ma):=by
 obtain ⟨t,p,s⟩:=ha
 refine ⟨_,eL (mM hc) hg hm hv (aL p (aL ht bw hs) he) hn hdb he hpl,fun C G ρ σ H pd q Q r hm k=>s C G ρ σ H pd _ _ r hm fun d ρ' v G' H' hq s kp r' p=>?_⟩
 obtain ⟨b,h1,h2⟩:=hq
 exact ⟨v,d,b,rfl,Rep.mono r'.gh _ _ p,h1,k _ ρ' _ G' H' h2 s kp r' (bY _)⟩
theorem rX {C:Addr}:∀ u,aX (.ref C) u→u = .ref C:=fun _ h=>h
theorem relTy {T:String}:∀ u,aX (.ty T) u→u = .type T:=fun _ h=>h
end
section
variable {K:PySem.W.Frag} {C a N:Addr} {dd nd:Option Addr} {nm qn:Str} {bs bm sub:List Value} {hd ab:Bool} {sn:List Str} {col:Option Bool} {k0 k1 k2 k3 k5 ini:Option Value} {no:Value} {es:Array DictEntry} {np:Nat} {nl:Array (Option Value)} {sl:Array (Option Value)} {oc:Value} {cd:ClassData}
theorem cK:PySem.W.tailIn K bmV bmV=true:=by unfold PySem.W.tailIn; simp
theorem cF (n:K.lookup N=some ⟨no,nd,.dict es np,nl⟩) (q:(es.all fun e=>match e.key with | .str _ _=>true | _=>false)=true):PySem.W.nsOkIn K N=true:=by unfold PySem.W.nsOkIn; rw [n]; exact q
theorem pP (l:K.lookup a=some ⟨oc,dd,.cls cd,sl⟩) (n:PySem.W.nsOkIn K cd.ns=true) (t:PySem.W.nsIn K cd.ns "__init__" = some none) (r:PySem.W.tailIn K bmV bm=true):PySem.W.tailIn K bmV (.ref a :: bm)=true:=by
 unfold PySem.W.tailIn
 simp only [l,n,t,r,beq_self_eq_true,Bool.and_self,Bool.or_true]
theorem xc_mk (l:K.lookup C=some ⟨.type "type",dd,.cls ⟨nm,bs,.ref C :: bm,N,qn,hd,sn,sub,ab,col,false⟩,#[k0,k1,k2,k3,some (.builtin "ValueError.__new__"),k5]⟩) (n:PySem.W.nsOkIn K N=true) (t:PySem.W.nsIn K N "__init__" = some ini)
 (r:PySem.W.tailIn K bmV bm=true):bh K C bm ini=true:=by
 unfold bh
 simp only [l,n,t,r,beq_self_eq_true,Bool.not_false,Bool.and_self]
theorem eR {t:Value}:PySem.W.kitOne K t t=some true:=by unfold PySem.W.kitOne; simp
theorem qk {t:Value} {b:Bool} (l:K.lookup a=some ⟨oc,dd,.cls cd,sl⟩) (y:PySem.W.typeIn K (.ref a)=some (.type "type")) (s:PySem.W.subIn K t (.ref a)=some b) (ne:b=true∨(t == .ref a)=false):PySem.W.kitOne K t (.ref a)=some b:=by
 have c:PySem.W.kitCls K t (.ref a)=some b:=by
  unfold PySem.W.kitCls PySem.W.clsIn
  simp only [l,y,Option.isSome_some,beq_self_eq_true,Bool.and_self,if_true,s]
 unfold PySem.W.kitOne
 rw [c]
 rcases ne with rfl | ne
 ·split <;> rfl
 ·rw [ne]; rfl
theorem dt {t:Value} (s:PySem.W.subIn K t (.type "ValueError")=some true):PySem.W.kitOne K t (.type "ValueError")=some true:=by
 have c:PySem.W.kitCls K t (.type "ValueError")=some true:=by
  unfold PySem.W.kitCls
  show (if PySem.W.kitMeta "ValueError" = true then _ else _)=_
  rw [if_pos (by decide +kernel),s]
 unfold PySem.W.kitOne
 rw [c]
 split <;> rfl
theorem dq (g:PySem.W.findIn K (.ref C) "__getattribute__" = some (some (.builtin "BaseException.__getattribute__"))) (h:PySem.W.findIn K (.ref C) "__getattr__" = some none) (c:PySem.W.findIn K (.ref C) "__class__" = some (some (.builtin "object.__class__")))
 (s:PySem.W.specialIn K (.builtin "object.__class__") "__get__" = some (some (.builtin "getset_descriptor.__get__"))) (t:PySem.W.takesIn K (.builtin "object.__class__")=some true) (m:PySem.W.mroIn K C (.type "object")=some true) (d:PySem.W.hasDictIn K C=true):b_ K C=true:=by
 unfold b_
 simp only [g,h,c,s,t,m,d,beq_self_eq_true,Bool.and_self]
theorem gB:bootBuiltins "ValueError" = some (.type "ValueError"):=by decide +kernel
end
theorem fnT {P:Program} {w:World} {K:PySem.W.Frag} {mg:Str→Option Value} {base:Heap} {x qual:Str} {st:Stmt} {f:Addr} {fd:FuncData} {N ps:List Str} {k:Nat} (F:Fun K x qual st f fd) (S:FnScope N ps (ag st)) (M:Md) (sd:SpD)
 (hl:∀ ds q,sd ds q→ds.length=ps.length) (ho:M.ow.take ps.length=M.mu) (hml:M.mu.length=ps.length)
 (hbody:∀ (cdv:Value) (A:Around) (outer:List Env) (s:Shared) (H:Hp) (E:XK),Room k (A.deeper (envOfC qual (ag st) s.heap.objs.size f cdv)) →
  ∃ m,QXs (gt CX0 P w K mg base N qual (ag st) f cdv A outer s H E) M (bI st) m∧∀ ds q,sd ds q→m (fun _ _ _ _=>False) (gj M.mu q) (ds.map some++List.replicate (N.length - ps.length) none)) :
 FnOk P w K mg base CX0 (k + 1) f fd ps (bA M.mu M.fr sd):=by
 refine fnD F S M sd hl ho hml fun cdv A outer s H E hr=>?_
 obtain ⟨m,⟨t,p,ss⟩,hm⟩:=hbody cdv A outer s H E hr
 refine ⟨m fun _ _ _ _=>False,⟨t fun _ _ _ _=>False,p (fun _ _=>False) [] (fun _ _ _ _=>False) ⟨⟨PassesOwn.never,fun _=>PassesOwnAt.never⟩,⟨fun _ _ _ _ _ _ _ _ _ z=>z.elim⟩⟩,fun C G ρ σ H n D hm hn r h k=>ss C G ρ σ H n D _ _ hm hn r h k ⟨fun _ _ _ _ _ _ _ _ z=>z.elim⟩⟩,hm⟩
section
variable {X:Cx}
theorem k_ {pins:List (Addr×Obj)} {σ:St} {H:Hp} {s:Shared} {A:Around} {E:Value→Shared→Prop} {Q:Value→Shared→Prop} {d:D} {x:V} {u:Value} {tp:Addr} {dd:Option Addr} {its:List Value} {n:Nat} {sl:Array (Option Value)} {b:Bool}
 (I:Inv X pins σ H s) (hd:Rep H d x) (ru:aX x u) (hs:d.isS=false) (htp:s.heap.get? tp=some ⟨.type "tuple",dd,.seq its.toArray n,sl⟩) (e:PySem.W.kitAny X.K (.type d.ty) its=some b) (h:∀ tk,Q (.bool b) { s with toks:=tk }) :
 wpAny (model X.prog X.w) A (call (.builtin "isinstance") [u,.ref tp]) Q E s:=by
 cases d with
 | non=>rw [Rep] at hd; subst hd; cases (show u=Value.none from ru); exact PySem.W.kia_tup PySem.W.kitx_none I.kIn True.intro htp e (fun z=>nomatch z) h
 | bl y=>rw [Rep] at hd; subst hd; cases (show u=Value.bool y from ru); exact PySem.W.kia_tup PySem.W.kitx_bool I.kIn True.intro htp e (fun z=>nomatch z) h
 | int i=>rw [Rep] at hd; subst hd; obtain ⟨t,q⟩:=(show ∃ t,u=Value.int i t from ru); cases q; exact PySem.W.kia_tup PySem.W.kitx_int I.kIn True.intro htp e (fun z=>nomatch z) h
 | str y=>rw [Rep] at hd; subst hd; obtain ⟨t,q⟩:=(show ∃ t,u=Value.str y t from ru); cases q; exact PySem.W.kia_tup PySem.W.kitx_str I.kIn True.intro htp e (fun z=>nomatch z) h
 | tup ds =>
  rw [Rep] at hd; obtain ⟨a,xs,rfl,ea,_⟩:=hd
  cases (show u=Value.ref a from ru)
  obtain ⟨_,_,_,o,h1,h2,_⟩:=(show aT X.prog X.w H s.heap a (.tup xs) from I.hok a _ ea)
  exact PySem.W.kia_tup PySem.W.kitx_tuple I.kIn ⟨o,h1,h2⟩ htp e (fun z=>nomatch z) h
 | lst ds =>
  rw [Rep] at hd; obtain ⟨a,xs,rfl,ea,_⟩:=hd
  cases (show u=Value.ref a from ru)
  obtain ⟨_,_,n,_,h1⟩:=(show aT X.prog X.w H s.heap a (.lst xs) from I.hok a _ ea)
  exact PySem.W.kia_tup PySem.W.kitx_list I.kIn ⟨_,h1,rfl⟩ htp e (fun z=>nomatch z) h
 | dct =>
  rw [Rep] at hd; obtain ⟨a,kvs,rfl,ea⟩:=hd
  cases (show u=Value.ref a from ru)
  obtain ⟨_,_,vs,_,o,es,ep,h1,h2,_⟩:=(show aT X.prog X.w H s.heap a (.dK kvs) from I.hok a _ ea)
  exact PySem.W.kia_tup PySem.W.kitx_dict I.kIn ⟨o,h1,h2.1⟩ htp e (fun z=>nomatch z) h
 | dic ks ds =>
  rw [Rep] at hd; obtain ⟨a,xs,rfl,ea,_⟩:=hd
  cases (show u=Value.ref a from ru)
  obtain ⟨_,_,vs,_,o,es,ep,h1,h2,_⟩:=(show aT X.prog X.w H s.heap a (.dK (ks.zip xs)) from I.hok a _ ea)
  exact PySem.W.kia_tup PySem.W.kitx_dict I.kIn ⟨o,h1,h2.1⟩ htp e (fun z=>nomatch z) h
 | scr φ ns=>cases hs
 | ext φ=>cases hs
 | obj C ks ds=>cases hs
def IsXs (K:PySem.W.Frag) (cs:List Addr) (d:D) (b:Bool):Prop:=(∃ C ns es bm ini,d=j9 C ns es∧bh K C bm ini=true∧b_ K C=true∧PySem.W.kitAny K (.ref C) (cs.map .ref)=some b)∨(d.isS=false∧PySem.W.kitAny K (.type d.ty) (cs.map .ref)=some b)
def rIsXs (K:PySem.W.Frag) (cs:List Addr):List V→Hp→VK→Prop:=fun xs H Q=>∃ x d b tp,xs=[x,.ref tp]∧H tp=some (.tup (cs.map .ref))∧Rep H d x∧IsXs K cs d b∧Q (.bl b) H
theorem gG:∀ {cs:List Addr} {us:List Value},aO (cs.map V.ref) us→us=cs.map Value.ref
 | [],us,h=>by cases h; rfl
 | c :: cs,us,h=>by
  cases h with
  | cons r t=>cases (show _=Value.ref c from r); rw [gG t]; rfl
theorem ly {cs:List Addr}:dC X (.builtin "isinstance") (rIsXs X.K cs):=by
 intro pins s σ H xs us Q I r h
 obtain ⟨x,d,b,tp,rfl,ht,hd,e,q⟩:=h
 obtain ⟨u,w',rfl,ru,rw'⟩:=gZ r
 cases (show w'=Value.ref tp from rw')
 obtain ⟨_,its,rv,o,h1,h2,n,h3⟩:=(show aT X.prog X.w H s.heap tp (.tup (cs.map .ref)) from I.hok tp _ ht)
 obtain rfl:=gG rv
 obtain ⟨oc,od,oda,sl⟩:=o
 cases h2; cases h3
 have fin:∀ tk,EP X pins σ Q (.bool b) { s with toks:=tk }:=fun tk=>⟨.bl b,H,I.tok tk,rfl,q⟩
 rcases e with ⟨C,ns,es,bm,ini,rfl,g1,g2,g3⟩ | ⟨hs,e⟩
 ·unfold j9 at hd
  rw [Rep] at hd
  obtain ⟨a,H0,rfl,z,dx,h4,h5⟩:=hd
  cases (show u=Value.ref a from ru)
  exact PySem.W.kia_tup (iX g2 g1) I.kIn (i5 I (z _ _ h4) (h5.mono z)) h1 g3 (fun z=>nomatch z) fin
 ·exact k_ I hd ru hs h1 e fin
def kW (cs:List Addr):TA:=fun _ H Q=>Q (cs.map .ref) H
theorem kX:PA X [] (kW []):=bw
theorem ce {c:Addr} {cs:List Addr} {y:Str} {p:Pos} {es:List Expr} (hg:Gl X y) (hm:X.mg y=some (.ref c)) (h:PA X es (kW cs)) (hd:(y == ("__debug__":Str))=false:=by decide) (hs:starEach (.Name y p :: es) X.env=(false,eval (.Name y p) X.env) :: starEach es X.env:=by rfl) :
 PA X (.Name y p :: es) (kW (c :: cs)):=aL (fH (v:=.ref c) hg hm rfl hd) h hs
variable {ow:List Bool} {a:Expr} {ma:ME} {pos:Pos}
def mIsXs (K:PySem.W.Frag) (cs:List Addr) (m:ME):ME:=fun ρ q=>m ρ fun d ρ'=>∃ b,IsXs K cs d b∧q (.bl b) ρ'
theorem kE {cs:List Addr} {x:Str} {p1 p2:Pos} {k2} {names:List Expr} (hg:Gl X x) (hm:X.mg x=none) (hv:bootBuiltins x=some (.builtin "isinstance")) (ha:QE X ow a ma) (ht:PA X names (kW cs)) (hz:cs.length≤sizeLine:=by simp [sizeLine])
 (hn:x ≠ "__name__":=by decide) (hdb:(x == ("__debug__":Str))=false:=by decide)
 (hs:starEach [.Tuple names k2 p2] X.env=[(false,eval (.Tuple names k2 p2) X.env)]:=by rfl)
 (he:starEach [a,.Tuple names k2 p2] X.env=(false,eval a X.env) :: starEach [.Tuple names k2 p2] X.env:=by rfl) (hpl:(backTo pos (starEach [.Tuple names k2 p2] X.env)).any (·.1)=false:=by rfl) :
 QE X ow (.Call (.Name x p1) [a,.Tuple names k2 p2] [] pos) (mIsXs X.K cs ma):=by
 obtain ⟨t,p,s⟩:=ha
 refine ⟨_,eL (ly (cs:=cs)) hg hm hv (aL p (aL (j5 ht) bw hs) he) hn hdb he hpl,fun C G ρ σ H pd q Q r hm k=>s C G ρ σ H pd _ _ r hm fun d ρ' v G' H' hq s kp r' p=>?_⟩
 obtain ⟨b,h1,h2⟩:=hq
 refine ⟨by rw [List.length_map]; exact hz,fun tp hp=>?_⟩
 obtain ⟨O,ro⟩:=r'
 obtain ⟨ro2,z2⟩:=ro.new hp (.tup (cs.map .ref))
 refine ⟨v,d,b,tp,rfl,by simp [upd],Rep.mono (fun b o q=>ro2.gh b o (z2 b o q)) _ _ p,h1,?_⟩
 exact k _ ρ' _ _ _ h2 (s.trans z2) kp ⟨O,ro2⟩ (bY _)
end
section
variable {K:PySem.W.Frag} {t c:Value} {cs:List Value} {b:Bool}
theorem ca:PySem.W.kitAny K t []=some false:=rfl
theorem aB (h:PySem.W.kitOne K t c=some false) (r:PySem.W.kitAny K t cs=some b):PySem.W.kitAny K t (c :: cs)=some b:=by unfold PySem.W.kitAny; rw [h]; exact r
end
section
variable {prog:Program} {w:World} {A:Around} {E:Value→Shared→Prop} {h:Heap} {g:Array GenState} {d:Drawn} {t:Nat} {os:OsState}
variable {nm q:Str} {C N:Addr} {bs bm:List Value} {hdct:Bool} {sn:List Str} {sub:List Value} {ab:Bool} {col:Option Bool} {dd:Option Addr} {k0 k1 k2 k3 k5:Option Value}
theorem gA (T:OwnTail h bmV bm) {mN:Str→Option Value} {rest:List Value} {fI:Addr} {oI:Obj} {Q:Fin→Shared→Prop}
 (hC:h.get? C=some (excClassObj nm q C N bs bm hdct sn sub ab col dd k0 k1 k2 k3 k5 "ValueError.__new__")) (hn:h.Ns N mN) (hi:mN "__init__" = some (.ref fI)) (hfI:h.get? fI=some oI) (hfc:oI.cls = .type "function")
 (hq:∀ h' e,h.objs.size≤e→Heap.MadeExcOf h h' e (.ref C) rest→wpAny (model prog w) A (call (.ref fI) (.ref e :: rest)) (fun r s'=>r = .none∧Q (.done (.ret (.ref e))) s') E ⟨h',g,d,t,os⟩) (hrest:rest.length≤sizeLine) :
 wpAny (model prog w) A (Builtin.«type.__call__» ⟨.ref C :: rest,[]⟩) Q E ⟨h,g,d,t,os⟩:=by
 have F:=PySem.F.excBase_ValueError
 repeat (first | with_reducible refine wpAny_loadPart_at hC ?_ | with_reducible refine wpAny_madeBy_exc hC ?_ | wp_step)
 refine codeAny_call_builtin_code (Code.quiet_builtin _ F.quiet) (wpAny_check_new_subT F T hC (codeAny_exc_new_subT F T hC ?_ hrest))
 show wpAny _ _ _ _ _ _
 generalize ho1:({ cls:=.type "tuple",data:=.seq rest.toArray }:Obj)=o1
 generalize ho2:({ cls:=.ref C,data:=.fields #[.ref h.objs.size,.none,.none,.none,.bool false,.none] }:Obj)=o2
 have keep:∀ b o,h.get? b=some o→((h.push o1).push o2).get? b=some o:=fun b o z=>Heap.get?_push_of_some _ (Heap.get?_push_of_some _ z)
 have hC₁:=keep _ _ hC
 have hfI₁:=keep _ _ hfI
 have hn₁:((h.push o1).push o2).Ns N mN:=hn.keeps keep
 have T₁:=T.keeps keep
 have hf2:o2.isFreed=false:=by rw [← ho2]; rfl
 have hf1:o1.isFreed=false:=by rw [← ho1]; rfl
 have hget:((h.push o1).push o2).get? (h.objs.size + 1)=some o2:=Heap.get?_push_at (by rw [Heap.size_push]) hf2
 have hcls:o2.cls = .ref C:=by rw [← ho2]
 have hcC:(Value.ref C :: bm).contains (.ref C)=true:=by simp
 unfold isInstance
 repeat (first | (with_reducible refine wpAny_loadPart_at hget ?_; rw [hcls]) | (with_reducible refine wpAny_isSubtype_exc hC₁ ?_; rw [hcC]) | wp_step)
 show wpAny _ _ (typeLookup (.ref C) _) _ _ _
 refine wpAny_typeLookup_tail hC₁ hn₁ T₁ F.mroIs F.init.lookup ?_
 rw [hi]
 refine wpAny_holding (wpAny_bind ?_)
 unfold bindSpecial
 refine wpAny_bind (wpAny_typeOf (T:="function") ⟨_,hfI₁,hfc⟩ ?_)
 rw [if_pos (by decide)]
 refine wpAny_pure (wpAny_bind (wpAny_mono (hq _ (h.objs.size + 1) (Nat.le_succ _) ⟨keep,Heap.get?_none_of_le (Nat.le_succ _),h.objs.size,by rw [hget,ho2],Heap.get?_none_of_le (Nat.le_refl _),?_⟩) (fun r s' hr=>?_) fun _ _ x=>x))
 ·rw [ho1]; exact Heap.get?_push_of_some _ (Heap.get?_push_at rfl hf1)
 ·obtain ⟨rfl,hQ⟩:=hr
  wp_walk
  exact hQ
theorem ls (T:OwnTail h bmV bm) {mN:Str→Option Value} {rest:List Value} {fI:Addr} {oI:Obj} {Q:Value→Shared→Prop}
 (hC:h.get? C=some (excClassObj nm q C N bs bm hdct sn sub ab col dd k0 k1 k2 k3 k5 "ValueError.__new__")) (hn:h.Ns N mN) (hi:mN "__init__" = some (.ref fI)) (hfI:h.get? fI=some oI) (hfc:oI.cls = .type "function")
 (hq:∀ h' e,h.objs.size≤e→Heap.MadeExcOf h h' e (.ref C) rest→wpAny (model prog w) (A.under (.builtin "type.__call__" ⟨.ref C :: rest,[]⟩)) (call (.ref fI) (.ref e :: rest)) (fun r s'=>r = .none∧Q (.ref e) s') E ⟨h',g,d,t,os⟩) (hrest:rest.length≤sizeLine) :
 wpAny (model prog w) A (call (.ref C) rest) Q E ⟨h,g,d,t,os⟩:=by
 have f1:=tc_lookup
 have f2:=tc_bind (.ref C)
 have hT:(⟨h,g,d,t,os⟩:Shared).TypeIs (.ref C) "type":=⟨_,hC,rfl⟩
 refine wpAny_call (codeAny_of_tree ?_)
 show wpAny _ _ (callAny (.ref C) _) _ _ _
 repeat (any_goals (first | assumption | with_reducible refine wpAny_loadPart_at hC ?_ | wp_step))
 refine ⟨rfl,?_⟩
 refine codeAny_call_builtin_at (Code.quiet_builtin _ (by decide +kernel)) entry_typeCall (wpAny_check_type_call_sub hC (gA T hC hn hi hfI hfc (fun h' e hz hm=>?_) hrest))
 exact hq h' e hz hm
end
section
variable {prog:Program} {w:World} {A:Around} {E:Value→Shared→Prop} {h:Heap} {g:Array GenState} {d:Drawn} {t:Nat} {os:OsState}
variable {nm q:Str} {C N:Addr} {bs bm:List Value} {hdct:Bool} {sn:List Str} {sub:List Value} {ab:Bool} {col:Option Bool} {dd:Option Addr} {k0 k1 k2 k3 k5:Option Value}
theorem lG (T:OwnTail h bmV bm) {rest:List Value} {e:Addr} {oe:Obj} {vs:Array Value} {Q:Value→Shared→Prop}
 (hC:h.get? C=some (excClassObj nm q C N bs bm hdct sn sub ab col dd k0 k1 k2 k3 k5 "ValueError.__new__")) (he:h.get? e=some oe) (hcls:oe.cls = .ref C) (hd:oe.data = .fields vs) {x0:Value} (hx0:vs[0]? = some x0)
 (hq:Q .none ⟨(h.push { cls:=.type "tuple",data:=.seq rest.toArray }).update e (Obj.mapFields (·.setIfInBounds 0 (Value.ref h.objs.size))),g,d,t,os⟩) (hrest:rest.length≤sizeLine) :
 wpAny (model prog w) A (call (.builtin "ValueError.__init__") (.ref e :: rest)) Q E ⟨h,g,d,t,os⟩:=by
 have F:=PySem.F.excBase_ValueError
 have h0 : 0<vs.size:=(Array.getElem?_eq_some_iff.mp hx0).1
 have he1:=Heap.get?_push_of_some { cls:=.type "tuple",data:=.seq rest.toArray } he
 refine wpAny_call (codeAny_call_builtin F.init.plain F.initEntry (wpAny_check_init_subT F T hC he hcls ?_))
 repeat (first | with_reducible refine wpAny_field he1 hd hx0 ?_ | with_reducible refine wpAny_setField he1 hd h0 ?_ | wp_step)
 cases x0 <;> (repeat wp_step) <;> exact hq
end
end L2
namespace L2
open PySem PySem.Spec PyProof.Rows PySem.W Builtin.ObjectAttr Builtin
theorem jp {h:Heap} {bm:List Value} (T:OwnTail h bmV bm) (self:Value):refuseLoop self "__setattr__" bm=pure ():=by
 induction T with
 | base=>exact PySem.F.store_ValueError.passes self
 | own _ _ _ _ ih=>exact (refuseLoop_ref self "__setattr__" _ _).trans ih
section
variable {prog:Program} {w:World} {A:Around} {E:Value→Shared→Prop} {s:Shared} {K:PySem.W.Frag} {x C:Addr} {ox:Obj} {od:Option Obj} {name:Str} {bm:List Value} {ini:Option Value} {v:Value}
theorem rz (q:bh K C bm ini=true):∃ cd,clsIn K C=some cd∧cd.mro = .ref C :: bm:=by
 unfold bh at q
 split at q
 ·rename_i dd cd sl ho
  split at q
  ·rename_i C' bm' k0 k1 k2 k3 n k5 hm hs
   simp only [Bool.and_eq_true,beq_iff_eq] at q
   obtain ⟨⟨⟨⟨⟨⟨rfl,_⟩,_⟩,rfl⟩,_⟩,_⟩,_⟩:=q
   exact ⟨cd,by unfold clsIn; rw [ho],hm⟩
  ·cases q
 ·cases q
def iI (K:PySem.W.Frag) (C:Addr) (name:Str):Prop:=findIn K (.ref C) "__setattr__" = some (some (.builtin "object.__setattr__"))∧findIn K (.ref C) name=some none
theorem kc {tk:Tok} {R:Result→Shared→Prop} (X:K.In s.heap) (I:InstAt s.heap x ox C od) (hc:bh K C bm ini=true) (hm:mroIn K C (.type "object")=some true) (ha:findIn K (.ref C) name=some none)
 (h:wpAny (model prog w) A.in1 (storeInOwnDict (.ref x) (.ref C) (.str name tk) name v false) (fun fin s'=>match fin with | .done f=>R (.ok f) s' | .again c'=>c'.quiet=true∧codeAny (model prog w) A c' R s') (fun e s'=>R (.error e) s') s) :
 codeAny (model prog w) A (.call (.builtin "object.__setattr__") ⟨[.ref x,.str name tk,v],[]⟩) R s:=by
 have F:=PySem.F.store_object
 obtain ⟨cd,hcd,hmro⟩:=rz hc
 obtain ⟨N,nm,q,bs,hdct,sn,sub,ab,col,dd,k0,k1,k2,k3,k5,mN,hC,hN,hni,T⟩:=bF X hc
 have L1:Looks (model prog w) s.heap (isInstance (.ref x) (.type "object")) true:=I.type.andThen (looks_mroIn X hm)
 have L2:Looks (model prog w) s.heap (mroOf (.ref C)) cd.mro:=(looks_clsIn X hcd).andThen .now
 refine codeAny_call_builtin F.slot.plain F.entry ?_
 refine check_slot (i:="object.__setattr__") (owner:="object") (n:="__setattr__") F.kind F.split L1 (F.args _ _ _) ?_
 rw [osa_eq,refuse_eq]
 refine wpAny_bind (wpAny_bind (I.type.here (wpAny_bind (L2.here ?_))))
 rw [hmro,refuseLoop_ref,jp T]
 refine wpAny_pure (wpAny_bind (I.type.here ?_))
 refine wpAny_bind ((looks_findIn X ha).here (wpAny_bind ?_))
 exact wpAny_pure h
theorem hasD (hd:hasDictIn K C=true):∃ cd,clsIn K C=some cd∧cd.hasDict=true:=any_some hd
theorem xset1 {d0:Addr} {mA:Str→Option Value} {ns:List Str} {Q:Unit→Shared→Prop} {vs:Array Value} {sl:Array (Option Value)} (X:K.In s.heap) (hx:s.heap.get? x=some ⟨.ref C,some d0,.fields vs,sl⟩) (hn:s.heap.Ns1 d0 mA) (hne:d0≠x)
 (hc:bh K C bm ini=true) (ho:b_ K C=true) (hs:iI K C name) (hw:PySem.Within mA ns) (hz:ns.length≤100)
 (h:∀ h' tk',h'.Ns1 d0 (fun y=>if y=name then some v else mA y)→Heap.SameBut d0 s.heap h'→Q () { s with heap:=h',toks:=tk' }):wpAny (model prog w) A (setAttr (.ref x) name v) Q E s:=by
 obtain ⟨o,es,ep,e1,e2⟩:=id hn
 have J:InstAt s.heap x ⟨.ref C,some d0,.fields vs,sl⟩ C (some o):=⟨hx,rfl,rfl,e1⟩
 simp only [b_,Bool.and_eq_true,beq_iff_eq] at ho
 obtain ⟨cd,hcd,hd'⟩:=hasD ho.2
 refine set_plain X J hs.1 (kc (s:={ s with toks:=s.toks + 1 }) X J hc ho.1.2 hs.2 ?_)
 refine wpAny_bind (wpAny_pure (wpAny_bind (wpAny_bind (wpAny_loadPart hx (wpAny_bind (Looks.here (s:={ s with toks:=s.toks + 1 }) (looks_clsIn X hcd) ?_))))))
 rw [hd']
 refine wpAny_pure (a:=some d0) (wpAny_bind (wpAny_pure (wpAny_bind ?_)))
 refine wpAny_nsSet1 (s:={ s with toks:=s.toks + 1 }) hn fun h' hn2 hs2=>?_
 obtain ⟨oD,esD,epD,hoD,hdD,hcD⟩:=hn2.count (Within.cons name v hw)
 refine wpAny_bind (wpAny_lookBehind hoD ?_ ?_)
 ·rw [hdD]; exact pastItsLine_dict (Nat.le_trans hcD (by rw [List.length_cons,sizeLine_eq]; omega))
 ·exact wpAny_pure (h h' _ hn2 hs2)
theorem xset0 {Q:Unit→Shared→Prop} {vs:Array Value} {sl:Array (Option Value)} (X:K.In s.heap) (hx:s.heap.get? x=some ⟨.ref C,none,.fields vs,sl⟩)
 (hc:bh K C bm ini=true) (ho:b_ K C=true) (hs:iI K C name)
 (h:∀ h' tk',h'.Ns1 s.heap.objs.size (fun y=>if y=name then some v else none)→h'.get? x=some ⟨.ref C,some s.heap.objs.size,.fields vs,sl⟩→(∀ b o,b≠x→s.heap.get? b=some o→h'.get? b=some o)→Q () { s with heap:=h',toks:=tk' }) :
 wpAny (model prog w) A (setAttr (.ref x) name v) Q E s:=by
 have J:InstAt s.heap x ⟨.ref C,none,.fields vs,sl⟩ C none:=⟨hx,rfl,rfl,trivial⟩
 simp only [b_,Bool.and_eq_true,beq_iff_eq] at ho
 obtain ⟨cd,hcd,hd'⟩:=hasD ho.2
 refine set_plain X J hs.1 (kc (s:={ s with toks:=s.toks + 1 }) X J hc ho.1.2 hs.2 ?_)
 refine wpAny_bind (wpAny_pure (wpAny_bind (wpAny_bind (wpAny_loadPart hx (wpAny_bind (Looks.here (s:={ s with toks:=s.toks + 1 }) (looks_clsIn X hcd) ?_))))))
 rw [hd']
 show wpAny _ _ (do let d ← alloc ({ cls:=.type "dict",data:=.dict #[] }:Obj); update x (fun o=>{ o with dict:=some d }); pure (some d)) _ _ _
 generalize hO:({ cls:=.type "dict",data:=.dict #[] }:Obj)=O
 have hOf:O.isFreed=false:=by rw [← hO]; rfl
 have hx1:(s.heap.push O).get? x=some ⟨.ref C,none,.fields vs,sl⟩:=Heap.get?_push_of_some _ hx
 have hne:s.heap.objs.size≠x:=Nat.ne_of_gt (Heap.lt_size hx)
 generalize hU:(fun o:Obj=>{ o with dict:=some s.heap.objs.size })=U
 have hx2:((s.heap.push O).update x U).get? x=some ⟨.ref C,some s.heap.objs.size,.fields vs,sl⟩:=by
  have z:=Heap.get?_update_self U hx1 (by rw [← hU]; rfl)
  rw [z,← hU]
 have hd2:((s.heap.push O).update x U).get? s.heap.objs.size=some O:=(Heap.get?_update_other _ _ (Ne.symm hne)).trans (Heap.get?_push_size _ hOf)
 have hn:((s.heap.push O).update x U).Ns s.heap.objs.size (fun _=>none):=⟨O,#[],_,hd2,by rw [← hO],fun e he=>absurd he (by simp),fun _=>rfl⟩
 refine wpAny_bind (wpAny_alloc' ?_)
 refine wpAny_bind (wpAny_update' hx1 ?_)
 refine wpAny_pure ?_
 show wpAny _ _ (storeInDict s.heap.objs.size (.str name s.toks) name v) _ _ _
 rw [hU]
 refine wpAny_bind (wpAny_pure (wpAny_bind ?_))
 refine wpAny_nsSet1 (s:={ s with heap:=(s.heap.push O).update x U,toks:=s.toks + 1 }) (Heap.Ns1.of_empty hn) fun h' hn2 hs2=>?_
 obtain ⟨oD,esD,epD,hoD,hdD,hcD⟩:=hn2.count (Within.cons name v Within.nil)
 refine wpAny_bind (wpAny_lookBehind hoD ?_ ?_)
 ·rw [hdD]; exact pastItsLine_dict (Nat.le_trans hcD (by rw [List.length_cons,List.length_nil,sizeLine_eq]; omega))
 ·refine wpAny_pure (h h' _ hn2 ((hs2.2 x (Ne.symm hne)).trans hx2) fun b o hb q=>?_)
  have hbs:b≠s.heap.objs.size:=Nat.ne_of_lt (Heap.lt_size q)
  exact (hs2.2 b hbs).trans ((Heap.get?_update_other _ _ (Ne.symm hb)).trans (Heap.get?_push_of_some _ q))
end
end L2
namespace L2
open PySem PySem.Spec PyProof.Rows
def bL (e:Addr) (cls:Value) (dx:Option Addr):Heap→Prop:=fun h=>∃ (vs:Array Value) (sl:Array (Option Value)),h.get? e=some ⟨cls,dx,.fields vs,sl⟩∧(∃ x0,vs[0]? = some x0)∧vs[1]? = some .none∧vs[2]? = some .none
def xdφ (d:Addr) (fs:List (Str×V)):Heap→Prop:=fun h=>∃ mA,h.Ns1 d mA∧(∀ f,RelO (fs.lookup f) (mA f))∧∃ ns,PySem.Within mA ns∧ns.length≤fs.length
theorem bL.st {e:Addr} {cls:Value} {dx:Option Addr} {h1 h2:Heap} (q:bL e cls dx h1) (k:∀ o,h1.get? e=some o→h2.get? e=some o):bL e cls dx h2:=by
 obtain ⟨vs,sl,a,b⟩:=q; exact ⟨vs,sl,k _ a,b⟩
theorem xdφ.st {d:Addr} {fs:List (Str×V)} {h1 h2:Heap} (q:xdφ d fs h1) (k:∀ o,h1.get? d=some o→h2.get? d=some o):xdφ d fs h2:=by
 obtain ⟨mA,a,b⟩:=q; exact ⟨mA,a.at k,b⟩
theorem bL.ok {P:Program} {w:World} {H:Hp} {e:Addr} {cls:Value} {dx:Option Addr} {h:Heap} (q:bL e cls dx h):aT P w H h e (.ext (bL e cls dx)):=⟨q,⟨_,q.choose_spec.choose_spec.1⟩,fun _ _ a b=>a.st b⟩
theorem xdφ.ok {P:Program} {w:World} {H:Hp} {d:Addr} {fs:List (Str×V)} {h:Heap} (q:xdφ d fs h):aT P w H h d (.ext (xdφ d fs)):=by
 obtain ⟨mA,⟨o,es,ep,e1,e2⟩,b⟩:=id q
 exact ⟨q,⟨_,e1⟩,fun _ _ a b=>a.st b⟩
def lu:V→Prop
 | .non=>True
 | .int i=>i.natAbs.log2<1920
 | .str x=>x.length≤1000
 | _=>False
def eF (C:Addr) (ns:List Str):Sp:=fun vs H Q E=>∃ e xs,vs = .ref e :: xs∧xs.length=ns.length∧(∀ x∈xs,lu x)∧H e=some (.ext (bL e (.ref C) none)) ∧
 ∀ d,H d=none→Q .non (upd (upd H e (.ext (bL e (.ref C) (some d)))) d (.ext (xdφ d (ns.zip xs))))
section
variable {X:Cx} {pins:List (Addr×Obj)} {σ:St} {H:Hp} {s:Shared} {e C fI:Addr} {bm:List Value}
theorem Inv.trackφ {φ:Heap→Prop} {o0:Obj} {vs:Array Value} (I:Inv X pins σ H s) (he:s.heap.get? e=some o0) (hd:o0.data = .fields vs) (o:Out X pins H e) (hφ:aT X.prog X.w (upd H e (.ext φ)) s.heap e (.ext φ)):Inv X pins σ (upd H e (.ext φ)) s:=by
 have ne:∀ b u,H b=some u→b≠e:=fun b u q z=>by rw [z,o.unt] at q; cases q
 have up:∀ b,b≠e→upd H e (.ext φ) b=H b:=fun b z=>ah z
 have old:∀ b ob,X.s₀.heap.get? b=some ob→b≠e:=fun b ob q z=>by rw [z,o.new] at q; cases q
 have nf:=I.fieldsNot he hd
 refine ⟨I.ok,I.os,I.bare,⟨I.base.keep,I.base.slot,fun b ob q n hx=>(up b (old b ob q)).trans (I.base.free b ob q n hx),I.base.there,fun b xs q=>?_,fun b ob u q=>?_,fun b ps q0 q=>?_⟩,I.loc,I.cell,
  (up _ (Ne.symm nf.1)).trans I.free,fun x c q=>(up _ (nf.2 x c q)).trans (I.freeC x c q),fun q hq=>?_,fun b u q=>?_,I.len⟩
 ·have z:=I.base.tups b xs q; exact (up b (ne b _ z)).trans z
 ·have z:=I.base.frzs b ob u q; exact (up b (ne b _ z)).trans z
 ·obtain ⟨m,z⟩:=I.base.tbls b ps q0 q; exact ⟨m,(up b (ne b _ z)).trans z⟩
 ·obtain ⟨a1,a2,a3⟩:=I.pin q hq; exact ⟨a1,(up _ (o.pin q hq)).trans a2,a3⟩
 ·by_cases hb:b=e
  ·subst hb; rw [av] at q; cases q; exact hφ
  ·rw [up b hb] at q
   exact (I.hok b u q).stay (fun _ _ _ z=>z) (fun c z=>(up c (ne c _ z)).trans z) (fun c xs z=>(up c (ne c _ z)).trans z) fun c ob u z=>(up c (ne c _ z)).trans z
theorem lK {k:Nat} {fd:FuncData} {ps ns:List Str} {Q:Value→Shared→Prop} {us:List Value} {vs:List V} (F:FnOk X.prog X.w X.K X.mg X.base CX0 k fI fd ps (eF C ns)) (hr:Room (k + 1) X.A) (hb:bS X.K fd ps [])
 (hc:bh X.K C bm (some (.ref fI))=true) (hf:PySem.W.typeIn X.K (.ref fI)=some (.type "function")) (hex:X.ex=[]) (hps:ps.length=ns.length + 1) (hsz:ns.length≤sizeLine) (I:Inv X pins σ H s) (r:aO vs us) (hl:vs.length=ns.length) (hv:∀ x∈vs,lu x)
 (h:∀ ea d s',Inv X pins σ (upd H d (.xd (ns.zip vs))) s'→H d=none→FlyO s'.heap ea (.ref C) (some d) none→Out X pins (upd H d (.xd (ns.zip vs))) ea→Q (.ref ea) s') :
 wpAny (model X.prog X.w) X.A (call (.ref C) us) Q X.xe s:=by
 obtain ⟨N,nm,q,bs,hdct,sn,sub,ab,col,dd,k0,k1,k2,k3,k5,mN,hC,hN,hni,T⟩:=bF I.kIn hc
 obtain ⟨oI,hoI,hcl⟩:∃ o,X.K.lookup fI=some o∧o.cls = .type "function":=by
  unfold PySem.W.typeIn at hf
  exact Option.map_eq_some_iff.mp hf
 obtain ⟨h0,g0,d0,t0,os0⟩:=s
 refine ls T hC hN hni (I.kIn _ _ hoI) hcl (fun h' e hz m=>?_) (by rw [← r.length,hl]; exact hsz)
 have I1:Inv X pins σ H ⟨h',g0,d0,t0,os0⟩:=I.kept (t':=t0) m.keeps
 have hno:H e=none:=I.hok.no m.new
 have oe:Out X pins H e:=⟨I.old hex m.new,hno,I.pinNo m.new⟩
 obtain ⟨tt,ht,_,_⟩:=m.there
 have ψ0:bL e (.ref C) none h':=⟨_,_,ht,⟨_,rfl⟩,rfl,rfl⟩
 have I2:=I1.trackφ (φ:=bL e (.ref C) none) ht rfl oe ψ0.ok
 have r2:aO (V.ref e :: vs) (Value.ref e :: us):=.cons rfl r
 have hlen:(Value.ref e :: us).length=ps.length:=by rw [List.length_cons,hps,← r.length,hl]
 have bnd:=hb ⟨h',g0,d0,t0,os0⟩ (Value.ref e :: us) I2.kIn (by rw [List.append_nil]; exact hlen)
 rw [List.append_nil] at bnd
 have run:=F.run _ X.stack ⟨h',g0,d0,t0,os0⟩ _ ⟨Value.ref e :: us,[]⟩ (Value.ref e :: us) (V.ref e :: vs)
  (fun v H'=>v = .non∧∃ d,upd H e (.ext (bL e (.ref C) none)) d=none∧H'=upd (upd (upd H e (.ext (bL e (.ref C) none))) e (.ext (bL e (.ref C) (some d)))) d (.ext (xdφ d (ns.zip vs)))) E0
  (hr.make C us []) (I2.env0.make C us []) bnd r2 ⟨e,vs,rfl,hl,hv,av,fun d hd=>⟨rfl,d,hd,rfl⟩⟩
 refine wpAny_call (codeAny_mono run fun rr s' hq'=>?_)
 cases rr with
 | error x=>exact hq'.elim
 | ok fl =>
  cases fl with
  | next=>exact False.elim hq'
  | brk=>exact False.elim hq'
  | cont=>exact False.elim hq'
  | ret u =>
   obtain ⟨v,H',hos,bare,un,hok,rv,rfl,d,hd,rfl⟩:=hq'
   have hde:d≠e:=fun z=>by rw [z,av] at hd; cases hd
   have hHd:H d=none:=by rw [ah hde] at hd; exact hd
   refine ⟨rv,?_⟩
   rw [eM] at un hok
   generalize hHf:upd H d (.xd (ns.zip vs))=Hf
   have at':∀ b,b≠e→b≠d→upd (upd H e (.ext (bL e (.ref C) (some d)))) d (.ext (xdφ d (ns.zip vs))) b=Hf b:=fun b h1 h2=>by rw [ah h2,ah h1,← hHf,ah h2]
   have atd:upd (upd H e (.ext (bL e (.ref C) (some d)))) d (.ext (xdφ d (ns.zip vs))) d=some (.ext (xdφ d (ns.zip vs))):=av
   have ate:upd (upd H e (.ext (bL e (.ref C) (some d)))) d (.ext (xdφ d (ns.zip vs))) e=some (.ext (bL e (.ref C) (some d))):=by rw [ah (Ne.symm hde),av]
   have fe:Hf e=none:=by rw [← hHf,ah (Ne.symm hde)]; exact hno
   have hne:∀ b o,h0.get? b=some o→b≠e:=fun b o q z=>by rw [z,m.new] at q; cases q
   have hup:∀ b o,h0.get? b=some o→H b=none→upd H e (.ext (bL e (.ref C) none)) b=none:=fun b o q n=>by rw [ah (hne b o q)]; exact n
   have un0:Un (frs X.stack) [] H Hf h0 s'.heap:={
    keep:=fun b o q n hn hx=>un.keep b o (m.keeps b o q) (hup b o q n) hn hx
    slot:=fun b o q n hn hx=>un.slot b o (m.keeps b o q) (hup b o q n) hn hx
    free:=fun b o q n hx=>by
     have z:=un.free b o (m.keeps b o q) (hup b o q n) hx
     have hbd:b≠d:=fun y=>by rw [y,atd] at z; cases z
     rw [← hHf,ah hbd]; exact n
    there:=fun b o q hx=>un.there b o (m.keeps b o q) hx
    tups:=fun b xs z=>by rw [← hHf,ah (ay z hHd)]; exact z
    frzs:=fun b o u z=>by rw [← hHf,ah (ay z hHd)]; exact z
    tbls:=fun b ps _ z=>⟨#[],by rw [← hHf,ah (ay z hHd),z]; simp⟩ }
   have hokf:HOk X.prog X.w Hf s'.heap:=fun a o q=>by
    by_cases had:a=d
    ·subst had
     rw [← hHf,av] at q; cases q
     obtain ⟨⟨mA,z1,z2,z3⟩,_⟩:=(show aT X.prog X.w _ s'.heap a (.ext (xdφ a (ns.zip vs))) from hok a _ atd)
     exact ⟨mA,z1,z2⟩
    ·have hae:a≠e:=fun z=>by rw [z,fe] at q; cases q
     refine (hok a o ((at' a hae had).trans q)).stay (fun _ _ _ z=>z) (fun b z=>?_) (fun b xs z=>?_) fun b ob u z=>?_
     ·have h1:b≠e:=fun y=>by rw [y,ate] at z; cases z
      have h2:b≠d:=fun y=>by rw [y,atd] at z; cases z
      rw [← at' b h1 h2]; exact z
     ·have h1:b≠e:=fun y=>by rw [y,ate] at z; cases z
      have h2:b≠d:=fun y=>by rw [y,atd] at z; cases z
      rw [← at' b h1 h2]; exact z
     ·have h1:b≠e:=fun y=>by rw [y,ate] at z; cases z
      have h2:b≠d:=fun y=>by rw [y,atd] at z; cases z
      rw [← at' b h1 h2]; exact z
   have I3:Inv X pins σ Hf s':=I.call' hos un0 hokf bare (ch:=[]) fun b z=>absurd z (by simp)
   have hx:=h e d s'
   rw [hHf] at hx
   obtain ⟨⟨ws,sl,z1,_,z2⟩,_⟩:=(show aT X.prog X.w _ s'.heap e (.ext (bL e (.ref C) (some d))) from hok e _ ate)
   exact hx I3 hHd ⟨⟨ws,sl,z1,z2.1,.inr z2.2⟩,fun t z=>by cases z⟩ ⟨oe.new,fe,oe.pin⟩
end
section
variable {prog:Program} {w:World} {A:Around} {E:Value→Shared→Prop} {s:Shared} {env:Env}
theorem jU {x:Expr} {pos:Pos} {Q:Flow→Shared→Prop} (hh:A.handled=none)
 (h:wpAny (model prog w) A (eval x env) (fun v s₁=>∃ e C bm ini dx,v = .ref e∧f6 s₁.heap C bm ini∧iU s₁.heap e (.ref C) dx .none∧E v s₁) E s) :
 wpAny (model prog w) A (exec (.Raise (some x) none pos) env) Q E s:=by
 rw [arm_exec_Raise]
 simp only [evalOpt,Option.map]
 refine wpAny_bind (wpAny_standAt ?_)
 unfold raiseStmt
 refine wpAny_bind (wpAny_bind (wpAny_mono h (fun v s₁ z=>wpAny_bind (wpAny_standAt (wpAny_pure ?_))) fun _ _ y=>y))
 obtain ⟨e,C,bm,ini,dx,rfl,⟨N,nm,q,bs,hdct,sn,sub,ab,col,dd,k0,k1,k2,k3,k5,mN,hC,hN,hni,T⟩,⟨vs,sl,he,h1,_⟩,hE⟩:=z
 obtain ⟨hp,g,d,tk,os⟩:=s₁
 have hcB:(Value.ref C :: bm).contains (.type "BaseException")=true:=by rw [List.contains_cons,bX T,Bool.or_true]
 have fl:∀ {α:Type} {k:Sem α} {Q : α→Shared→Prop},wpAny (model prog w) A k Q E ⟨hp,g,d,tk,os⟩→wpAny (model prog w) A (setFlight (.ref e) none >>= fun _=>k) Q E ⟨hp,g,d,tk,os⟩:=fun {α k Q} hk=>by
  unfold setFlight
  exact wpAny_bind (wpAny_bind (wpAny_field he rfl h1 (wpAny_pure hk)))
 repeat (first | with_reducible refine wpAny_loadPart_at he ?_ | with_reducible refine wpAny_loadPart_at hC ?_ | (with_reducible refine wpAny_isSubtype_exc hC ?_; rw [hcB]) | with_reducible refine fl ?_ | wp_step)
 exact wpAny_raiseNew_none hh hE
end
section
variable {X:Cx} {xk:XS} {x:Str} {C fI:Addr} {bm:List Value} {e:Expr} {args:List Expr} {np cpos pos:Pos} {t:TA} {k:Nat} {fd:FuncData} {ps ns:List Str}
def kD (xk:XS) (C:Addr) (ns:List Str) (t:TA):TS:=fun _ σ H=>t σ H fun vs H1=>vs.length=ns.length∧(∀ x∈vs,lu x)∧∀ d,H1 d=none→xk σ (.ref C) (some d) (upd H1 d (.xd (ns.zip vs)))
theorem lm (hex:X.ex=[]) (hcalm:X.calm=true) (ac:Acc X xk) (F:FnOk X.prog X.w X.K X.mg X.base CX0 k fI fd ps (eF C ns)) (hr:Room (k + 1) X.A) (hb:bS X.K fd ps []) (hc:bh X.K C bm (some (.ref fI))=true)
 (hf:PySem.W.typeIn X.K (.ref fI)=some (.type "function")) (hk:PySem.W.keepIn X.K (.ref C)=true) (hps:ps.length=ns.length + 1) (hsz:ns.length≤sizeLine) (hg:Gl X x) (hm:X.mg x=some (.ref C)) (ha:PA X (e :: args) t)
 (hdb:(x == ("__debug__":Str))=false:=by decide) (he:starEach (e :: args) X.env=(false,eval e X.env) :: starEach args X.env:=by rfl) (hpl:(backTo cpos (starEach args X.env)).any (·.1)=false:=by rfl) :
 PS X (.Raise (some (.Call (.Name x np) (e :: args) [] cpos)) none pos) (kD xk C ns t):=by
 refine ⟨fun pins s σ H D I h=>jU (I.ok.hd hcalm) (wpAny_Call_Name_kw (b3 I hg hm ?_ hdb))⟩
 refine PySem.W.callWith_K (h₀:=X.base) I.ok.mod.kin hk (thn (ha cpos pins s σ H _ I h) fun us s1 ⟨vs,H1,I1,r,hl,hv,q⟩=>⟨I1.kIn,?_⟩) he hpl
 refine lK F hr hb hc hf hex hps hsz I1 r hl hv fun ea d s' J hd fl oe=>?_
 exact ⟨ea,C,bm,_,some d,rfl,bF J.kIn hc,fl.ex,ac.go pins σ _ s' ea (.ref C) (some d) J ⟨none,fl,oe,fun t z=>by cases z⟩ (q d hd)⟩
end
def fq:D→Prop
 | .non=>True
 | .int i=>i.natAbs.log2<1920
 | .str x=>x.length≤1000
 | _=>False
theorem fq.v {H:Hp} {d:D} {v:V} (h:fq d) (r:Rep H d v):lu v:=by
 cases d with
 | non=>rw [Rep] at r; subst r; exact h
 | int i=>rw [Rep] at r; subst r; exact h
 | str x=>rw [Rep] at r; subst r; exact h
 | _=>exact h.elim
theorem jr {H:Hp}:∀ {ds:List D} {vs:List V},(∀ d∈ds,fq d)→Reps H ds vs→∀ v∈vs,lu v
 | [],vs,_,r,v,hv=>by rw [Reps] at r; subst r; cases hv
 | d :: ds,vs,h,r,v,hv=>by
  rw [Reps] at r
  obtain ⟨w,ws,rfl,r1,r2⟩:=r
  rcases List.mem_cons.mp hv with rfl | hv
  ·exact (h d (by simp)).v r1
  ·exact jr (fun d' hd=>h d' (by simp [hd])) r2 v hv
section
variable {X:Cx} {M:Md} {e:Expr} {es:List Expr} {mr:MA} {x:Str} {pos:Pos} {k:Nat} {fd:FuncData} {ps ns:List Str}
def pW (c:Addr) (ns:List Str) (m:MA):MSX:=fun xx _ ρ=>m ρ fun ds ρ1=>ds.length=ns.length∧(∀ d∈ds,fq d)∧xx c ns ds ρ1
theorem cU {C fI:Addr} {bm:List Value} {np cpos:Pos} (F:FnOk X.prog X.w X.K X.mg X.base CX0 k fI fd ps (eF C ns)) (hr:Room (k + 1) X.A) (hb:bS X.K fd ps []) (hc:bh X.K C bm (some (.ref fI))=true)
 (hf:PySem.W.typeIn X.K (.ref fI)=some (.type "function")) (hk:PySem.W.keepIn X.K (.ref C)=true) (hg:Gl X x) (hm:X.mg x=some (.ref C)) (ha:QA X.nox M.ow (e :: es) mr) (hps:ps.length=ns.length + 1:=by rfl) (hsz:ns.length≤sizeLine:=by simp [sizeLine]) (hcalm:X.calm=true:=by rfl) (hex:X.ex=[]:=by rfl)
 (hdb:(x == ("__debug__":Str))=false:=by decide) (he:starEach (e :: es) X.env=(false,eval e X.env) :: starEach es X.env:=by rfl) (hpl:(backTo cpos (starEach es X.env)).any (·.1)=false:=by rfl) :
 QX X M (.Raise (some (.Call (.Name x np) (e :: es) [] cpos)) none pos) (pW C ns mr):=by
 obtain ⟨t,p,s⟩:=ha
 refine ⟨fun xk=>kD xk C ns t,fun E q xk g=>lm (X:=X.tr E q) hex hcalm g.2 F hr hb hc hf hk hps hsz hg hm (PA.any p) hdb he hpl,fun C' G ρ σ H n D xx xk hm hn r h k kx=>s C' G ρ σ H [] _ _ r h fun ds ρ' vs G' H' hq z kp r' p' hl=>?_⟩
 obtain ⟨h1,h2,h3⟩:=hq
 have hvl:=p'.length
 refine ⟨by rw [hvl,h1],jr h2 p',fun d hd=>?_⟩
 obtain ⟨O,ro⟩:=r'
 obtain ⟨ro2,z2⟩:=ro.new hd (.xd (ns.zip vs))
 exact kx.go C ns ds ρ' σ (some d) _ _ h3 (z.trans z2) ⟨O,ro2⟩ ⟨vs,by simp [upd],by rw [hvl,h1],Reps.mono z2 _ _ p'⟩
end
structure PJ (X:Cx) (es:List Expr) (c:St→Prop):Prop where
 go:∀ (pins:List (Addr×Obj)) (s:Shared) (σ:St) (H:Hp) (acc:Str) (Q:Str→Shared→Prop),Inv X pins σ H s→c σ→acc.length + 2000 * es.length≤sizeLine →
  (∀ out s',Inv X pins σ H s'→out.length≤acc.length + 2000 * es.length→Q out s')→Joins (model X.prog X.w) X.A X.xe (evalEach es X.env) acc Q s
section
variable {X:Cx} {es:List Expr} {c:St→Prop}
theorem iQ:PJ X [] (fun _=>True):=⟨fun pins s σ H acc Q I _ hz k=>k acc s I (Nat.le_add_right _ _)⟩
theorem kd {e:Expr} {c':St→Prop} (h:PJ X es c) (he:∀ (pins:List (Addr×Obj)) (s:Shared) (σ:St) (H:Hp) (Q:Value→Shared→Prop),Inv X pins σ H s→c' σ→(∀ y t s',Inv X pins σ H s'→y.length≤2000→Q (.str y t) s')→wpAny (model X.prog X.w) X.A (eval e X.env) Q X.xe s) :
 PJ X (e :: es) (fun σ=>c' σ∧c σ):=by
 refine ⟨fun pins s σ H acc Q I hc hz k=>?_⟩
 rw [List.length_cons] at hz k
 refine he pins s σ H _ I hc.1 fun y t s' I' hy=>⟨y,t,rfl,?_,?_⟩
 ·rw [strLen_append]; omega
 ·refine h.go pins s' σ H (acc++y) Q I' hc.2 (by rw [strLen_append]; omega) fun out s2 I2 ho=>k out s2 I2 ?_
  rw [strLen_append] at ho; omega
theorem gw {x:Str} {k:Nat} {p:Pos} (h:PJ X es c) (hx:x.length≤2000:=by decide):PJ X (.Constant (.str x) k p :: es) (fun σ=>True∧c σ) :=
 kd h fun pins s σ H Q I _ q=>thn (l3.go pins s σ H (fun v H'=>v = .str x∧H'=H) I ⟨rfl,rfl⟩) fun u s1 ⟨v,H1,I1,r1,e1,e2⟩=>by
  subst e1 e2; obtain ⟨t,rfl⟩:=(show ∃ t,u=Value.str x t from r1); exact q x t s1 I1 hx
theorem gr {i:Nat} {x:Str} {np p:Pos} (hv:PE X (.Name x np) (tVar i)) (h:PJ X es c):PJ X (.FormattedValue (.Name x np) (-1) none p :: es) (fun σ=>(∃ v,σ[i]? = some (some v)∧lu v)∧c σ) :=
 kd h fun pins s σ H Q I hc q=>by
  obtain ⟨v,h1,h2⟩:=hc
  refine wpAny_FormattedValue_plain (thn (hv.go pins s σ H (fun v' H'=>v'=v∧H'=H) I ⟨v,h1,rfl,rfl⟩) fun u s1 ⟨v1,H1,I1,r1,e1,e2⟩=>?_)
  subst e1 e2
  cases v1 with
  | non=>cases (show u=Value.none from r1); exact wpAny_formatField_none (q _ _ _ (I1.tok _) (by decide))
  | int a=>obtain ⟨t,rfl⟩:=(show ∃ t,u=Value.int a t from r1); exact wpAny_formatField_int h2 (q _ _ _ (I1.tok _) (Nat.le_trans (PyProof.Rows.int_text_len_1921 h2) (by decide)))
  | str y=>obtain ⟨t,rfl⟩:=(show ∃ t,u=Value.str y t from r1); exact wpAny_formatField_str (q _ _ _ I1 (Nat.le_trans h2 (by decide))) (q _ _ _ (I1.tok _) (Nat.le_trans h2 (by decide))) (Nat.le_trans h2 (by decide))
  | _=>exact h2.elim
def tJoin (c:St→Prop):TE:=fun σ H Q=>c σ∧∀ y:Str,Q (.str y) H
theorem fF {a b:Expr} {p:Pos} (h:PJ X (a :: b :: es) c) (hz:(a :: b :: es).length≤1000:=by decide):PE X (.JoinedStr (a :: b :: es) p) (tJoin c):=by
 refine ⟨fun pins s σ H Q I hq=>wpAny_JoinedStr (h.go pins s σ H _ _ I hq.1 ?_ fun out s' I' ho=>⟨?_,.str out,H,I'.tok _,⟨_,rfl⟩,hq.2 out⟩)⟩
 ·have:(Str.empty:Str).length=0:=rfl
  rw [sizeLine_eq]; omega
 ·have:(Str.empty:Str).length=0:=rfl
  rw [sizeLine_eq]; omega
end
structure BaseIn (K:PySem.W.Frag) (B:Addr):Prop where
 r:PySem.W.readsIn K B (.type "type")=true
 f:PySem.W.findCls K (.ref B) (.type "type") "__init__" = some (.val (.builtin "ValueError.__init__"))
 g:PySem.W.specialIn K (.ref B) "__getattribute__" = some (some (.builtin "type.__getattribute__"))
section
variable {X:Cx} {C B:Addr} {bm:List Value} {ini:Option Value} {x:Str} {a b:Expr} {np apos pos pos':Pos} {t:TA}
def su (C:Addr) (t:TA):TE:=fun σ H Q=>t σ H fun vs H1=>∃ e y dx,vs=[.ref e,.str y]∧H1 e=some (.ext (bL e (.ref C) dx))∧Q .non (upd H1 e (.ext (bL e (.ref C) dx)))
theorem eN {pl:Sem Bool} (hB:BaseIn X.K B) (hc:bh X.K C bm ini=true) (hg:Gl X x) (hm:X.mg x=some (.ref B)) (ha:PA X [a,b] t) (hdb:(x == ("__debug__":Str))=false:=by decide)
 (he:starEach [a,b] X.env=(false,eval a X.env) :: starEach [b] X.env:=by rfl) (hpl:(backTo pos (starEach [b] X.env)).any (·.1)=false:=by rfl)
 (ht:eval (.Call (.Attribute (.Name x np) "__init__" apos) [a,b] [] pos) X.env=(do
  let ov ← eval (.Name x np) X.env
  standAt apos.atName
  let (f,first) ← holding [ov] (getMethod ov "__init__" pl)
  callWith pos f first (backTo pos (starEach [a,b] X.env)) (backToKw pos (keywordEach [] X.env))):=by rfl) :
 PE X (.Call (.Attribute (.Name x np) "__init__" apos) [a,b] [] pos) (su C t):=by
 refine ⟨fun pins s σ H Q I h=>PySem.W.methodCall_KW (pl:=pl) (b3 I hg hm ?_ hdb) ht⟩
 refine PySem.W.method_cls I.kIn hB.g (PySem.W.cls_value I.kIn hB.r hB.f rfl ?_)
 have I0:=I.tok (s.toks + 1)
 have hA:=ha pos pins _ σ H _ I0 h
 show wpAny _ _ (callWith pos (.builtin "ValueError.__init__") [] (backTo pos (starEach [a,b] X.env)) []) _ _ _
 rw [he] at hA ⊢
 refine Calls.callWith_builtin (by show (false||(backTo pos (starEach [b] X.env)).any (·.1))=false; rw [hpl] <;> rfl) (Calls.evalArgs_plain (thn hA fun us s2 ⟨vs,H2,I2,r2,e,y,dx,ev,hH,q⟩=>?_))
 subst ev
 obtain ⟨u1,u2,rfl,r3,r4⟩:=gZ r2
 cases (show u1=Value.ref e from r3)
 obtain ⟨ty,rfl⟩:=(show ∃ t,u2=Value.str y t from r4)
 obtain ⟨⟨ws,sl,z1,⟨x0,z0⟩,z2⟩,_⟩:=(show aT X.prog X.w _ s2.heap e (.ext (bL e (.ref C) dx)) from I2.hok e _ hH)
 obtain ⟨N,nm,q',bs,hdct,sn,sub,ab,col,dd,k0,k1,k2,k3,k5,mN,hC,hN,hni,T⟩:=bF I2.kIn hc
 obtain ⟨h0,g0,d0,t0,os0⟩:=s2
 refine lG T hC z1 rfl rfl z0 ?_ (by simp [sizeLine])
 generalize hO:({ cls:=.type "tuple",data:=.seq ([Value.str y ty]:List Value).toArray }:Obj)=O
 have e1:=Heap.get?_push_of_some O z1
 have e2:=Heap.get?_update_self (Obj.mapFields (·.setIfInBounds 0 (Value.ref h0.objs.size))) e1 (Obj.isFreed_of_fields (Obj.data_mapFields rfl _))
 have h00 : 0<ws.size:=(Array.getElem?_eq_some_iff.mp z0).1
 have h01 : 1<ws.size:=(Array.getElem?_eq_some_iff.mp z2.1).1
 have ψ:bL e (.ref C) dx ((h0.push O).update e (Obj.mapFields (·.setIfInBounds 0 (Value.ref h0.objs.size)))):=by
  refine ⟨ws.setIfInBounds 0 (Value.ref h0.objs.size),sl,e2,⟨_,by simp [h00]; rfl⟩,?_⟩
  exact ⟨by rw [Array.getElem?_setIfInBounds_ne (by decide)]; exact z2.1,by rw [Array.getElem?_setIfInBounds_ne (by decide)]; exact z2.2⟩
 exact ⟨.non,_,I2.write (x:=e) (e:=e) (t':=t0) (by rw [hH]; trivial) (.inl rfl) (fun b u hb z=>(Heap.get?_update_other _ _ (Ne.symm hb)).trans (Heap.get?_push_of_some _ z)) ⟨_,e2⟩ ψ.ok,rfl,q⟩
end
section
variable {X:Cx} {pins:List (Addr×Obj)} {σ:St} {H:Hp} {s:Shared} {h':Heap} {a:Addr} {oa od:HO}
theorem Inv.two {t':Nat} (I:Inv X pins σ H s) (mu:Mut (H a)) (k:∀ b o,b≠a→s.heap.get? b=some o→h'.get? b=some o) (heo:∃ u,h'.get? a=some u)
 (oka:aT X.prog X.w (upd (upd H a oa) s.heap.objs.size od) h' a oa) (okd:aT X.prog X.w (upd (upd H a oa) s.heap.objs.size od) h' s.heap.objs.size od) :
 Inv X pins σ (upd (upd H a oa) s.heap.objs.size od) { s with heap:=h',toks:=t' }:=by
 have hn:H s.heap.objs.size=none:=I.hok.fresh (Nat.le_refl _)
 have up:∀ b,b≠a→b≠s.heap.objs.size→upd (upd H a oa) s.heap.objs.size od b=H b:=fun b h1 h2=>by rw [ah h2,ah h1]
 have na:∀ b,H b=none→b≠a:=fun b z y=>by rw [y] at z; rw [z] at mu; exact mu
 have lt:∀ b o,s.heap.get? b=some o→b≠s.heap.objs.size:=fun b o z=>Nat.ne_of_lt (Heap.lt_size z)
 have nd:∀ b u,H b=some u→b≠s.heap.objs.size:=fun b u z y=>by rw [y,hn] at z; cases z
 have nt:∀ b xs,H b=some (.tup xs)→b≠a:=fun b xs z y=>by rw [← y,z] at mu; exact mu
 have nf:∀ b o u,H b=some (.frz o u)→b≠a:=fun b o u z y=>by rw [← y,z] at mu; exact mu
 have ntb:∀ b ps q,H b=some (.tbl ps q)→b≠a:=fun b ps q z y=>by rw [← y,z] at mu; exact mu
 have no:∀ b y,H b=some (.own y)→b≠a:=fun b y' z y=>by rw [← y,z] at mu; exact mu
 refine I.un (t':=t') {
  keep:=fun b o q n _ _=>k b o (na b n) q
  slot:=fun b o q n _ _=>⟨o.slots,k b o (na b n) q⟩
  free:=fun b o q n _=>(up b (na b n) (lt b o q)).trans n
  there:=fun b o q _=>by
   by_cases hb:b=a
   ·subst hb; exact heo
   ·exact ⟨o,k b o hb q⟩
  tups:=fun b xs z=>(up b (nt b xs z) (nd b _ z)).trans z
  frzs:=fun b o u z=>(up b (nf b o u z) (nd b _ z)).trans z
  tbls:=fun b ps q z=>⟨#[],by rw [up b (ntb b ps q z) (nd b _ z),z]; simp⟩ } fun b u q=>?_
 by_cases h1:b=s.heap.objs.size
 ·subst h1; rw [av] at q; cases q; exact okd
 by_cases h2:b=a
 ·subst h2; rw [ah h1,av] at q; cases q; exact oka
 rw [up b h2 h1] at q
 refine (I.hok b u q).stay (fun c v hc z=>k c v ?_ z) (fun c z=>(up c (no c _ z) (nd c _ z)).trans z) (fun c xs z=>(up c (nt c _ z) (nd c _ z)).trans z) fun c o u z=>(up c (nf c o u z) (nd c _ z)).trans z
 rcases hc with rfl | hc
 ·exact h2
 ·exact no c _ hc
end
section
variable {X:Cx} {C:Addr} {bm:List Value} {ini:Option Value} {f:Str} {o value:Expr} {pos pos':Pos} {ta tv:TE}
def sX0 (C:Addr) (f:Str) (ta tv:TE):TS:=fun D σ H=>tv σ H fun y H1=>ta σ H1 fun x H2=>∃ a,x = .ref a∧H2 a=some (.ext (bL a (.ref C) none)) ∧
 ∀ d,H2 d=none→D.nx σ (upd (upd H2 a (.ext (bL a (.ref C) (some d)))) d (.ext (xdφ d [(f,y)])))
def sX1 (C:Addr) (f:Str) (ta tv:TE):TS:=fun D σ H=>tv σ H fun y H1=>ta σ H1 fun x H2=>∃ a d fs,x = .ref a∧H2 a=some (.ext (bL a (.ref C) (some d)))∧H2 d=some (.ext (xdφ d fs))∧d≠a∧fs.length≤50∧fs.lookup f=none ∧
 D.nx σ (upd H2 d (.ext (xdφ d (fs++[(f,y)]))))
theorem fi (g:Str) (y:V):∀ {fs:List (Str×V)},fs.lookup f=none→(fs++[(f,y)]).lookup g=if g=f then some y else fs.lookup g
 | [],_=>by
  show List.lookup g [(f,y)]=_
  by_cases h:g=f
  ·have hb:(g == f)=true:=beq_iff_eq.mpr h
   simp only [List.lookup,hb,if_pos h]
  ·have hb:(g == f)=false:=beq_eq_false_iff_ne.mpr h
   simp only [List.lookup,hb,if_neg h]
 | (k,x) :: fs,h=>by
  show List.lookup g ((k,x) :: (fs++[(f,y)]))=_
  by_cases hk:f=k
  ·have hb:(f == k)=true:=beq_iff_eq.mpr hk
   simp only [List.lookup,hb] at h; cases h
  ·have hb:(f == k)=false:=beq_eq_false_iff_ne.mpr hk
   simp only [List.lookup,hb] at h
   have ih:=fi g y h
   by_cases hg:g=k
   ·have hb2:(g == k)=true:=beq_iff_eq.mpr hg
    simp only [List.lookup,hb2]
    rw [if_neg (fun z=>hk (z.symm.trans hg))]
   ·have hb2:(g == k)=false:=beq_eq_false_iff_ne.mpr hg
    simp only [List.lookup,hb2]
    exact ih
theorem kZ (hc:bh X.K C bm ini=true) (ho:b_ X.K C=true) (hs:iI X.K C f) (ha:PE X o ta) (hv:PE X value tv) (hsw:swapsWith value (some (.Attribute o f pos')) pos.line X.env=pure false:=by rfl):PS X (.Assign [.Attribute o f pos'] value pos) (sX0 C f ta tv):=by
 refine ⟨fun pins s σ H D I h=>plainObj_wpAny_Assign_Attribute (thn (hv pins s σ H _ I h) fun u s1 ⟨y,H1,I1,ry,q⟩=>thn (ha pins s1 σ H1 _ I1 q) fun ov s2 ⟨x,H2,I2,rx,a,ex,hH,q2⟩=>?_) hsw⟩
 subst ex
 obtain rfl:ov=Value.ref a:=rx
 obtain ⟨⟨ws,sl,z1,z0,z2⟩,_⟩:=(show aT X.prog X.w _ s2.heap a (.ext (bL a (.ref C) none)) from I2.hok a _ hH)
 refine xset0 I2.kIn z1 hc ho hs fun h' tk' hn hx k=>?_
 refine ⟨σ,_,I2.two (t':=tk') (oa:=.ext (bL a (.ref C) (some s2.heap.objs.size))) (od:=.ext (xdφ s2.heap.objs.size [(f,y)])) (by rw [hH]; trivial) k ⟨_,hx⟩ (bL.ok ⟨ws,sl,hx,z0,z2⟩) (xdφ.ok ⟨_,hn,fun g=>?_,[f],Within.cons f u Within.nil,by simp⟩),q2 _ (I2.hok.fresh (Nat.le_refl _))⟩
 have e:=fi (f:=f) g y (fs:=[]) rfl
 rw [List.nil_append] at e
 rw [e]
 by_cases hg:g=f
 ·rw [if_pos hg,if_pos hg]; exact ry
 ·rw [if_neg hg,if_neg hg]; exact True.intro
theorem ps_x1 (hc:bh X.K C bm ini=true) (ho:b_ X.K C=true) (hs:iI X.K C f) (ha:PE X o ta) (hv:PE X value tv) (hsw:swapsWith value (some (.Attribute o f pos')) pos.line X.env=pure false:=by rfl):PS X (.Assign [.Attribute o f pos'] value pos) (sX1 C f ta tv):=by
 refine ⟨fun pins s σ H D I h=>plainObj_wpAny_Assign_Attribute (thn (hv pins s σ H _ I h) fun u s1 ⟨y,H1,I1,ry,q⟩=>thn (ha pins s1 σ H1 _ I1 q) fun ov s2 ⟨x,H2,I2,rx,a,d,fs,ex,hH,hd,hne,hfs,hl,q2⟩=>?_) hsw⟩
 subst ex
 obtain rfl:ov=Value.ref a:=rx
 obtain ⟨⟨ws,sl,z1,z0,z2⟩,_⟩:=(show aT X.prog X.w _ s2.heap a (.ext (bL a (.ref C) (some d))) from I2.hok a _ hH)
 obtain ⟨⟨mA,y1,y2,ns,y3,y4⟩,⟨od,yd⟩,_⟩:=(show aT X.prog X.w _ s2.heap d (.ext (xdφ d fs)) from I2.hok d _ hd)
 refine xset1 I2.kIn z1 y1 hne hc ho hs y3 (by omega) fun h' tk' hn hsb=>?_
 obtain ⟨o2,es2,ep2,e2,e3⟩:=id hn
 refine ⟨σ,_,I2.write (x:=d) (e:=d) (t':=tk') (by rw [hd]; trivial) (.inl rfl) (fun b u hb z=>(hsb.2 b hb).trans z) ⟨_,e2⟩ (xdφ.ok ⟨_,hn,fun g=>?_,f :: ns,Within.cons f u y3,?_⟩),q2⟩
 ·rw [fi g y hl]
  by_cases hg:g=f
  ·rw [if_pos hg,if_pos hg]; exact ry
  ·rw [if_neg hg,if_neg hg]; exact y2 g
 ·rw [List.length_cons,List.length_append]; simp; omega
end
section
variable {X:Cx} {ow:List Bool} {a:Expr} {ma:ME} {pos:Pos} {f:Str}
end
section
variable {X:Cx}
variable {ow:List Bool} {e:Expr} {ma:ME}
end
section
variable {X:Cx} {M:Md} {ow:List Bool} {a e:Expr} {es:List Expr} {pos:Pos} {mex:MEX} {m1:MSX} {mg:MG}
variable {x:Str} {p':Pos} {ma:ME}
end
section
variable {C:Ctx} {ow:List Bool} {G:Hp} {ρ:DSt} {σ:St} {H:Hp} {pd:List (D×V)} {O:Own} {p:Addr} {xs:List V}
end
section
variable {X:Cx} {ow:List Bool} {a b e:Expr} {es:List Expr} {ma mb:ME} {mr:MA} {pos:Pos} {x:Str} {p':Pos}
end
section
variable {X:Cx} {M:Md} {i:Nat} {st:Stmt} {rest:List Stmt} {m1 m2:MFl} {me:MFe} {ms:MS} {pos pos':Pos}
variable {e b c:Expr} {ma mb:ME} {mt:MT}
end
section
variable {C:Ctx} {ow:List Bool} {i:Nat} {G:Hp} {ρ:DSt} {σ:St} {H:Hp} {p:Addr} {ds:List D}
end
section
variable {X:Cx} {M:Md} {i:Nat} {pos pos':Pos} {e c:Expr} {ma:ME} {mt:MT} {m1 m2:MFl}
end
section
variable {X:Cx} {M:Md} {a b e:Expr} {ma mb:ME} {pos:Pos}
theorem nq (h:QM X M e ma) (hf:M.fr=false:=by rfl):QS X M (.Return (some e) pos) (mRet ma):=by
 obtain ⟨t,p,s⟩:=h
 refine ⟨_,jH p,fun C G ρ σ H n D hm hn r h k=>s C G ρ σ H [] _ _ hm r h fun d ρ' v G' H' hq z r'=>?_⟩
 obtain ⟨O,r'⟩:=r'
 obtain ⟨G2,s2,r2,p2⟩:=r'.share (by rw [hn]; exact Nat.zero_le _)
 exact k.rt d ρ' σ v G2 H' hq (z.trans s2) (by unfold Ret; rw [if_neg (by rw [hf]; decide)]; exact ⟨r2,p2⟩)
theorem kB {i j:Nat} {x y:Str} {px py pt:Pos} {kt k2 pt2} (hc:X.calm=true) (hN:X.N.Nodup) (hi:X.N[i]? = some x) (hj:X.N[j]? = some y) (hij:i≠j)
 (hx:X.env.scope.names.lookup x=some .local) (hy:X.env.scope.names.lookup y=some .local) (ha:QF X M.ow a ma) (hb:QF X M.ow b mb)
 (hw:swappedStores [.Tuple [.Name x px,.Name y py] kt pt] (.Tuple [a,b] k2 pt2) X.env=pure (some [x,y]))
 (oi:M.ow[i]? = some true:=by decide) (oj:M.ow[j]? = some true:=by decide) (ui:M.mu[i]?≠some true:=by decide) (uj:M.mu[j]?≠some true:=by decide)
 (hs1:starEach [a,b] X.env=(false,eval a X.env) :: starEach [b] X.env:=by rfl) (hs2:starEach [b] X.env=[(false,eval b X.env)]:=by rfl)
 (hs:swapsWithSole [.Tuple [.Name x px,.Name y py] kt pt] (.Tuple [a,b] k2 pt2) pos.line X.env=pure false:=by rfl) :
 QS X M (.Assign [.Tuple [.Name x px,.Name y py] kt pt] (.Tuple [a,b] k2 pt2) pos) (mPar i j ma mb):=by
 obtain ⟨ta,pa,sa⟩:=ha; obtain ⟨tb,pb,sb⟩:=hb
 refine ⟨_,nh hc hN hi hj hij hx hy (aL pa (aL pb bw hs2) hs1) hw hs,fun C G ρ σ H n D hm hn r h k=>?_⟩
 refine sa C G ρ σ H [] _ _ r h fun dx ρ1 u G1 H1 h1 z1 kp1 r1=>?_
 refine sb C G1 ρ1 σ H1 [(dx,u)] _ _ r1 h1 fun dy ρ2 w G2 H2 h2 z2 kp2 r2=>⟨u,w,rfl,?_⟩
 obtain ⟨O,r2⟩:=r2
 obtain ⟨O2,r3⟩:=r2.setO oj (hm.no uj) (by rw [hn]; exact Nat.zero_le _)
 have r4:=r3.setO oi (hm.no ui) (by rw [hn]; exact Nat.zero_le _)
 rw [List.set_comm _ _ (Ne.symm hij),List.set_comm (l:=σ) _ _ (Ne.symm hij)] at r4
 exact k.nx _ _ G2 H2 h2 (z1.trans z2) r4
end
section
variable {X:Cx} {M:Md} {a b:Expr} {ma mb:ME} {pos:Pos}
end
section
variable {X:Cx} {pos p1 p2 q1 q2:Pos} {n1 n2:Nat} {k1 k2 x y:Str} {i j:Nat} {ow:List Bool}
end
section
variable {X:Cx} {ow:List Bool} {a b e:Expr} {ma mb:ME} {pos p2:Pos} {lo hi:Option Expr} {ml mh:MO}
end
section
variable {X:Cx} {M:Md} {i:Nat} {st:Stmt} {m:MFl}
end
mutual
def pln:D→Bool
 | .tup ds=>plns ds
 | .lst ds=>plns ds
 | .scr _ _=>false
 | .ext _=>false
 | .obj _ _ _=>false
 | _=>true
def plns:List D→Bool
 | []=>true
 | d :: ds=>pln d&&plns ds
end
theorem cJ {d:D} (h:pln d=true):d.isS=false:=by
 cases d <;> first | rfl | (rw [pln] at h; cases h)
theorem bg {d:D} {ds:List D}:plns (d :: ds)=true↔pln d=true∧plns ds=true:=by rw [plns,Bool.and_eq_true]
theorem fE:∀ {ds:List D} {i:Nat} {d:D},plns ds=true→ds[i]? = some d→pln d=true
 | [],i,d,_,e=>by simp at e
 | x :: ds,0,d,h,e=>by simp at e; subst e; exact (bg.mp h).1
 | x :: ds,i + 1,d,h,e=>fE (bg.mp h).2 (by simpa using e)
theorem ig:∀ {ds:List D},(∀ d∈ds,pln d=true)→plns ds=true
 | [],_=>rfl
 | d :: ds,h=>bg.mpr ⟨h d (by simp),ig fun x hx=>h x (by simp [hx])⟩
theorem lH (ns:List Int):plns (ns.map D.int)=true:=ig fun d h=>by
 obtain ⟨x,_,rfl⟩:=List.mem_map.mp h; rfl
theorem ia (ns:List Int):pln (a9 ns)=true:=by unfold a9; rw [pln]; exact lH ns
theorem ge (ps rs:List Int):pln (aP ps rs)=true:=by
 unfold aP; rw [pln,bg,bg]; exact ⟨ia _,ia _,rfl⟩
def aS (f:Nat→D→Bool):List D→Nat→Option Nat
 | [],_=>none
 | d :: ds,i=>if f i d=true then aS f ds (i + 1) else some i
theorem cP {f:Nat→D→Bool} {ds:List D} {i:Nat} {d:D} (e:ds[i]? = some d) (k:Nat):aS f (ds.drop i) k=if f k d=true then aS f (ds.drop (i + 1)) (k + 1) else some k:=by
 have hl:i<ds.length:=(List.getElem?_eq_some_iff.mp e).1
 have:ds.drop i=d :: ds.drop (i + 1):=by
  rw [List.drop_eq_getElem_cons hl]
  have:=(List.getElem?_eq_some_iff.mp e).2
  rw [this]
 rw [this,aS]
theorem b2 {f:Nat→D→Bool}:∀ {ds:List D} {k:Nat},(∀ (i:Nat) d,ds[i]? = some d→f (k + i) d=true)→aS f ds k=none
 | [],_,_=>rfl
 | d :: ds,k,h=>by
  rw [aS,if_pos (show f k d=true from h 0 d rfl)]
  exact b2 fun i d' e=>by
   have:=h (i + 1) d' (by simpa using e)
   rw [show k + 1 + i=k + (i + 1) by omega]; exact this
def jn (i:Nat) (d:D):Bool:=btw 0 i d
def fk (_:Nat) (d:D):Bool:=btw 1 1000000 d
def cH (d:D):Option (Str×D):=if fj d=true then (match d with
 | .tup [.lst ps,.lst rs]=>(match aS jn ps 0 with
  | some i=>some ("parents",.int i)
  | none=>(match aS fk rs 0 with
   | some i=>some ("rooms",.int i)
   | none=>none))
 | _=>none) else some ("tree",.non)
theorem f8 {d:D} (h:fj d=true):∃ ps rs,d = .tup [.lst ps,.lst rs]∧ps.length=rs.length∧1≤ps.length∧ps.length≤23:=by
 unfold fj at h
 split at h
 ·rename_i ps rs
  simp only [Bool.and_eq_true,decide_eq_true_eq] at h
  exact ⟨ps,rs,rfl,h.1,h.2.1,h.2.2⟩
 ·cases h
theorem gs {d:D} (h:fj d=false):cH d=some (("tree":Str),D.non):=by unfold cH; rw [if_neg (by rw [h]; decide)]
theorem fm {ps rs:List D} (h:fj (.tup [.lst ps,.lst rs])=true):cH (.tup [.lst ps,.lst rs])=(match aS jn ps 0 with
 | some i=>some ("parents",.int i)
 | none=>(match aS fk rs 0 with
  | some i=>some ("rooms",.int i)
  | none=>none)):=by unfold cH; rw [if_pos h]
theorem iH {ps rs:List Int} (hT:Tree ps rs):cH (aP ps rs)=none:=by
 have h:=gP hT
 unfold aP a9 at h ⊢
 rw [fm h]
 rw [b2 (f:=jn) (k:=0) fun i d e=>by
  obtain ⟨z,hz,rfl⟩:=iG e
  have:=hT.par i z hz
  rw [Nat.zero_add]; exact cj this.1 this.2]
 rw [b2 (f:=fk) (k:=0) fun i d e=>by
  obtain ⟨z,hz,rfl⟩:=iG e
  have:=hT.room i z hz
  exact cj this.1 this.2]
theorem ic {n:Nat} (h:n<2 ^ 1000):fq (.int (n:Int)):=by
 show (n:Int).natAbs.log2<1920
 rw [Int.natAbs_natCast]
 by_cases h0:n=0
 ·rw [h0]; decide
 ·exact Nat.lt_trans ((Nat.log2_lt h0).mpr h) (by decide)
theorem iC:fq .non:=True.intro
theorem iu {x:Str} (h:x.length≤1000):fq (.str x):=h
theorem fmt2 {a b:D} (ha:fq a) (hb:fq b):∀ d∈[a,b],fq d:=fun d h=>by
 simp only [List.mem_cons,List.not_mem_nil,or_false] at h
 rcases h with rfl | rfl
 ·exact ha
 ·exact hb
theorem fmt1 {a:D} (ha:fq a):∀ d∈[a],fq d:=fun d h=>by
 simp only [List.mem_cons,List.not_mem_nil,or_false] at h
 subst h; exact ha
def rc:SpD:=fun ds q=>∃ d,ds=[d]∧pln d=true∧q (.bl (fj d)) []
abbrev qJ:List Str:=["part","number"]
def pR (c:Addr):SpX:=fun ds q qx=>∃ d,ds=[d]∧pln d=true∧(cH d=none→q .non [])∧∀ p n,cH d=some (p,n)→qx c qJ [.str p,n] []
def cO:Nat→D→Bool
 | _,.int _=>true
 | _,.bl _=>true
 | _,.non=>true
 | _,.str x=>(PyData.str x).canLay0
 | n + 1,.tup ds=>ds.all (cO n)
 | n + 1,.lst ds=>ds.all (cO n)
 | _,_=>false
theorem fU {n:Nat} (ih:∀ d,cO n d=true→(toP d).canLay0=true∧(toP d).depth≤n + 1):∀ ds:List D,ds.all (cO n)=true→PyData.canLayAll0 (toPs ds)=true∧PyData.depthAll (toPs ds)≤n + 1
 | [],_=>by rw [toPs]; simp [PyData.canLayAll0,PyData.depthAll]
 | d :: ds,h=>by
  rw [List.all_cons,Bool.and_eq_true] at h
  have h1:=ih d h.1
  have h2:=fU ih ds h.2
  rw [toPs]
  simp only [PyData.canLayAll0,PyData.depthAll,h1.1,h2.1,Bool.and_self,true_and]
  omega
theorem il:∀ (n:Nat) (d:D),cO n d=true→(toP d).canLay0=true∧(toP d).depth≤n + 1
 | n,.int _,_=>by rw [toP]; simp [PyData.canLay0,PyData.depth]
 | n,.bl _,_=>by rw [toP]; simp [PyData.canLay0,PyData.depth]
 | n,.non,_=>by rw [toP]; simp [PyData.canLay0,PyData.depth]
 | n,.str x,h=>by rw [toP]; exact ⟨by cases n <;> exact h,by simp [PyData.depth]⟩
 | n + 1,.tup ds,h=>by
  have:=fU (il n) ds (by simpa [cO] using h)
  rw [toP]; simp only [PyData.canLay0,PyData.depth,this.1,true_and]; omega
 | n + 1,.lst ds,h=>by
  have:=fU (il n) ds (by simpa [cO] using h)
  rw [toP]; simp only [PyData.canLay0,PyData.depth,this.1,true_and]; omega
 | 0,.tup _,h=>by simp [cO] at h
 | 0,.lst _,h=>by simp [cO] at h
 | n,.dct,h=>by cases n <;> simp [cO] at h
 | n,.dic _ _,h=>by cases n <;> simp [cO] at h
 | n,.obj _ _ _,h=>by cases n <;> simp [cO] at h
 | n,.scr _ _,h=>by cases n <;> simp [cO] at h
 | n,.ext _,h=>by cases n <;> simp [cO] at h
theorem mK {n:Nat} {d:D} (h:cO n d=true) (hn:n≤60):okD d=true:=by
 have:=il n d h
 unfold okD SeqAt.shaped
 rw [this.1,Bool.true_and]
 exact decide_eq_true (by omega)
theorem cr {lo hi:Int} {d:D} (h:btw lo hi d=true):∃ i,d = .int i∧lo≤i∧i≤hi:=by
 cases d with
 | int i=>simp only [btw,Bool.and_eq_true,decide_eq_true_eq] at h; exact ⟨i,rfl,h.1,h.2⟩
 | _=>cases h
def neZ:D→D→Bool
 | .int i,.int j=>!decide (i=j)
 | _,_=>false
def eu (n:Nat) (a b:D):Bool:=btw 0 n a&&(btw 0 n b&&neZ a b)
theorem mq {ps:List Int} {a b:D} (h:eu ps.length a b=true):∃ i j,a = .int i∧b = .int j∧Ends2 ps i j:=by
 unfold eu at h
 rw [Bool.and_eq_true,Bool.and_eq_true] at h
 obtain ⟨i,rfl,i0,i1⟩:=cr h.1
 obtain ⟨j,rfl,j0,j1⟩:=cr h.2.1
 have:=h.2.2
 simp only [neZ,Bool.not_eq_true',decide_eq_false_iff_not] at this
 exact ⟨i,j,rfl,rfl,i0,i1,j0,j1,this⟩
theorem oA {ps:List Int} {i j:Int} (h:Ends2 ps i j):eu ps.length (.int i) (.int j)=true:=by
 unfold eu
 rw [cj h.a0 h.a1,cj h.b0 h.b1]
 simp [neZ,h.ne]
def pX:SpD:=fun ds q=>∃ ps rs a b,ds=[aP ps rs,a,b]∧pln a=true∧pln b=true∧q (.bl (eu ps.length a b)) []
def gz (n:Nat):D→Bool
 | .tup [a,b,s,w]=>eu n a b&&(btw 1 1000000 s&&btw 1 1000000000000 w)
 | _=>false
theorem qg {ps:List Int} {d:D} (h:gz ps.length d=true):∃ a,d=a4 a∧AskOk ps a:=by
 unfold gz at h
 split at h
 ·rename_i a b s w
  rw [Bool.and_eq_true,Bool.and_eq_true] at h
  obtain ⟨i,j,rfl,rfl,hE⟩:=mq h.1
  obtain ⟨s',rfl,s0,s1⟩:=cr h.2.1
  obtain ⟨w',rfl,w0,w1⟩:=cr h.2.2
  exact ⟨⟨i,j,s',w'⟩,rfl,hE,s0,s1,w0,w1⟩
 ·cases h
theorem kC {ps:List Int} {a:Ask} (h:AskOk ps a):gz ps.length (a4 a)=true:=by
 show (eu ps.length (.int a.one) (.int a.other)&&(btw 1 1000000 (.int a.size)&&btw 1 1000000000000 (.int a.worth)))=true
 rw [oA h.ends,cj h.s0 h.s1,cj h.w0 h.w1]; rfl
def jy (n:Nat) (_:Nat) (d:D):Bool:=gz n d
def fQ (n:Nat):D→Option D
 | .lst ds=>if ds.length≤30 then (aS (jy n) ds 0).map fun (i:Nat)=>D.int i else some .non
 | _=>some .non
theorem jL {ps:List Int} {as:List Ask} (h:AsksOk ps as):fQ ps.length (aZ as)=none:=by
 show (if (as.map a4).length≤30 then _ else _)=none
 rw [if_pos (by rw [List.length_map]; exact h.len),b2 fun i d e=>?_]
 ·rfl
 ·obtain ⟨a,ha,rfl⟩:=kP e
  exact kC (h.ok a (List.mem_of_getElem? ha))
def nZ:SpD:=fun ds q=>∃ ps rs d,ds=[aP ps rs,d]∧pln d=true∧q (.bl (gz ps.length d)) []
abbrev nNum:List Str:=["number"]
def pr (cT cA:Addr):SpX:=fun ds q qx=>∃ t x,ds=[t,x]∧((∃ p n,pln t=true∧cH t=some (p,n)∧qx cT qJ [.str p,n] []) ∨
 ∃ ps rs,t=aP ps rs∧Tree ps rs∧pln x=true∧((∃ n,fQ ps.length x=some n∧qx cA nNum [n] [])∨(fQ ps.length x=none∧q .non [])))
theorem g6 (as:List Ask):pln (aZ as)=true:=by
 unfold aZ; rw [pln]
 exact ig fun d h=>by obtain ⟨a,_,rfl⟩:=List.mem_map.mp h; rfl
theorem lI {xs:List D} {k:Int} (h0 : 0≤k):fb xs none (some k)=xs.take k.toNat:=by
 have ek:k=((k.toNat:Nat):Int):=by omega
 unfold fb
 rw [HT.sIx_none,ek,HT.sIx_nat,List.drop_zero,Nat.sub_zero,Int.toNat_natCast]
 by_cases h:k.toNat≤xs.length
 ·rw [show min k.toNat xs.length=k.toNat by omega]
 ·rw [show min k.toNat xs.length=xs.length by omega,List.take_length,List.take_of_length_le (by omega)]
theorem lE {xs:List D} {k:Int} (h0 : 0≤k):fb xs (some k) none=xs.drop k.toNat:=by
 have ek:k=((k.toNat:Nat):Int):=by omega
 unfold fb
 rw [HT.sIx_none,ek,HT.sIx_nat,Int.toNat_natCast]
 by_cases h:k.toNat≤xs.length
 ·rw [show min k.toNat xs.length=k.toNat by omega,List.take_of_length_le (by simp)]
 ·rw [show min k.toNat xs.length=xs.length by omega,List.drop_length,List.drop_of_length_le (by omega)]; simp
section
variable {X:Cx}
end
end L2
namespace L2
open PySem
end L2
namespace L2
open PySem PySem.Spec PyProof.Rows
section
variable {X:Cx}
end
section
variable {X:Cx} {M:Md} {e:Expr} {ma:ME} {pos:Pos}
end
section
variable {X:Cx} {M:Md} {i:Nat} {st:Stmt} {rest:List Stmt} {m1 m2:MFl} {me:MFe} {pos pos':Pos} {e:Expr} {ma:ME}
end
section
variable {X:Cx} {M:Md} {elt tg iter:Expr} {ifs:List Expr} {pos:Pos} {mi:MA} {mg:MG} {mt:MT} {me:ME} {scope:Scope} {cl:List (Str×Addr)} {rest:List Stmt} {mf:MFe}
end
section
variable {X:Cx} {ow:List Bool} {e:Expr} {ma:ME} {pos p2:Pos} {lo hi:Option Expr} {ml mh:MO}
end
end L2
namespace L2
open PySem
end L2
namespace L2
open PySem PySem.Spec PyProof.Rows
section
variable {X:Cx} {pins p:List (Addr×Obj)} {σ:St} {H:Hp} {s:Shared} {E:Value→Shared→Prop} {v:Value} {e:Addr} {cls:Value} {dx T:Option Addr}
variable {x:Str} {C D0:Addr} {bm bmD:List Value} {ini iniD:Option Value} {b0:Stmt} {suite:List Stmt} {np npos:Pos} {ts:TS} {D:Ends} {t:Addr}
end
section
variable {X:Cx} {ow:List Bool} {a b:Expr} {mex:MEX} {mb:ME} {pos:Pos}
end
end L2
namespace L2
open PySem
end L2
namespace L2
open PySem PySem.Spec PyProof.Rows
section
variable {X:Cx} {pos p1 q1:Pos} {n1:Nat} {k1:Int} {x:Str} {i:Nat} {ow:List Bool}
end
section
variable {X:Cx} {ow:List Bool} {es:List Expr} {mr:MA} {pos:Pos}
end
end L2
namespace L2
open PySem
end L2
namespace L2
open PySem PySem.Spec PyProof.Rows
section
variable {X:Cx}
end
section
variable {X:Cx} {M:Md} {e e':Expr} {mr:MA} {pos:Pos}
end
end L2
namespace L2
open PySem
def l6:SpD:=fun ds q=>∃ c m most,ds=[a9 [c,m],.int most]∧0≤c∧1≤most∧most≤1000000000000∧∀ n c' m',1≤n→n≤most→0≤c'→q (.int n) [some (a9 [c',m'])]
structure ParOk (ps:List Int):Prop where
 lo : 1≤ps.length
 hi:ps.length≤23
 par:∀ (i:Nat) (x:Int),ps[i]? = some x→0≤x∧x≤i
structure RoomOk (n:Nat) (least:Int) (rs:List Int):Prop where
 len:rs.length=n
 room:∀ (i:Nat) (x:Int),rs[i]? = some x→least≤x∧x≤1000000
theorem ParOk.tree {ps rs:List Int} {least:Int} (h:ParOk ps) (r:RoomOk ps.length least rs) (hl : 1≤least):Tree ps rs:=⟨r.len.symm,h.lo,h.hi,h.par,fun i x e=>by have:=r.room i x e; omega⟩
def li:SpD:=fun ds q=>∃ c m most,ds=[a9 [c,m],.int most]∧0≤c∧1≤most∧most≤23∧∀ ps c' m',ParOk ps→(ps.length:Int)≤most→0≤c'→q (a9 ps) [some (a9 [c',m'])]
def pA:SpD:=fun ds q=>∃ c m n least,ds=[a9 [c,m],.int ((n:Nat):Int),.int least]∧0≤c∧1≤n∧n≤23∧1≤least∧least≤2∧∀ rs c' m',RoomOk n least rs→0≤c'→q (a9 rs) [some (a9 [c',m'])]
def qd:SpD:=fun ds q=>∃ c m n,ds=[a9 [c,m],.int ((n:Nat):Int)]∧0≤c∧1≤n∧n≤23∧∀ a b c' m',0≤a→a≤(n:Int)→0≤b→b≤(n:Int)→a≠b→0≤c'→q (.tup [.int a,.int b]) [some (a9 [c',m'])]
end L2
namespace L2
open PySem PySem.Spec PyProof.Rows
section
variable {X:Cx}
end
end L2
namespace L2
open PySem
end L2
namespace L2
open PySem PySem.Spec PyProof.Rows
section
variable {X:Cx}
variable {ow:List Bool} {e e2:Expr} {ma mb:ME}
end
end L2
namespace L2
open PySem
end L2
namespace L2
open PySem PySem.Spec PyProof.Rows
section
variable {X:Cx}
end
end L2
namespace L2
open PySem
end L2
namespace L2
open PySem PySem.Spec PyProof.Rows
section
variable {κ:Type} [DecidableEq κ]
end
section
variable {P:Program} {w:World} {H:Hp} {h:Heap} {a:Addr}
end
section
variable {X:Cx} {pins:List (Addr×Obj)} {σ:St} {H:Hp} {s:Shared} {a:Addr} {y v:V} {u r:Value} {o:Option V} {A:Around} {E:Value→Shared→Prop}
end
section
variable {X:Cx} {pins:List (Addr×Obj)} {σ:St} {H:Hp} {s:Shared} {a:Addr} {kvs:List (Key×V)} {k:Key} {u:Value} {A:Around} {E:Value→Shared→Prop}
end
section
variable {X:Cx} {o i e value:Expr} {pos pos' tpos:Pos} {td ty tv:TE}
end
section
variable {X:Cx} {pos:Pos}
end
structure M1 (X:Cx) (o:Expr) (m:Str) (apos:Pos) (e:Expr) (cpos:Pos):Prop where
 base:attributeBase o m X.env (eval o X.env)=eval o X.env
 few:((backTo cpos (starEach [e] X.env)).all (fun x=>!x.1)&&(backToKw cpos (keywordEach [] X.env)).all (fun x=>x.1.isSome)
  && decide (([e]:List Expr).length + ([]:List Keyword).length + (if ([]:List Keyword).isEmpty then 0 else 1)<30))=true
 line:(apos.endLine == cpos.line)=true
 trees:backTo cpos (starEach [e] X.env)=[(false,eval e X.env)]
section
variable {X:Cx} {pins:List (Addr×Obj)} {σ:St} {H:Hp} {s:Shared} {a:Addr} {y d:V} {u r:Value} {o:Option V} {A:Around} {E:Value→Shared→Prop}
end
section
variable {X:Cx} {o e f:Expr} {apos cpos:Pos} {td ty tx:TE}
end
section
variable {X:Cx} {pins:List (Addr×Obj)} {σ:St} {H:Hp} {s:Shared} {a:Addr} {kvs:List (Key×V)} {A:Around} {E:Value→Shared→Prop}
end
section
variable {X:Cx} {pins:List (Addr×Obj)} {σ:St} {H:Hp} {s:Shared} {a:Addr} {y:V} {u:Value} {A:Around} {E:Value→Shared→Prop}
end
section
variable {C:Ctx} {ow:List Bool} {G:Hp} {ρ:DSt} {σ:St} {H:Hp} {pd:List (D×V)} {O:Own}
end
section
variable {X:Cx} {M:Md} {ow:List Bool} {a b c e:Expr} {ma mb mc:ME} {pos:Pos}
end
def eV:D→Nat→Option D
 | .lst ds,c=>ds[c]?
 | .tup ds,c=>ds[c]?
 | .obj _ _ ds,c=>ds[c]?
 | _,_=>none
def putS:D→Nat→D→D
 | .lst ds,c,e=>.lst (ds.set c e)
 | .tup ds,c,e=>.tup (ds.set c e)
 | .obj C ks ds,c,e=>.obj C ks (ds.set c e)
 | d,_,_=>d
def lenD:D→Nat
 | .lst ds=>ds.length
 | .tup ds=>ds.length
 | _=>0
def ff:List Nat→D→Option D
 | [],d=>some d
 | c :: p,d=>match eV d c with
  | some e=>ff p e
  | none=>none
def i_:List Nat→D→D→D
 | [],_,x=>x
 | c :: p,d,x=>match eV d c with
  | some e=>putS d c (i_ p e x)
  | none=>d
def iV (H:Hp) (v:V) (xs:List V):Prop:=∃ b,v = .ref b∧(H b=some (.lst xs)∨H b=some (.tup xs)∨∃ (C dx:Addr) (ks:List Str),H b=some (.ins C dx (ks.zip xs))∧ks.length=xs.length)
theorem jb {ks:List Str}:∀ {xs:List V},ks.length=xs.length→(ks.zip xs).map Prod.snd=xs:=by
 induction ks with
 | nil=>intro xs h; cases xs with
  | nil=>rfl
  | cons x r=>cases h
 | cons k ks ih=>intro xs h; cases xs with
  | nil=>cases h
  | cons x r=>rw [List.zip_cons_cons,List.map_cons,ih (by simpa using h)]
def b5 (H:Hp):List Nat→V→V→Prop
 | [],v,u=>v=u
 | c :: p,v,u=>∃ xs w,iV H v xs∧xs[c]? = some w∧b5 H p w u
theorem iV.one {H:Hp} {v:V} {xs ys:List V} (h:iV H v xs) (g:iV H v ys):xs=ys:=by
 obtain ⟨b,rfl,h⟩:=h
 obtain ⟨b',e,g⟩:=g
 cases e
 rcases h with h | h | ⟨C,dx,ks,h,l⟩ <;> rcases g with g | g | ⟨C',dx',ks',g,l'⟩
 ·rw [h] at g; cases g; rfl
 ·rw [h] at g; cases g
 ·rw [h] at g; cases g
 ·rw [h] at g; cases g
 ·rw [h] at g; cases g; rfl
 ·rw [h] at g; cases g
 ·rw [h] at g; cases g
 ·rw [h] at g; cases g
 ·rw [h] at g
  have e:ks.zip xs=ks'.zip ys:=by injection (Option.some.inj g)
  rw [← jb l,← jb l',e]
theorem iV.mono {H H':Hp} {v:V} {xs:List V} (s:aD H H') (h:iV H v xs):iV H' v xs:=by
 obtain ⟨b,e,h⟩:=h
 refine ⟨b,e,?_⟩
 rcases h with h | h | ⟨C,dx,ks,h,l⟩
 ·exact .inl (s _ _ h)
 ·exact .inr (.inl (s _ _ h))
 ·exact .inr (.inr ⟨C,dx,ks,s _ _ h,l⟩)
theorem b5.mono {H H':Hp} (s:aD H H'):∀ {p:List Nat} {v u:V},b5 H p v u→b5 H' p v u
 | [],_,_,h=>h
 | _ :: _,_,_,⟨xs,w,h1,h2,h3⟩=>⟨xs,w,h1.mono s,h2,h3.mono s⟩
theorem b5.one {H:Hp}:∀ {p:List Nat} {v u u':V},b5 H p v u→b5 H p v u'→u=u'
 | [],_,_,_,h,g=>h.symm.trans g
 | _ :: _,_,_,_,⟨xs,w,h1,h2,h3⟩,⟨ys,w',g1,g2,g3⟩=>by
  cases h1.one g1
  rw [h2] at g2; cases g2
  exact h3.one g3
theorem b5.snoc {H:Hp} {c:Nat} {xs:List V} {w:V}:∀ {p:List Nat} {v u:V},b5 H p v u→iV H u xs→xs[c]? = some w→b5 H (p++[c]) v w
 | [],v,u,h,g,e=>by cases h; exact ⟨xs,w,g,e,rfl⟩
 | _ :: _,_,_,⟨ys,w',h1,h2,h3⟩,g,e=>⟨ys,w',h1,h2,h3.snoc g e⟩
theorem gU {c:Nat}:∀ {p:List Nat} {d e:D},ff p d=some e→ff (p++[c]) d=eV e c
 | [],d,e,h=>by cases h; show (match eV d c with | some e=>ff [] e | none=>none)=_; cases eV d c <;> rfl
 | b :: p,d,e,h=>by
  show (match eV d b with | some e=>ff (p++[c]) e | none=>none)=_
  change (match eV d b with | some e=>ff p e | none=>none)=_ at h
  cases q:eV d b with
  | none=>rw [q] at h; cases h
  | some e'=>rw [q] at h; exact gU h
theorem Rep.walk {H:Hp}:∀ {p:List Nat} {d e:D} {v:V},Rep H d v→ff p d=some e→∃ u,b5 H p v u∧Rep H e u
 | [],d,e,v,h,g=>by cases g; exact ⟨v,rfl,h⟩
 | c :: p,d,e,v,h,g=>by
  change (match eV d c with | some e=>ff p e | none=>none)=_ at g
  cases q:eV d c with
  | none=>rw [q] at g; cases g
  | some d1 =>
   rw [q] at g
   cases d with
   | lst ds =>
    rw [Rep] at h
    obtain ⟨a,xs,rfl,h1,h2⟩:=h
    obtain ⟨w,d',e1,e2,e3⟩:=d6 (r:=c) h2 (List.getElem?_eq_some_iff.mp q).1
    rw [show ds[c]? = some d1 from q] at e2; cases e2
    obtain ⟨u,k1,k2⟩:=Rep.walk e3 g
    exact ⟨u,⟨xs,w,⟨a,rfl,.inl h1⟩,e1,k1⟩,k2⟩
   | tup ds =>
    rw [Rep] at h
    obtain ⟨a,xs,rfl,h1,h2⟩:=h
    obtain ⟨w,d',e1,e2,e3⟩:=d6 (r:=c) h2 (List.getElem?_eq_some_iff.mp q).1
    rw [show ds[c]? = some d1 from q] at e2; cases e2
    obtain ⟨u,k1,k2⟩:=Rep.walk e3 g
    exact ⟨u,⟨xs,w,⟨a,rfl,.inr (.inl h1)⟩,e1,k1⟩,k2⟩
   | obj C ks ds =>
    rw [Rep] at h
    obtain ⟨a,dx,xs,rfl,h1,hl,h2⟩:=h
    obtain ⟨w,d',e1,e2,e3⟩:=d6 (r:=c) h2 (List.getElem?_eq_some_iff.mp q).1
    rw [show ds[c]? = some d1 from q] at e2; cases e2
    obtain ⟨u,k1,k2⟩:=Rep.walk e3 g
    exact ⟨u,⟨xs,w,⟨a,rfl,.inr (.inr ⟨C,dx,ks,h1,hl.trans h2.length.symm⟩)⟩,e1,k1⟩,k2⟩
   | _=>cases q
theorem Seps.repl {G H H':Hp} {O:Own} {i:Nat} {d':D}:∀ {es:List D} {k0:Nat} {π:List Nat} {ys:List V} {c:Nat} {u:V},Seps G H O i es k0 π ys→ys[c]? = some u→Sep G H' O i d' ((k0 + c) :: π) u →
 (∀ (j:Nat) d v,j≠c→Sep G H O i d ((k0 + j) :: π) v→Sep G H' O i d ((k0 + j) :: π) v)→Seps G H' O i (es.set c d') k0 π ys
 | [],k0,π,ys,c,u,h,e,_,_=>by rw [Seps] at h; subst h; simp at e
 | d :: es,k0,π,ys,0,u,h,e,h1,h2=>by
  rw [Seps] at h
  obtain ⟨w,ws,rfl,w1,w2⟩:=h
  simp at e; subst e
  rw [List.set_cons_zero,Seps]
  refine ⟨_,ws,rfl,by simpa using h1,?_⟩
  have all:∀ (es:List D) (k:Nat) (ws:List V),k0<k→Seps G H O i es k π ws→Seps G H' O i es k π ws:=by
   intro es
   induction es with
   | nil=>intro k ws _ h; rw [Seps] at *; exact h
   | cons d es ih =>
    intro k ws hk h
    rw [Seps] at *
    obtain ⟨v,vs,rfl,v1,v2⟩:=h
    refine ⟨v,vs,rfl,?_,ih (k + 1) vs (by omega) v2⟩
    have:=h2 (k - k0) d v (by omega)
    rw [show k0 + (k - k0)=k by omega] at this
    exact this v1
  exact all es (k0 + 1) ws (by omega) w2
 | d :: es,k0,π,ys,c + 1,u,h,e,h1,h2=>by
  rw [Seps] at h
  obtain ⟨w,ws,rfl,w1,w2⟩:=h
  rw [List.set_cons_succ,Seps]
  refine ⟨w,ws,rfl,by have:=h2 0 d w (by omega); simpa using this (by simpa using w1),Seps.repl w2 (by simpa using e) ?_ ?_⟩
  ·rw [show k0 + 1 + c=k0 + (c + 1) by omega]; exact h1
  ·intro j d v hj
   rw [show k0 + 1 + j=k0 + (j + 1) by omega]
   exact h2 (j + 1) d v (by omega)
theorem Sep.focus {G H:Hp} {O:Own} {i:Nat} (gh:aD G H) (og:∀ a l,O a=some l→G a=none):∀ {p:List Nat} {d:D} {π:List Nat} {v:V} {ds:List D},Sep G H O i d π v→ff p d=some (.lst ds) →
 ∃ a xs,b5 H p v (.ref a)∧O a=some (i,p.reverse++π)∧H a=some (.lst xs)∧Seps G H O i ds 0 (p.reverse++π) xs ∧
  ∀ ds' xs',Seps G H O i ds' 0 (p.reverse++π) xs'→Sep G (upd H a (.lst xs')) O i (i_ p d (.lst ds')) π v
 | [],d,π,v,ds,h,g=>by
  cases g
  rw [Sep] at h
  obtain ⟨a,xs,rfl,h1,h2,h3⟩:=h
  refine ⟨a,xs,rfl,h1,h2,h3,fun ds' xs' h'=>?_⟩
  show Sep G _ O i (.lst ds') π _
  rw [Sep]
  refine ⟨a,xs',rfl,h1,av,h'.keep (fun _ _ z=>z) fun b τ hτ q=>⟨q,ah fun z=>?_⟩⟩
  rw [z,h1] at q
  have:=congrArg List.length (Prod.mk.inj (Option.some.inj q)).2
  simp at this
  exact hτ this
 | c :: p,d,π,v,ds,h,g=>by
  change (match eV d c with | some e=>ff p e | none=>none)=_ at g
  cases q:eV d c with
  | none=>rw [q] at g; cases g
  | some d1 =>
   rw [q] at g
   have other:∀ (a b:Addr) (j:Nat) (τ:List Nat),O a=some (i,p.reverse++c :: π)→O b=some (i,τ++j :: π)→j≠c→b≠a:=fun a b j τ ha hb hj z=>by
    rw [z,ha] at hb
    have e:=congrArg List.reverse (Prod.mk.inj (Option.some.inj hb)).2
    simp at e
    exact hj e.1.symm
   have lab:(c :: p).reverse++π=p.reverse++c :: π:=by simp
   have hset:∀ x,i_ (c :: p) d x=putS d c (i_ p d1 x):=fun x=>by
    show (match eV d c with | some e=>putS d c (i_ p e x) | none=>d)=_
    rw [q]
   cases d with
   | lst es =>
    rw [Sep] at h
    obtain ⟨a0,ys,rfl,h1,h2,h3⟩:=h
    obtain ⟨w,e1,e2⟩:=h3.at (j:=c) q
    rw [Nat.zero_add] at e2
    obtain ⟨a,xs,k1,k2,k3,k4,k5⟩:=Sep.focus gh og e2 g
    have n0:a0≠a:=fun z=>by
     rw [← z,h1] at k2
     have:=congrArg List.length (Prod.mk.inj (Option.some.inj k2)).2
     simp at this
     omega
    refine ⟨a,xs,⟨ys,w,⟨a0,rfl,.inl h2⟩,e1,k1⟩,by rw [lab]; exact k2,k3,by rw [lab]; exact k4,fun ds' xs' h'=>?_⟩
    rw [hset]
    show Sep G _ O i (.lst (es.set c _)) π _
    rw [Sep]
    refine ⟨a0,ys,rfl,h1,by rw [ah n0]; exact h2,?_⟩
    refine h3.repl e1 (by rw [Nat.zero_add]; exact k5 ds' xs' (by rw [lab] at h'; exact h')) fun j d v hj s=>?_
    rw [Nat.zero_add] at s ⊢
    exact s.keep (fun _ _ z=>z) fun b τ qb=>⟨qb,ah (other a b j τ k2 qb hj)⟩
   | tup es =>
    rw [Sep] at h
    obtain ⟨a0,ys,rfl,h1,h3⟩:=h
    obtain ⟨w,e1,e2⟩:=h3.at (j:=c) q
    rw [Nat.zero_add] at e2
    obtain ⟨a,xs,k1,k2,k3,k4,k5⟩:=Sep.focus gh og e2 g
    refine ⟨a,xs,⟨ys,w,⟨a0,rfl,.inr (.inl (gh _ _ h1))⟩,e1,k1⟩,by rw [lab]; exact k2,k3,by rw [lab]; exact k4,fun ds' xs' h'=>?_⟩
    rw [hset]
    show Sep G _ O i (.tup (es.set c _)) π _
    rw [Sep]
    refine ⟨a0,ys,rfl,h1,?_⟩
    refine h3.repl e1 (by rw [Nat.zero_add]; exact k5 ds' xs' (by rw [lab] at h'; exact h')) fun j d v hj s=>?_
    rw [Nat.zero_add] at s ⊢
    exact s.keep (fun _ _ z=>z) fun b τ qb=>⟨qb,ah (other a b j τ k2 qb hj)⟩
   | obj Cc ks es =>
    rw [Sep] at h
    obtain ⟨a0,dx,ys,rfl,h1,h2,hl,h3⟩:=h
    obtain ⟨w,e1,e2⟩:=h3.at (j:=c) q
    rw [Nat.zero_add] at e2
    obtain ⟨a,xs,k1,k2,k3,k4,k5⟩:=Sep.focus gh og e2 g
    have n0:a0≠a:=fun z=>by
     rw [← z,h1] at k2
     have:=congrArg List.length (Prod.mk.inj (Option.some.inj k2)).2
     simp at this
     omega
    refine ⟨a,xs,⟨ys,w,⟨a0,rfl,.inr (.inr ⟨Cc,dx,ks,h2,hl.trans h3.length.symm⟩)⟩,e1,k1⟩,by rw [lab]; exact k2,k3,by rw [lab]; exact k4,fun ds' xs' h'=>?_⟩
    rw [hset]
    show Sep G _ O i (.obj Cc ks (es.set c _)) π _
    rw [Sep]
    refine ⟨a0,dx,ys,rfl,h1,by rw [ah n0]; exact h2,by rw [List.length_set]; exact hl,?_⟩
    refine h3.repl e1 (by rw [Nat.zero_add]; exact k5 ds' xs' (by rw [lab] at h'; exact h')) fun j d v hj s=>?_
    rw [Nat.zero_add] at s ⊢
    exact s.keep (fun _ _ z=>z) fun b τ qb=>⟨qb,ah (other a b j τ k2 qb hj)⟩
   | _=>cases q
section
variable {C:Ctx} {ow:List Bool} {G:Hp} {ρ:DSt} {σ:St} {H:Hp} {pd:List (D×V)} {O:Own}
theorem RO.writeP (h:RO C ow G ρ σ H pd O) {i:Nat} {p:List Nat} {d:D} {ds:List D} (e : ρ[i]? = some (some d)) (hp:ff p d=some (.lst ds)) (hi:ow[i]? = some true) :
 ∃ v a xs,σ[i]? = some (some v)∧b5 H p v (.ref a)∧H a=some (.lst xs)∧Seps G H O (2 * i) ds 0 p.reverse xs ∧
  ∀ ds' xs',Seps G H O (2 * i) ds' 0 p.reverse xs'→RO C ow G (ρ.set i (some (i_ p d (.lst ds')))) σ (upd H a (.lst xs')) pd O:=by
 obtain ⟨v,hv,s⟩:=h.sl i _ e
 rw [if_pos hi] at s
 obtain ⟨a,xs,k1,k2,k3,k4,k5⟩:=Sep.focus h.gh (fun a l e=>(h.og a l e).1) s hp
 rw [List.append_nil] at k2 k4 k5
 refine ⟨v,a,xs,hv,k1,k3,k4,fun ds' xs' hs'=>?_⟩
 obtain ⟨g0,_,nw⟩:=h.og a _ k2
 have ne:∀ b l π,O b=some (l,π)→l≠2 * i→b≠a:=fun b l π q n z=>by
  rw [z,k2] at q
  exact n (Prod.mk.inj (Option.some.inj q)).1.symm
 refine ⟨by simp [h.len],?_,h.g0,h.gn,?_,h.cok,?_,?_,?_,h.mp,?_,?_,h.np⟩
 ·intro b o q
  rw [ah (fun z=>by rw [z,g0] at q; cases q)]; exact h.gh _ _ q
 ·intro b l q
  obtain ⟨q1,⟨ys,q2⟩,q3⟩:=h.og b l q
  refine ⟨q1,?_,q3⟩
  by_cases z:b=a
  ·subst z; exact ⟨.inl _,av⟩
  ·rw [ah z]; exact ⟨ys,q2⟩
 ·intro b o q n t
  by_cases z:b=a
  ·subst z
   rcases nw with nw | ⟨_,nw⟩
   ·rw [nw] at q; cases q
   ·rw [nw] at n; cases n
  ·rw [ah z]; exact h.fr b o q n t
 ·intro b ps q e
  by_cases z:b=a
  ·subst z; rw [av] at e; cases e
  ·rw [ah z] at e; exact h.ft b ps q e
 ·intro b q
  by_cases z:b=a
  ·subst z; rw [av] at q; cases q
  ·rw [ah z] at q; exact h.al b q
 ·intro j u q
  rcases df q with ⟨rfl,z⟩ | ⟨z,q'⟩
  ·cases z
   exact ⟨v,hv,by rw [if_pos hi]; exact k5 ds' xs' hs'⟩
  ·obtain ⟨w,h1,h2⟩:=h.sl j u q'
   refine ⟨w,h1,?_⟩
   split at h2
   ·rename_i c; rw [if_pos c]; exact h2.keep (fun _ _ z=>z) fun b τ q=>⟨q,ah (ne b _ _ q (by omega))⟩
   ·rename_i c; rw [if_neg c]; exact h2
 ·exact bK.keep (fun _ _ z=>z) (fun b j π hj q=>⟨q,ah (ne b _ _ q (fun z=>cG z.symm))⟩) h.pn
end
abbrev MN0:=DSt→(Int→Prop)→Prop
def SN0 (ow:List Bool) (t:TE) (m:MN0):Prop:=∀ (C:Ctx) (G:Hp) (ρ:DSt) (σ:St) (H:Hp) (pd:List (D×V)) (q:Int→Prop) (Q:VK),R C ow G ρ σ H pd→m ρ q→(∀ n,q n→Q (.int n) H)→t σ H Q
structure QN0 (X:Cx) (ow:List Bool) (e:Expr) (m:MN0):Prop where
 ex:∃ t,PE X e t∧SN0 ow t m
section
variable {X:Cx} {ow:List Bool} {a b e:Expr} {pos:Pos} {ma mb:MN0}
theorem fW {i j}:QN0 X ow (.Constant (.int i) j pos) (fun _ q=>q i):=⟨_,o5,fun C G ρ σ H pd q Q r h k=>k _ h⟩
end
abbrev MPt:=DSt→(List Nat→D→Prop)→Prop
def SPt (ow:List Bool) (i:Nat) (t:TE) (m:MPt):Prop:=∀ (C:Ctx) (G:Hp) (ρ:DSt) (σ:St) (H:Hp) (pd:List (D×V)) (O:Own) (q:List Nat→D→Prop) (Q:VK),RO C ow G ρ σ H pd O→m ρ q →
 (∀ p d0 e v0 v,q p e→ρ[i]? = some (some d0)→ff p d0=some e→σ[i]? = some (some v0)→b5 H p v0 v→Q v H)→t σ H Q
structure QPt (X:Cx) (ow:List Bool) (i:Nat) (e:Expr) (m:MPt):Prop where
 ex:∃ t,PE X e t∧SPt ow i t m
theorem RO.walk {C:Ctx} {ow:List Bool} {G:Hp} {ρ:DSt} {σ:St} {H:Hp} {pd:List (D×V)} {O:Own} (h:RO C ow G ρ σ H pd O) {i:Nat} {p:List Nat} {d e:D} (e1 : ρ[i]? = some (some d)) (hp:ff p d=some e) :
 ∃ v u,σ[i]? = some (some v)∧b5 H p v u∧∃ G',aD G' H∧b5 G' p v u∧Rep G' e u:=by
 obtain ⟨v,hv,_⟩:=h.sl i _ e1
 have r:=h.enter [i]
 obtain ⟨v',hv',s⟩:=r.sl i _ e1
 rw [hv] at hv'; cases hv'
 rw [if_neg (fun z=>by rw [cm] at z; simp at z)] at s
 obtain ⟨u,k1,k2⟩:=Rep.walk s hp
 exact ⟨v,u,hv,k1.mono r.gh,_,r.gh,k1,k2⟩
section
variable {X:Cx} {M:Md} {ow:List Bool} {i:Nat} {a b e:Expr} {pos:Pos} {mp:MPt} {mz:MN0} {ma:ME}
theorem jx {x:Str} (hN:X.N[i]? = some x:=by rfl) (hv:Vis X.env.scope x:=by first | exact Or.inl rfl | exact Or.inr (Or.inl rfl) | exact Or.inr (Or.inr rfl)) (hd:(x == ("__debug__":Str))=false:=by decide)
 (hcd:(x == ("__classdict__":Str))=false:=by decide):QPt X ow i (.Name x pos) (fun ρ q=>∃ d,ρ[i]? = some (some d)∧q [] d):=⟨_,dX hN hv hd hcd,fun C G ρ σ H pd O q Q r h k=>by
 obtain ⟨d,e,hq⟩:=h
 obtain ⟨v,h1,_⟩:=r.sl i _ e
 exact ⟨v,h1,k [] d d v v hq e rfl h1 rfl⟩⟩
def mPIx (mp:MPt) (mz:MN0):MPt:=fun ρ q=>mp ρ fun p d=>mz ρ fun n=>∃ c e,ixN (lenD d) n=some c∧eV d c=some e∧q (p++[c]) e
theorem jq (ha:QPt X ow i a mp) (hb:QN0 X ow b mz) (hs:ii b:=by exact fun _ _=>rfl):QPt X ow i (.Subscript a b pos) (mPIx mp mz):=by
 obtain ⟨ta,pa,sa⟩:=ha; obtain ⟨tb,pb,sb⟩:=hb
 refine ⟨_,qU au pa pb hs,fun C G ρ σ H pd O q Q r h k=>?_⟩
 refine sa C G ρ σ H pd O _ _ r h fun p d0 d v0 v hq e1 e2 e3 wk=>?_
 refine sb C G ρ σ H pd _ _ ⟨O,r⟩ hq fun n hn=>?_
 obtain ⟨c,e,h1,h2,hq⟩:=hn
 obtain ⟨v',u,g1,g2,G',sG,g3,g4⟩:=r.walk e1 e2
 rw [e3] at g1; cases g1
 obtain rfl:=wk.one g2
 have hx:∃ bb xs w,v=V.ref bb∧(H bb=some (.lst xs)∨H bb=some (.tup xs))∧xs.length=lenD d∧xs[c]? = some w:=by
  cases d with
  | lst ds =>
   rw [Rep] at g4
   obtain ⟨bb,xs,rfl,f1,f2⟩:=g4
   obtain ⟨w,d',w1,w2,w3⟩:=d6 (r:=c) f2 (List.getElem?_eq_some_iff.mp h2).1
   exact ⟨bb,xs,w,rfl,.inl (sG _ _ f1),f2.length,w1⟩
  | tup ds =>
   rw [Rep] at g4
   obtain ⟨bb,xs,rfl,f1,f2⟩:=g4
   obtain ⟨w,d',w1,w2,w3⟩:=d6 (r:=c) f2 (List.getElem?_eq_some_iff.mp h2).1
   exact ⟨bb,xs,w,rfl,.inr (sG _ _ f1),f2.length,w1⟩
  | obj C ks ds=>change ixN 0 n=some c at h1; unfold ixN at h1; exfalso; split at h1 <;> split at h1 <;> first | omega | cases h1
  | _=>cases h2
 obtain ⟨bb,xs,w,rfl,f1,f2,f3⟩:=hx
 have at1:atI xs n=some w:=by unfold atI; rw [f2,h1]; exact f3
 have fin:Q w H:=k (p++[c]) d0 e v0 w hq e1 (by rw [gU e2]; exact h2) e3 (wk.snoc ⟨bb,rfl,f1.elim .inl fun z=>.inr (.inl z)⟩ f3)
 rcases f1 with f1 | f1
 ·exact .inl ⟨bb,xs,n,w,rfl,rfl,SqL.of f1,at1,fin⟩
 ·exact .inr (.inl ⟨bb,xs,n,w,rfl,rfl,SqT.of f1,at1,fin⟩)
def mAppP (i:Nat) (mp:MPt) (m:ME):MS:=fun n ρ=>mp ρ fun p e=>∃ d0 ds,e = .lst ds∧ρ[i]? = some (some d0)∧m ρ fun d ρ1=>imm d=true∧ds.length<1000∧n.nx (ρ1.set i (some (i_ p d0 (.lst (ds++[d])))))
theorem kG {apos cpos:Pos} (hp:QPt X M.ow i a mp) (he:QE X (bor [i] M.ow) e ma) (ho:M.ow[i]? = some true:=by decide)
 (hbase:attributeBase a "append" X.env (eval a X.env)=eval a X.env:=by rfl)
 (hfew:((backTo cpos (starEach [e] X.env)).all (fun x=>!x.1)&&(backToKw cpos (keywordEach [] X.env)).all (fun x=>x.1.isSome)
  && decide ([e].length + ([]:List Keyword).length + (if ([]:List Keyword).isEmpty then 0 else 1)<30))=true:=by rfl)
 (hline:(apos.endLine == cpos.line)=true:=by rfl) (hst:starEach [e] X.env=[(false,eval e X.env)]:=by rfl)
 (hs:swapsWith (.Call (.Attribute a "append" apos) [e] [] cpos) none pos.line X.env=pure false:=by rfl) :
 QS X M (.Expr (.Call (.Attribute a "append" apos) [e] [] cpos) pos) (mAppP i mp ma):=by
 obtain ⟨t,p,s⟩:=he; obtain ⟨t1,p1,s1⟩:=hp
 refine ⟨_,cq (oh PySem.F.plainAttrs_list PySem.F.slot_list_append PySem.F.type_list_append gK p1 (aL p bw hst) hbase hfew hline hst (by rfl)) hs,fun C G ρ σ H n D hm hn r h k=>?_⟩
 obtain ⟨O,ro⟩:=r
 refine s1 C G ρ σ H [] O _ _ ro h fun p d0 e v0 u hq e1 e2 e3 wk=>?_
 obtain ⟨d0',ds,rfl,e1',hq⟩:=hq
 rw [e1] at e1'; cases e1'
 have rb:=ro.enter [i]
 obtain ⟨v',hv',sb⟩:=rb.sl i _ e1
 rw [e3] at hv'; cases hv'
 rw [if_neg (fun z=>by rw [cm] at z; simp at z)] at sb
 obtain ⟨u',k1,k2⟩:=Rep.walk sb e2
 cases (k1.mono rb.gh).one wk
 rw [Rep] at k2
 obtain ⟨a1,xs1,rfl,f1,f2⟩:=k2
 refine ⟨.inl ⟨rfl,xs1,SqL.of (rb.gh _ _ f1)⟩,?_⟩
 refine s _ _ ρ σ H [] _ _ ⟨_,rb⟩ hq fun d ρ' v G' H' hq z kp r' pv=>?_
 obtain ⟨O',r'⟩:=r'
 obtain ⟨r2,z2,ts⟩:=ro.leave r' kp
 have ei : ρ'[i]? = some (some d0):=by rw [kp i (fun z=>by rw [cm] at z; simp at z)]; exact e1
 obtain ⟨v1,a2,xs2,g1,g2,g3,g4,g5⟩:=r2.writeP ei e2 ho
 rw [e3] at g1; cases g1
 have k3:b5 H' p v0 (.ref a1):=(k1.mono z).mono r'.gh
 cases k3.one g2
 refine ⟨a1,xs2,v,rfl,rfl,g3,by rw [g4.length]; exact de (Nat.le_of_lt hq.2.1),?_⟩
 exact k.nx _ _ _ _ hq.2.2 z2 ⟨_,g5 _ _ (g4.snoc (by rw [Nat.zero_add]; exact (pv.imms ts d v hq.1).sep d _ v hq.1))⟩
def mClrP (i:Nat) (mp:MPt):MS:=fun n ρ=>mp ρ fun p e=>∃ d0 ds,e = .lst ds∧ρ[i]? = some (some d0)∧n.nx (ρ.set i (some (i_ p d0 (.lst []))))
theorem p_ {apos cpos:Pos} (hp:QPt X M.ow i a mp) (ho:M.ow[i]? = some true:=by decide)
 (hbase:attributeBase a "clear" X.env (eval a X.env)=eval a X.env:=by rfl) (hline:(apos.endLine == cpos.line)=true:=by rfl)
 (hs:swapsWith (.Call (.Attribute a "clear" apos) [] [] cpos) none pos.line X.env=pure false:=by rfl) :
 QS X M (.Expr (.Call (.Attribute a "clear" apos) [] [] cpos) pos) (mClrP i mp):=by
 obtain ⟨t1,p1,s1⟩:=hp
 refine ⟨_,cq (sU PySem.F.plainAttrs_list PySem.F.slot_list_clear PySem.F.type_list_clear l_ p1 hbase hline) hs,fun C G ρ σ H n D hm hn r h k=>?_⟩
 obtain ⟨O,ro⟩:=r
 refine s1 C G ρ σ H [] O _ _ ro h fun p d0 e v0 u hq e1 e2 e3 wk=>?_
 obtain ⟨d0',ds,rfl,e1',hq⟩:=hq
 rw [e1] at e1'; cases e1'
 obtain ⟨v1,a1,xs,g1,g2,g3,g4,g5⟩:=ro.writeP e1 e2 ho
 rw [e3] at g1; cases g1
 cases wk.one g2
 exact ⟨.inl ⟨rfl,xs,SqL.of g3⟩,a1,xs,rfl,rfl,g3,k.nx _ _ G _ hq (aD.refl _) ⟨O,g5 [] [] (by rw [Seps])⟩⟩
end
section
variable {X:Cx} {M:Md} {i:Nat} {pos:Pos} {mg:MG} {m:MS}
end
end L2
namespace L2
open PySem
end L2
namespace L2
open PySem PySem.Spec PyProof.Rows
section
variable {X:Cx}
end
section
variable {X:Cx} {pins:List (Addr×Obj)} {σ:St} {H:Hp} {s:Shared}
end
section
variable {X:Cx} {ow:List Bool} {pos:Pos}
end
section
open AutoSeq1 (wpAny_loadPart')
open MeetsSeq MeetsSeq2 MeetsSeq3
end
section
variable {prog:Program} {w:World} {A:Around} {E:Value→Shared→Prop} {s:Shared}
end
section
variable {X:Cx}
end
section
variable {X:Cx} {ow:List Bool} {pos p1 p2 p3 p4:Pos} {j1 j2 j3 j4:Nat}
end
end L2
namespace L2
open PySem
end L2
namespace L2
open PySem PySem.Spec PyProof.Rows
section
variable {X:Cx} {ow:List Bool} {a b:Expr} {ma mb:DSt→(Int→Prop)→Prop} {pos:Pos}
end
section
variable {C:Ctx} {ow:List Bool} {G G':Hp} {ρ:DSt} {σ:St} {H H':Hp} {pd:List (D×V)} {O O':Own}
end
section
variable {X:Cx} {ow:List Bool} {tg iter:Expr} {ifs:List Expr} {pos pos':Pos} {mi:MA} {mg:MG} {scope:Scope} {cl:List (Str×Addr)}
end
section
variable {X:Cx}
variable {a b:Expr} {mr:MA} {pos:Pos}
end
section
variable {X:Cx} {tg:Expr}
variable {ow:List Bool} {a:Expr} {mr:MA} {pos:Pos}
end
section
variable {X:Cx}
open PySem.Builtin.Str (partsBetween occurrences)
variable {ow:List Bool} {e a b:Expr} {ma mb:ME}
end
section
variable {X:Cx} {tg:Expr}
variable {ow:List Bool} {e:Expr} {ma:ME}
end
end L2
namespace L2
open PySem PySem.Spec PyProof.Rows
section
variable {X:Cx}
end
end L2
namespace L2
open PySem
end L2
namespace L2
open PySem PySem.Spec PyProof.Rows
section
variable {prog:Program} {w:World} {A:Around} {E:Value→Shared→Prop} {s:Shared}
end
section
variable {X:Cx}
end
end L2
namespace L2
open PySem
end L2
namespace L2
open PySem PySem.Spec PyProof.Rows
section
variable {X:Cx} {ow:List Bool} {a b:Expr} {mex:MEX} {mb:ME} {pos:Pos}
end
section
variable {X:Cx} {pos p1 q1:Pos} {n1 n2:Nat} {k1 z:Int} {ow:List Bool}
end
section
variable {X:Cx} {ow:List Bool} {a b:Expr} {ma mb:ME} {pos:Pos}
end
section
variable {K:PySem.W.Frag} {mg:Str→Option Value} {n:Str} {st:Stmt} {ps:List Str} {f:Addr} {d:FuncData}
structure FT (K:PySem.W.Frag) (mg:Str→Option Value) (n:Str) (st:Stmt) (ps:List Str) (f:Addr) (d:FuncData):Prop where
 F:Fun K n n st f d
 b:bS K d ps []
 m:mg n=some (.ref f)
structure FH (K:PySem.W.Frag) (n:Str) (st:Stmt) (f:Addr) (d:FuncData):Prop where
 a:PySem.W.nsIn K mainGlobals n=some (some (.ref f))
 F:Fun K n n st f d
theorem aQ {oc:Value} {od an:Option Addr} {osl:Array (Option Value)} {kV doc pm cdv ct:Value} (a:PySem.W.nsIn K mainGlobals n=some (some (.ref f))) (l:K.lookup f=some ⟨oc,od,.func (PySem.W.fnOf n n (dg st) (bI st) (ag st) .none kV doc pm an cdv ct),osl⟩)
 (c:PySem.W.codeIn K cdv n=true) (k:PySem.W.keepIn K (.ref f)=true):FH K n st f (PySem.W.fnOf n n (dg st) (bI st) (ag st) .none kV doc pm an cdv ct):=⟨a,f7 l c k⟩
theorem FH.ft {h:Heap} (z:FH K n st f d) (X:K.In h) (G:h.Ns mainGlobals mg)
 (hb:∀ (kV doc pm:Value) (an:Option Addr) (cdv ct:Value) (us:List Value),us.length=ps.length→bindArgs (PySem.W.fnOf n n (dg st) (bI st) (ag st) .none kV doc pm an cdv ct) ⟨us,[]⟩=pure (ps.zip us)):FT K mg n st ps f d:=⟨z.F,z.F.binds hb,PySem.W.mg_of X G z.a⟩
theorem aM {N P:List Str} {sc:Scope} (a:sc.kind = .function:=by rfl) (b:sc.isCoroutine=false:=by rfl) (c:sc.isGenerator=false:=by rfl) (d:N.Nodup:=by decide +kernel) (e:N.take P.length=P:=by rfl)
 (g:∀ x∈P,sc.names.lookup x=some .local∨sc.names.lookup x=some .cell:=by decide +kernel) (h:∀ y∈sc.names,y.2≠.free:=by decide +kernel):FnScope N P sc:=⟨a,b,c,d,e,g,h⟩
end
section
variable {X:Cx} {ow:List Bool} {k j:Nat} {f:Addr} {fd:FuncData} {ps:List Str} {mu:List Bool} {sd:SpD} {sx:SpX} {x:Str} {st:Stmt} {ks:List AK} {e:Expr} {es:List Expr} {mr:MA} {pos p':Pos}
theorem am (F:FnOk X.prog X.w X.K X.mg X.base CX0 k f fd ps (bA mu false sd)) (hr:Room j X.A) (t:FT X.K X.mg x st ps f fd) (ha:QAk X ow ks (e :: es) mr) (hj:k≤j:=by decide) (hg:Gl X x:=by rfl) (hmu:mu=ks.map AK.isM:=by rfl) (nd:(aw ks).Nodup:=by decide) (hw:∀ i∈aw ks,ow[i]? = some true:=by decide) (hdb:(x == ("__debug__":Str))=false:=by decide)
 (he:starEach (e :: es) X.env=(false,eval e X.env) :: starEach es X.env:=by rfl) (hpl:(backTo pos (starEach es X.env)).any (·.1)=false:=by rfl):QE X ow (.Call (.Name x p') (e :: es) [] pos) (ka ks sd mr):=qu F (hr.mono hj) hg t.m t.F.kp t.b ha hmu nd hw hdb he hpl
theorem bo (F:FnOk X.prog X.w X.K X.mg X.base CX0 k f fd ps (bA mu true sd)) (hr:Room j X.A) (t:FT X.K X.mg x st ps f fd) (ha:QAk X ow ks (e :: es) mr) (hj:k≤j:=by decide) (hg:Gl X x:=by rfl) (hmu:mu=ks.map AK.isM:=by rfl) (nd:(aw ks).Nodup:=by decide) (hw:∀ i∈aw ks,ow[i]? = some true:=by decide) (hdb:(x == ("__debug__":Str))=false:=by decide)
 (he:starEach (e :: es) X.env=(false,eval e X.env) :: starEach es X.env:=by rfl) (hpl:(backTo pos (starEach es X.env)).any (·.1)=false:=by rfl):QF X ow (.Call (.Name x p') (e :: es) [] pos) (ka ks sd mr):=pC F (hr.mono hj) hg t.m t.F.kp t.b ha hmu nd hw hdb he hpl
theorem bn (F:FnOk X.prog X.w X.K X.mg X.base (CX1 X.prog X.w) k f fd ps (cZ mu false sx)) (hr:Room j X.A) (t:FT X.K X.mg x st ps f fd) (ha:QAk X.nox ow ks (e :: es) mr) (hj:k≤j:=by decide) (hg:Gl X x:=by rfl) (hex:X.ex=[]:=by rfl) (hmu:mu=ks.map AK.isM:=by rfl) (nd:(aw ks).Nodup:=by decide) (hw:∀ i∈aw ks,ow[i]? = some true:=by decide) (hdb:(x == ("__debug__":Str))=false:=by decide)
 (he:starEach (e :: es) X.env=(false,eval e X.env) :: starEach es X.env:=by rfl) (hpl:(backTo pos (starEach es X.env)).any (·.1)=false:=by rfl):QXE X ow (.Call (.Name x p') (e :: es) [] pos) (nY ks sx mr):=mJ F (hr.mono hj) hg t.m t.F.kp t.b ha hex hmu nd hw hdb he hpl
end
section
variable {K:PySem.W.Frag} {C a N:Addr} {dd nd:Option Addr} {nm qn x:Str} {bs bm sub:List Value} {hd ab:Bool} {sn:List Str} {col:Option Bool} {k0 k1 k2 k3 k5 ini:Option Value} {no:Value} {es:Array DictEntry} {np:Nat} {nl:Array (Option Value)}
structure CF (K:PySem.W.Frag) (x:Str) (C:Addr) (bm:List Value) (N:Addr):Prop where
 e:PySem.W.nsIn K mainGlobals x=some (some (.ref C))
 l:∃ (dd:Option Addr) (nm qn:Str) (bs sub:List Value) (hd ab:Bool) (sn:List Str) (col:Option Bool) (k0 k1 k2 k3 k5:Option Value),K.lookup C=some ⟨.type "type",dd,.cls ⟨nm,bs,.ref C :: bm,N,qn,hd,sn,sub,ab,col,false⟩,#[k0,k1,k2,k3,some (.builtin "ValueError.__new__"),k5]⟩
 y:PySem.W.typeIn K (.ref C)=some (.type "type")
theorem cI (e:PySem.W.nsIn K mainGlobals x=some (some (.ref C))) (l:K.lookup C=some ⟨.type "type",dd,.cls ⟨nm,bs,.ref C :: bm,N,qn,hd,sn,sub,ab,col,false⟩,#[k0,k1,k2,k3,some (.builtin "ValueError.__new__"),k5]⟩) (y:PySem.W.typeIn K (.ref C)=some (.type "type")):CF K x C bm N:=⟨e,⟨_,_,_,_,_,_,_,_,_,_,_,_,_,_,l⟩,y⟩
theorem CF.xc (l:CF K x C bm N) (n:PySem.W.nsOkIn K N=true) (t:PySem.W.nsIn K N "__init__" = some ini) (r:PySem.W.tailIn K bmV bm=true):bh K C bm ini=true:=by
 obtain ⟨_,_,_,_,_,_,_,_,_,_,_,_,_,_,l⟩:=l.l
 exact xc_mk l n t r
theorem CF.tail (l:CF K x C bm N) (n:PySem.W.nsOkIn K N=true) (t:PySem.W.nsIn K N "__init__" = some none) (r:PySem.W.tailIn K bmV bm=true):PySem.W.tailIn K bmV (.ref C :: bm)=true:=by
 obtain ⟨_,_,_,_,_,_,_,_,_,_,_,_,_,_,l⟩:=l.l
 exact pP l n t r
structure SNo (K:PySem.W.Frag) (C D:Addr):Prop where
 s:PySem.W.subIn K (.ref C) (.ref D)=some false
 n:(Value.ref C == Value.ref D)=false
theorem CF.own {t:Value} {b:Bool} (l:CF K x C bm N) (s:PySem.W.subIn K t (.ref C)=some b) (ne:b=true∨(t == .ref C)=false):PySem.W.kitOne K t (.ref C)=some b:=by
 obtain ⟨_,_,_,_,_,_,_,_,_,_,_,_,_,_,l'⟩:=l.l
 exact qk l' l.y s ne
theorem CF.nope {D:Addr} (l:CF K x C bm N) (s:SNo K D C):PySem.W.kitOne K (.ref D) (.ref C)=some false:=l.own s.s (.inr s.n)
end
end L2
namespace L2
open PySem PySem.Spec PyProof.Rows PySem.W Att
section
variable {prog:Program} {w:World} {A:Around} {E:Value→Shared→Prop} {s:Shared}
variable {h₀:Heap} {L:Addr} {m:Str→Option Value} {news:List (Addr×Obj)}
end
section
variable {X:Cx} {pins:List (Addr×Obj)} {σ:St} {H:Hp} {s:Shared} {args:Arguments} {body:Expr} {scope:Scope} {pos:Pos} {c P:Addr} {clos:List (Str×Addr)}
end
section
variable {prog:Program} {w:World} {A:Around} {s:Shared} {X:Cx} {args:Arguments} {scope:Scope} {clos:List (Str×Addr)} {cv ctv:Value} {f cc p:Addr} {x y:Str} {p1 p2 p3 p4:Pos}
end
section
variable {X:Cx} {pins:List (Addr×Obj)} {σ:St} {H:Hp} {s:Shared} {args:Arguments} {scope:Scope} {clos:List (Str×Addr)} {cv ctv:Value} {f cc p r:Addr} {x y:Str} {p1 p2 p3 p4:Pos} {n:Nat} {ns:List Int} {t u v:Tok} {Q:Value→Shared→Prop}
end
section
variable {X:Cx} {e:Expr} {te:TE} {x y:Str} {j:Nat} {c P:Addr} {args:Arguments} {scope:Scope} {p1 p2 p3 p4 q1 q2 q3 lp kp pos:Pos}
end
end L2
namespace L2
open PySem PySem.Spec PyProof.Rows PySem.W
section
variable {C:Ctx} {ow:List Bool} {G:Hp} {ρ:DSt} {σ:St} {H H2:Hp} {pd:List (D×V)} {O:Own}
end
section
variable {X:Cx} {ow:List Bool} {e:Expr} {me:ME} {x y:Str} {j:Nat} {c P:Addr} {args:Arguments} {scope:Scope} {p1 p2 p3 p4 q1 q2 q3 lp kp pos:Pos} {k:Nat}
end
end L2
namespace L2
open PySem
end L2
namespace L2
open PySem PySem.Spec PyProof.Rows PySem.W
end L2
namespace L2
open PySem
end L2
namespace L2
open PySem PySem.Spec PyProof.Rows
section
variable {X:Cx} {M:Md} {a b c e:Expr} {ma mb mc:ME} {pos pos':Pos}
end
end L2
namespace L2
open PySem
end L2
namespace L2
open PySem PySem.Spec PyProof.Rows
section
variable {X:Cx}
end
structure ModD (K:PySem.W.Frag) (a:Addr) (kv:List (Str×Int)):Prop where
 ns:(a == sysModules)=false
 ex:∃ (o:Obj) (es:Array DictEntry) (n:Nat),K.lookup a=some o∧o.ExactDict∧o.data = .dict es n∧KTD.Rows (fun (d:Int) (v:Value)=>∃ t,v = .int d t) es.toList kv
def fR (kv:List (Str×Int)) (k:Str):Option Int:=KTD.datumAt k kv
def datK (kv:List (Str×Int)):List (Str×KTD.Dat):=kv.map fun p=>(p.1,.flat (.int p.2))
theorem dJ (k:Str):∀ kv:List (Str×Int),KTD.datumAt k (datK kv)=(fR kv k).map fun n=>.flat (.int n)
 | []=>rfl
 | (x,n) :: kv=>by
  show (if decide (k=x)=true then some _ else KTD.datumAt k (datK kv))=((if decide (k=x)=true then some n else fR kv k)).map _
  by_cases h:decide (k=x)=true
  ·rw [if_pos h,if_pos h]; rfl
  ·rw [if_neg h,if_neg h]; exact dJ k kv
section
variable {X:Cx} {o e:Expr} {apos cpos:Pos} {te:TE} {a:Addr} {kv:List (Str×Int)}
theorem ModD.here (m:ModD X.K a kv) {pins:List (Addr×Obj)} {σ:St} {H:Hp} {s:Shared} (I:Inv X pins σ H s):KTD.Here s.heap s.heap a (datK kv):=by
 obtain ⟨ns,o,es,n,h1,h2,h3,h4⟩:=m
 refine ⟨⟨ns,o,es,n,I.kIn a o h1,h2,h3,?_⟩,fun _ _ h=>h⟩
 exact h4.mono (f:=fun d=>KTD.Dat.flat (.int d)) fun d v ⟨t,hv⟩=>by subst hv; exact .int d t
def tMGet (kv:List (Str×Int)) (te:TE):TE:=fun σ H Q=>te σ H fun y H2=>∃ k,y = .str k∧Q (match fR kv k with | some n=>.int n | none=>.non) H2
theorem qy (md:ModD X.K a kv) (ho:PE X o (tC (.ref a))) (he:PE X e te) (m:M1 X o "get" apos e cpos):PE X (.Call (.Attribute o "get" apos) [e] [] cpos) (tMGet kv te):=by
 (try refine ⟨?_⟩); intro pins s σ H Q I h
 refine wpAny_Call_method m.base m.few m.line PySem.F.plainAttrs_dict PySem.F.slot_dict_get PySem.F.type_dict_get (thn (ho pins s σ H (fun x H1=>x = .ref a∧H1=H) I ⟨rfl,rfl⟩) fun u s1 ⟨x,H1,I1,rx,ex,eH⟩=>?_)
 subst ex eH
 obtain rfl:u=Value.ref a:=rx
 have T1:=md.here I1
 refine ⟨T1.typeIs,T1.noDict,?_⟩
 rw [m.trees]
 refine Calls.callWith_builtin rfl (Calls.evalArgs_plain (Calls.spliced_cons (thn (he pins s1 σ H1 _ I1 h) fun iv s2 ⟨y,H2,I2,ry,k,ey,q2⟩=>Calls.spliced_nil ?_)))
 subst ey
 obtain ⟨tk,rfl⟩:=ry
 have T2:=md.here I2
 refine call_meetsIn PySem.F.slot_dict_get T2.typeIs PySem.F.entry_dict_get (PySem.F.args_dict_get_2 _ _) (KTD.meets_get1 (h₀:=s2.heap) (D:=datK kv)) ⟨T2,fun d v hd hv=>?_,fun hd=>?_⟩
 ·rw [dJ] at hd
  cases hl:fR kv k with
  | none=>rw [hl] at hd; cases hd
  | some n =>
   rw [hl] at hd q2
   cases hd
   obtain ⟨t,rfl⟩:=PyProof.V.Flat.int_inv hv
   exact ⟨.int n,H2,I2.tok _,⟨_,rfl⟩,q2⟩
 ·rw [dJ] at hd
  cases hl:fR kv k with
  | none=>rw [hl] at q2; exact ⟨.non,H2,I2.tok _,rfl,q2⟩
  | some n=>rw [hl] at hd; cases hd
end
section
variable {X:Cx} {ow:List Bool} {b:Expr} {mb:ME} {pos apos cpos:Pos}
def mMGet (kv:List (Str×Int)) (mb:ME):ME:=fun ρ q=>mb ρ fun y ρ'=>match y with
 | .str k=>q (match fR kv k with | some n=>.int n | none=>.non) ρ'
 | _=>False
theorem pJ {x:Str} {a:Addr} {kv:List (Str×Int)} (hg:Gl X x) (hm:X.mg x=some (.ref a)) (md:ModD X.K a kv) (hb:QE X ow b mb) (hd:(x == ("__debug__":Str))=false:=by decide) (m:M1 X (.Name x pos) "get" apos b cpos:=by exact ⟨rfl,rfl,rfl,rfl⟩) :
 QE X ow (.Call (.Attribute (.Name x pos) "get" apos) [b] [] cpos) (mMGet kv mb):=by
 obtain ⟨tb,pb,sb⟩:=hb
 refine ⟨_,qy md (fH (v:=.ref a) hg hm rfl hd) pb m,fun C G ρ σ H pd q Q hr h k=>?_⟩
 refine sb C G ρ σ H pd _ _ hr h fun d ρ1 v G1 H1 h1 z1 kp1 r1 p1=>?_
 cases d with
 | str y =>
  rw [Rep] at p1
  refine ⟨y,p1,k _ ρ1 _ G1 H1 h1 z1 kp1 r1 ?_⟩
  cases fR kv y with
  | none=>exact fL
  | some n=>exact bD n
 | _=>exact h1.elim
end
theorem gJ {G:Hp}:∀ {ds:List D} {xs:List V} {k:Nat} {d:D},Reps G ds xs→ds[k]? = some d→∃ v,xs[k]? = some v∧Rep G d v
 | [],_,_,_,_,h=>by cases h
 | d :: ds,xs,k,d',h,e=>by
  rw [Reps] at h
  obtain ⟨v,vs,rfl,h1,h2⟩:=h
  cases k with
  | zero=>cases e; exact ⟨v,rfl,h1⟩
  | succ k =>
   obtain ⟨v',q1,q2⟩:=gJ (k:=k) (d:=d') h2 (by simpa using e)
   exact ⟨v',by simpa using q1,q2⟩
theorem gm {G:Hp}:∀ {ds:List D} {xs:List V},Reps G ds xs→∀ k:Nat,Reps G (ds.eraseIdx k) (xs.eraseIdx k)
 | [],xs,h,k=>by rw [Reps] at h; subst h; rw [List.eraseIdx_nil,List.eraseIdx_nil]; exact bp
 | d :: ds,xs,h,k=>by
  rw [Reps] at h
  obtain ⟨v,vs,rfl,h1,h2⟩:=h
  cases k with
  | zero=>exact h2
  | succ k=>exact bq h1 (gm h2 k)
theorem gg:∀ {ds:List D},imms ds=true→∀ k:Nat,imms (ds.eraseIdx k)=true
 | [],h,k=>by rw [List.eraseIdx_nil]; exact h
 | d :: ds,h,k=>by
  rw [imms,Bool.and_eq_true] at h
  cases k with
  | zero=>exact h.2
  | succ k=>show imms (d :: ds.eraseIdx k)=true; rw [imms,h.1,gg h.2 k]; rfl
section
variable {X:Cx}
def rPopD:V→List V→Hp→VK→Prop:=fun x vs H Q=>∃ (l:Addr) (xs:List V) (k:Int) (v:V),x = .ref l∧vs=[.int k]∧H l=some (.lst xs)∧0≤k∧xs[k.toNat]? = some v∧Q v (upd H l (.lst (xs.eraseIdx k.toNat)))
theorem pF:MtM X "list.pop" rPopD:=by
 (try refine ⟨?_⟩); intro pins s σ H x vs v us Q I rx rv h
 obtain ⟨l,xs,k,vv,rfl,rfl,hH,k0,hv,q⟩:=h
 cases rx
 obtain ⟨u,rfl,ru⟩:=rv.one
 obtain ⟨t,rfl⟩:=ru
 obtain ⟨z,its,n,r,hl,e⟩:=I.lstM hH
 obtain ⟨w',hw,rw'⟩:=r.get hv
 have hk:k.toNat<its.length:=(List.getElem?_eq_some_iff.mp hw).1
 have hz:its.length≤sizeLine:=by
  have:=r.length
  rw [← this]; exact z
 refine call_meets F.slot_list_pop ⟨_,e,rfl⟩ F.entry_list_pop (F.args_list_pop_2 _ _)
  (MeetsSeq.list_pop_at l its.toArray n k t k.toNat w' ?_ ?_ ?_ (by rw [List.size_toArray]; exact hz)) ⟨e,?_⟩
 ·have hz2:its.length≤2 ^ 24:=hz
  unfold Builtin.List.listFitsIndex
  simp
  omega
 ·unfold seqIndex?
  simp [show ¬ k<0 by omega]
  omega
 ·rw [List.getElem?_toArray]; exact hw
 ·refine ⟨vv,_,I.lset (its':=its.eraseIdx k.toNat) hH e ?_ ?_ ?_,rw',q⟩
  ·rw [List.eraseIdxIfInBounds_toArray]
  ·exact r.eraseIdx _
  ·have:=List.length_eraseIdx_le (l:=xs) (i:=k.toNat)
   omega
end
section
variable {X:Cx} {M:Md} {e:Expr} {ma:ME} {pos:Pos}
def qZ (i:Nat) (m:ME):ME:=fun ρ q=>match ρ[i]? with
 | some (some (.lst _))=>m ρ fun d ρ1=>match ρ1[i]? with
  | some (some (.lst ds))=>∃ (dv:D) (k:Int),d = .int k∧imms ds=true∧0≤k∧ds[k.toNat]? = some dv∧q dv (ρ1.set i (some (.lst (ds.eraseIdx k.toNat))))
  | _=>False
 | _=>False
theorem qq {ow:List Bool} {i:Nat} {x:Str} {apos cpos npos:Pos} (hN:X.N[i]? = some x) (he:QE X ow e ma) (ho:ow[i]? = some true:=by decide)
 (hv:Vis X.env.scope x:=by first | exact Or.inl rfl | exact Or.inr (Or.inl rfl) | exact Or.inr (Or.inr rfl)) (hd:(x == ("__debug__":Str))=false:=by decide) (hcd:(x == ("__classdict__":Str))=false:=by decide)
 (hbase:attributeBase (.Name x npos) "pop" X.env (eval (.Name x npos) X.env)=eval (.Name x npos) X.env:=by rfl)
 (hfew:((backTo cpos (starEach [e] X.env)).all (fun x=>!x.1)&&(backToKw cpos (keywordEach [] X.env)).all (fun x=>x.1.isSome)
  && decide ([e].length + ([]:List Keyword).length + (if ([]:List Keyword).isEmpty then 0 else 1)<30))=true:=by rfl)
 (hline:(apos.endLine == cpos.line)=true:=by rfl) (hst:starEach [e] X.env=[(false,eval e X.env)]:=by rfl) :
 QE X ow (.Call (.Attribute (.Name x npos) "pop" apos) [e] [] cpos) (qZ i ma):=by
 obtain ⟨t,p,s⟩:=he
 refine ⟨_,oh PySem.F.plainAttrs_list PySem.F.slot_list_pop PySem.F.type_list_pop pF (dX hN hv hd hcd) (aL p bw hst) hbase hfew hline hst (by rfl),fun C G ρ σ H pd q Q r h k=>?_⟩
 unfold qZ at h
 split at h
 ·rename_i ds e1
  obtain ⟨O,ro⟩:=r
  obtain ⟨a,xs,h1,h2,_,_⟩:=ro.write e1 ho
  refine ⟨.ref a,h1,.inl ⟨rfl,xs,SqL.of h2⟩,?_⟩
  refine s C G ρ σ H pd _ _ ⟨O,ro⟩ h fun d ρ' v G' H' hq z kp r' pd'=>?_
  split at hq
  ·rename_i ds' e2
   obtain ⟨dv,kk,rfl,him,k0,hdv,hq⟩:=hq
   obtain ⟨O',r'⟩:=r'
   obtain ⟨a',xs',g1,g2,g3,g4⟩:=r'.write e2 ho
   rw [h1] at g1; cases g1
   have hr:=Seps.imm _ _ _ _ him g3
   obtain ⟨vv,hv1,hv2⟩:=gJ hr hdv
   refine ⟨a,xs',kk,vv,rfl,by rw [aG pd'],g2,k0,hv1,?_⟩
   exact k _ _ _ G' _ hq z (fun j hj=>(List.getElem?_set_ne (fun (z:i=j)=>hj (z ▸ ho))).trans (kp j hj)) ⟨O',g4 _ _ (Reps.sep _ _ _ _ (gg him _) (gm hr _))⟩ hv2
  ·exact hq.elim
 ·exact h.elim
end
section
variable {X:Cx}
theorem o9 {body:List Stmt} {h0:ExceptHandler} {hs:List ExceptHandler} {pos:Pos} {t:TS} (hx:∀ e s,X.xe e s→False) (hb:PSs X body t) :
 PS X (.Try body (h0 :: hs) [] [] pos) t:=by
 refine ⟨fun pins s σ H D I h=>?_⟩
 refine wpAny_Try_except ?_
 refine wpAny_mono (hb pins s σ H D I h) (fun f s' q=>?_) fun e s' q=>(hx e s' q).elim
 cases f with
 | next=>exact wpAny_execs_nil q
 | ret v=>exact q
 | brk=>exact q
 | cont=>exact q
theorem pS {M:Md} {body:List Stmt} {h0:ExceptHandler} {hs:List ExceptHandler} {pos:Pos} {m:MS} (hx:∀ e s,X.xe e s→False) (hb:QSs X M body m) :
 QS X M (.Try body (h0 :: hs) [] [] pos) m:=by
 obtain ⟨t,p,s⟩:=hb
 exact ⟨t,o9 hx p,s⟩
end
section
variable {X:Cx} {pos:Pos}
def tPar3 (i j k:Nat) (ta:TA):TS:=fun D σ H=>ta σ H fun vs H1=>∃ u v w,vs=[u,v,w]∧D.nx (((σ.set k (some w)).set j (some v)).set i (some u)) H1
theorem qh {i j k:Nat} {x y z:Str} {a b c:Expr} {ta:TA} {px py pz pt:Pos} {kt k2 pt2} (hc:X.calm=true) (hN:X.N.Nodup) (hi:X.N[i]? = some x) (hj:X.N[j]? = some y) (hk:X.N[k]? = some z)
 (hx:X.env.scope.names.lookup x=some .local) (hy:X.env.scope.names.lookup y=some .local) (hz:X.env.scope.names.lookup z=some .local) (ha:PA X [a,b,c] ta)
 (hw:swappedStores [.Tuple [.Name x px,.Name y py,.Name z pz] kt pt] (.Tuple [a,b,c] k2 pt2) X.env=pure (some [x,y,z]))
 (hs:swapsWithSole [.Tuple [.Name x px,.Name y py,.Name z pz] kt pt] (.Tuple [a,b,c] k2 pt2) pos.line X.env=pure false:=by rfl) :
 PS X (.Assign [.Tuple [.Name x px,.Name y py,.Name z pz] kt pt] (.Tuple [a,b,c] k2 pt2) pos) (tPar3 i j k ta):=by
 (try refine ⟨?_⟩); intro pins s σ H D I h
 rw [exec_Assign_arm]
 refine wpAny_bind (wpAny_standAt ?_)
 rw [hs]
 refine wpAny_bind (wpAny_pure ?_)
 rw [if_neg (by decide)]
 refine wpAny_bind (Tuple_ (thn (ha _ pins s σ H _ I h) fun us s1 ⟨vs,H1,I1,r1,q1⟩=>?_))
 obtain ⟨u,v,w,e1,q1⟩:=q1
 subst e1
 obtain ⟨u1,u2,u3,rfl,ru,rv,rw'⟩:∃ u1 u2 u3,us=[u1,u2,u3]∧aX u u1∧aX v u2∧aX w u3:=by
  cases r1 with
  | cons p q =>
   cases q with
   | cons p' q' =>
    cases q' with
    | cons p2 q2 =>
     cases q2
     exact ⟨_,_,_,rfl,p,p',p2⟩
 refine wpAny_newObj_type ?_ (by show 3≤sizeLine; decide)
 have I2:Inv X pins σ H1 { s1 with heap:=s1.heap.push { cls:=.type "tuple",data:=.seq [u1,u2,u3].toArray } }:=I1.kept (t':=s1.toks) fun b o e=>Heap.get?_push_of_some _ e
 rw [hw]
 refine wpAny_bind (wpAny_pure ?_)
 show wpAny (model X.prog X.w) X.A (do rule "assign.swapped-stores"; let items ← unpackItems (.ref s1.heap.objs.size) 3 none; assignInOrder [fun v=>bindName X.env z v,fun v=>bindName X.env y v,fun v=>bindName X.env x v] items.reverse; pure Flow.next) _ _ _
 refine wpAny_bind (wpAny_rule (wpAny_bind (unpackItems_tuple (items:=#[u1,u2,u3]) (I.ok.hd hc) (IsTup.new s1.heap _) fun h' hx'=>?_)))
 have I3:=I2.kept (h':=h') (t':=s1.toks) fun b o e=>hx' b o (Nat.ne_of_lt (Heap.lt_size e)) e
 show wpAny _ _ (assignInOrder [fun v=>bindName X.env z v,fun v=>bindName X.env y v,fun v=>bindName X.env x v] [u3,u2,u1] >>= fun _=>pure Flow.next) _ _ _
 refine wpAny_bind (assignInOrder_cons (wpAny_bindName (b7 I3 hN hk (.inl hz) rw' (fun s2 I4=>?_) (.inr hz))))
 refine assignInOrder_cons (wpAny_bindName (b7 I4 hN hj (.inl hy) rv (fun s3 I5=>?_) (.inr hy)))
 refine assignInOrder_cons (wpAny_bindName (b7 I5 hN hi (.inl hx) ru (fun s4 I6=>assignInOrder_nil (wpAny_pure ?_)) (.inr hx)))
 exact ⟨_,H1,I6,q1⟩
end
section
variable {X:Cx} {M:Md} {a b c:Expr} {ma mb mc:ME} {pos:Pos}
def mPar3 (i j k:Nat) (ma mb mc:ME):MS:=fun D ρ=>ma ρ fun x ρ1=>mb ρ1 fun y ρ2=>mc ρ2 fun z ρ3=>D.nx (((ρ3.set k (some z)).set j (some y)).set i (some x))
theorem lU {i j k:Nat} {x y z:Str} {px py pz pt:Pos} {kt k2 pt2} (hc:X.calm=true) (hN:X.N.Nodup) (hi:X.N[i]? = some x) (hj:X.N[j]? = some y) (hk:X.N[k]? = some z)
 (hx:X.env.scope.names.lookup x=some .local) (hy:X.env.scope.names.lookup y=some .local) (hz:X.env.scope.names.lookup z=some .local) (ha:QF X M.ow a ma) (hb:QF X M.ow b mb) (hcc:QF X M.ow c mc)
 (hw:swappedStores [.Tuple [.Name x px,.Name y py,.Name z pz] kt pt] (.Tuple [a,b,c] k2 pt2) X.env=pure (some [x,y,z]))
 (oi:M.ow[i]? = some true:=by decide) (oj:M.ow[j]? = some true:=by decide) (ok:M.ow[k]? = some true:=by decide) (ui:M.mu[i]?≠some true:=by decide) (uj:M.mu[j]?≠some true:=by decide) (uk:M.mu[k]?≠some true:=by decide)
 (hs1:starEach [a,b,c] X.env=(false,eval a X.env) :: starEach [b,c] X.env:=by rfl) (hs2:starEach [b,c] X.env=(false,eval b X.env) :: starEach [c] X.env:=by rfl) (hs3:starEach [c] X.env=[(false,eval c X.env)]:=by rfl)
 (hs:swapsWithSole [.Tuple [.Name x px,.Name y py,.Name z pz] kt pt] (.Tuple [a,b,c] k2 pt2) pos.line X.env=pure false:=by rfl) :
 QS X M (.Assign [.Tuple [.Name x px,.Name y py,.Name z pz] kt pt] (.Tuple [a,b,c] k2 pt2) pos) (mPar3 i j k ma mb mc):=by
 obtain ⟨ta,pa,sa⟩:=ha; obtain ⟨tb,pb,sb⟩:=hb; obtain ⟨tc,pc,sc⟩:=hcc
 refine ⟨_,qh hc hN hi hj hk hx hy hz (aL pa (aL pb (aL pc bw hs3) hs2) hs1) hw hs,fun C G ρ σ H n D hm hn r h kk=>?_⟩
 refine sa C G ρ σ H [] _ _ r h fun dx ρ1 u G1 H1 h1 z1 kp1 r1=>?_
 refine sb C G1 ρ1 σ H1 [(dx,u)] _ _ r1 h1 fun dy ρ2 v G2 H2 h2 z2 kp2 r2=>?_
 refine sc C G2 ρ2 σ H2 [(dy,v),(dx,u)] _ _ r2 h2 fun dz ρ3 w G3 H3 h3 z3 kp3 r3=>⟨u,v,w,rfl,?_⟩
 obtain ⟨O,r3⟩:=r3
 obtain ⟨O2,r4⟩:=r3.setO ok (hm.no uk) (by rw [hn]; exact Nat.zero_le _)
 obtain ⟨O3,r5⟩:=r4.setO oj (hm.no uj) (by rw [hn]; exact Nat.zero_le _)
 have r6:=r5.setO oi (hm.no ui) (by rw [hn]; exact Nat.zero_le _)
 exact kk.nx _ _ G3 H3 h3 ((z1.trans z2).trans z3) r6
end
end L2
namespace L2
open PySem
end L2
namespace L2
open PySem PyProof.Rows
section
variable {prog:Program} {w:World} {A:Around} {E:Value→Shared→Prop} {s:Shared}
end
end L2
namespace L2
open PySem PyProof.Rows PySem.Spec
section
variable {prog:Program} {w:World} {A:Around} {R:Result→Shared→Prop} {I:Addr} {fp wr:List Addr} {G:Array GenState→Array GenState→Prop} {n:Nat} {P:Nat→Value→Prop} {St:Nat→Shared→Prop}
end
section
variable {prog:Program} {w:World} {A:Around} {E:Value→Shared→Prop} {s:Shared}
end
section
variable {prog:Program} {w:World} {A:Around} {E:Value→Shared→Prop} {s:Shared}
end
section
variable {prog:Program} {w:World} {A:Around} {E:Value→Shared→Prop} {s:Shared}
end
section
variable {prog:Program} {w:World} {A:Around} {E:Value→Shared→Prop} {s:Shared}
end
section
variable {prog:Program} {w:World} {A:Around} {E:Value→Shared→Prop} {s:Shared}
end
section
variable {prog:Program} {w:World} {A:Around} {E:Value→Shared→Prop} {s:Shared}
end
end L2
namespace L2
open PySem PySem.Spec PyProof.Rows
section
variable {X:Cx}
variable {ow:List Bool} {e:Expr} {ma:ME} {pos p1 p2 p3:Pos}
end
end L2
namespace L2
open PySem
end L2
namespace L2
open PySem PySem.Spec PyProof.Rows
section
variable {X:Cx}
end
section
variable {X:Cx} {es:List Expr} {ps:List FP}
end
end L2
namespace L2
open PySem PySem.Spec PyProof.Rows PySem.NumText
end L2
namespace L2
open PySem PySem.Spec PyProof.Rows
section
variable {C:Ctx} {ow:List Bool} {G:Hp} {ρ:DSt} {σ:St} {H:Hp} {pd:List (D×V)} {O:Own}
end
section
variable {X:Cx} {ow:List Bool} {a b c e o:Expr} {ma mb:ME} {pos apos:Pos} {Cc:Addr} {f m:Str}
section
variable {k j:Nat} {fa:Addr} {fd:FuncData} {ps:List Str} {mu:List Bool} {sd:SpD} {sx:SpX} {ks:List AK} {es:List Expr} {mr:MA} {ak:AK}
end
section
variable {k j:Nat} {fa:Addr} {fd:FuncData} {ps:List Str} {mu:List Bool} {sd:SpD} {x:Str} {p':Pos} {es:List Expr} {mr:MA}
end
end
section
variable {X:Cx} {ow:List Bool} {a:Expr} {ma:ME} {ta:TE} {pos:Pos}
end
end L2
namespace L2
open PySem PySem.Spec PyProof.Rows PySem.NumText
section
variable {X:Cx} {ow:List Bool} {e a b:Expr} {ma mb:ME}
open PySem.Builtin.Str (occurrences strSub)
end
end L2
namespace L2
open PySem PySem.Spec PyProof.Rows
section
variable {C:Ctx} {ow:List Bool} {G:Hp} {ρ:DSt} {σ:St} {H:Hp} {O:Own}
end
section
variable {X:Cx} {M:Md} {st:Stmt} {m:MS}
end
section
variable {X:Cx} {ow:List Bool} {a b:Expr} {ma mb:ME} {pos:Pos}
end
section
variable {C:Ctx} {ow mu:List Bool} {G:Hp} {ρ:DSt} {σ:St} {H:Hp} {pd:List (D×V)} {O:Own} {f b:Lb→Option Lb}
end
open Classical in
section
variable {X:Cx} {ow:List Bool} {k j:Nat} {f:Addr} {fd:FuncData} {ps:List Str} {mu:List Bool} {sd:SpD} {x y:Str} {st:Stmt} {ks:List AK} {es:List Expr} {mr:MA} {pos p' p0 p1 n0 n1 c0 c1:Pos} {k0 k1:Nat}
end
end L2
namespace L2
open PySem PySem.Spec PyProof.Rows
section
variable {C:Ctx} {ow:List Bool} {G G2:Hp} {ρ ρ2:DSt} {σ σ2:St} {H H2:Hp} {pd pd2:List (D×V)} {O O2:Own} {l:Nat}
end
section
variable {X:Cx} {M:Md} {i:Nat} {pos:Pos} {m:MS} {me:ME}
end
end L2
namespace L2
open PySem PySem.Spec PyProof.Rows
open Classical in
section
variable {mv:List (Option V)} {s a b c:Nat}
end
section
variable {C:Ctx} {ow mu:List Bool} {G G2:Hp} {ρ ρ2:DSt} {σ σ2:St} {H H2:Hp} {pd2:List (D×V)} {O O2:Own} {s a b c:Nat} {d0 d1 d2:D} {x0 x1 x2:V} {p:Addr}
end
section
variable {X:Cx} {M:Md} {rest:List Stmt} {m:MS}
end
end L2
namespace L2
open PySem PySem.Spec PyProof.Rows
section
variable {X:Cx} {ow:List Bool} {js:List Nat} {pos:Pos}
end
section
variable {prog:Program} {w:World} {A:Around} {E:Value→Shared→Prop} {s:Shared} {env:Env}
theorem gy:entryFor table "proto.unchain" = some Builtin.«proto.unchain»:=entryFor_of_fast (by kernel_rfl)
theorem i8 {x:Expr} {pos cp:Pos} {j:Nat} {Q:Flow→Shared→Prop} {e0:Addr} (hh:A.handled=some (.ref e0))
 (h:wpAny (model prog w) A (eval x env) (fun v s₁=>∃ e C bm ini dx vs sl,v = .ref e∧f6 s₁.heap C bm ini∧s₁.heap.get? e=some { cls:=.ref C,dict:=dx,data:=.fields vs,slots:=sl }∧vs[1]? = some .none∧vs.size=6∧e≠e0 ∧
  (∃ o0 vs0,s₁.heap.get? e0=some o0∧o0.data = .fields vs0∧vs0[2]? = some .none) ∧
  ∀ h' vs',(∀ b o,b≠e→s₁.heap.get? b=some o→h'.get? b=some o)→h'.get? e=some { cls:=.ref C,dict:=dx,data:=.fields vs',slots:=sl }→vs'[1]? = some .none→E v { s₁ with heap:=h' }) E s) :
 wpAny (model prog w) A (exec (.Raise (some x) (some (.Constant .none j cp)) pos) env) Q E s:=by
 rw [arm_exec_Raise]
 simp only [evalOpt,Option.map]
 refine wpAny_bind (wpAny_standAt ?_)
 unfold raiseStmt
 refine wpAny_bind (wpAny_bind (wpAny_mono h (fun v s₁ z=>wpAny_bind (wpAny_standAt (wpAny_pure ?_))) fun _ _ y=>y))
 obtain ⟨e,C,bm,ini,dx,vs,sl,rfl,⟨N,nm,q,bs,hdct,sn,sub,ab,col,dd,k0,k1,k2,k3,k5,mN,hC,hN,hni,T⟩,he,h1,hsz,hne,⟨o0,vs0,ho0,hd0,h02⟩,hE⟩:=z
 obtain ⟨hp,g,d,tk,os⟩:=s₁
 have hcB:(Value.ref C :: bm).contains (.type "BaseException")=true:=by rw [List.contains_cons,bX T,Bool.or_true]
 repeat (first | with_reducible refine wpAny_loadPart_at he ?_ | with_reducible refine wpAny_loadPart_at hC ?_ | (with_reducible refine wpAny_isSubtype_exc hC ?_; rw [hcB]) | wp_step)
 have hCe:C≠e:=fun z=>by rw [z,he] at hC; cases hC
 generalize hg1:(hp.update e (Obj.mapFields fun x=>x.setIfInBounds 3 Value.none)).update e (Obj.mapFields fun x=>x.setIfInBounds 4 (Value.bool true))=g1
 have oth:∀ b o,b≠e→hp.get? b=some o→g1.get? b=some o:=fun b o hb q=>by
  rw [← hg1,Heap.get?_update_other _ _ (Ne.symm hb),Heap.get?_update_other _ _ (Ne.symm hb)]; exact q
 have hC1:=oth C _ hCe hC
 have ho1:=oth e0 _ (Ne.symm hne) ho0
 have he1:g1.get? e=some { cls:=.ref C,dict:=dx,data:=.fields ((vs.setIfInBounds 3 Value.none).setIfInBounds 4 (Value.bool true)),slots:=sl }:=by
  rw [← hg1]
  have q1:=Heap.get?_update_self (Obj.mapFields fun x=>x.setIfInBounds 3 Value.none) he (Obj.isFreed_of_fields (Obj.data_mapFields rfl _))
  exact Heap.get?_update_self (Obj.mapFields fun x=>x.setIfInBounds 4 (Value.bool true)) q1 (Obj.isFreed_of_fields (Obj.data_mapFields rfl _))
 have h11:((vs.setIfInBounds 3 Value.none).setIfInBounds 4 (Value.bool true))[1]? = some .none:=by
  rw [Array.getElem?_setIfInBounds_ne (by decide),Array.getElem?_setIfInBounds_ne (by decide)]; exact h1
 refine wpAny_loadPart_at hC1 ?_
 refine wpAny_pure (wpAny_pure ?_)
 unfold setFlight
 refine wpAny_bind (wpAny_bind (wpAny_field he1 rfl h11 (wpAny_pure ?_)))
 unfold raiseNew
 refine wpAny_bind (wpAny_handled ?_)
 rw [hh]
 show wpAny _ _ (if (Value.ref e0 != Value.ref e)=true then _ else _) _ _ _
 rw [if_pos (by simpa using Ne.symm hne)]
 refine wpAny_bind (wpAny_holding (wpAny_runValue (codeAny_builtin gy ?_)))
 unfold Builtin.«proto.unchain»
 refine wpAny_bind (wpAny_field ho1 hd0 h02 ?_)
 refine wpAny_pure ?_
 show wpAny (model prog w) A (setField (.ref e) 2 (Value.ref e0) >>= fun _=>throw (Value.ref e)) Q E _
 refine wpAny_bind (wpAny_setField he1 rfl (by simp [hsz]) (wpAny_throw ?_))
 refine hE _ _ (fun b o hb q=>(Heap.get?_update_other _ _ (Ne.symm hb)).trans (oth b o hb q)) (Heap.get?_update_self _ he1 (Obj.isFreed_of_fields (Obj.data_mapFields rfl _))) ?_
 rw [Array.getElem?_setIfInBounds_ne (by decide)]; exact h11
end
section
variable {X:Cx} {pins p:List (Addr×Obj)} {σ:St} {H:Hp} {s:Shared} {E:Value→Shared→Prop}
theorem fY {M:Model} {A:Around} {e tp:Addr} {C D1 D2:Addr} {bm bm1 bm2:List Value} {ini ini1 ini2:Option Value} {oe:Obj} {n:Nat} {dd:Option Addr} {sl:Array (Option Value)} {Q:Bool→Shared→Prop} (hC:f6 s.heap C bm ini) (h1:f6 s.heap D1 bm1 ini1) (h2:f6 s.heap D2 bm2 ini2) (he:s.heap.get? e=some oe) (hcls:oe.cls = .ref C)
 (ht:s.heap.get? tp=some ⟨.type "tuple",dd,.seq #[.ref D1,.ref D2] n,sl⟩)
 (hq:Q ((Value.ref C :: bm).contains (.ref D1)||(Value.ref C :: bm).contains (.ref D2)) s):wpAny M A (excMatches (.ref e) (.ref tp)) Q E s:=by
 obtain ⟨N,nm,q,bs,hdct,sn,sub,ab,col,dd,k0,k1,k2,k3,k5,mN,hC,hN,hni,T⟩:=hC
 obtain ⟨N',nm',q',bs',hdct',sn',sub',ab',col',dd',k0',k1',k2',k3',k5',mN',hD,hN',hni',T'⟩:=h1
 obtain ⟨N2,nm2,q2,bs2,hdct2,sn2,sub2,ab2,col2,dd2,k02,k12,k22,k32,k52,mN2,hD2,hN2,hni2,T2⟩:=h2
 obtain ⟨h,g,d,t,os⟩:=s
 have hb1:(Value.ref D1 :: bm1).contains (.type "BaseException")=true:=by rw [List.contains_cons,bX T',Bool.or_true]
 have hb2:(Value.ref D2 :: bm2).contains (.type "BaseException")=true:=by rw [List.contains_cons,bX T2,Bool.or_true]
 generalize hb:(Value.ref C :: bm).contains (.ref D1)=b at hq
 generalize hb':(Value.ref C :: bm).contains (.ref D2)=b' at hq
 unfold excMatches
 repeat (first | with_reducible refine wpAny_loadPart_at ht ?_ | (with_reducible refine wpAny_loadPart_at he ?_; rw [hcls]) | with_reducible refine wpAny_loadPart_at hD ?_ | with_reducible refine wpAny_loadPart_at hD2 ?_ | (with_reducible refine wpAny_isSubtype_exc hD ?_; rw [hb1]) | (with_reducible refine wpAny_isSubtype_exc hD2 ?_; rw [hb2]) | (with_reducible refine wpAny_isSubtype_exc hC ?_; rw [hb]) | (with_reducible refine wpAny_isSubtype_exc hC ?_; rw [hb']) | wp_step)
 have ft:(isSubtype (.type "tuple") (.type "tuple"):Sem Bool)=pure true:=by first | rfl | decide +kernel | (simp [isSubtype])
 show wpAny M A (isSubtype (.type "tuple") (.type "tuple")) _ _ _
 rw [ft]
 repeat (first | with_reducible refine wpAny_loadPart_at ht ?_ | (with_reducible refine wpAny_loadPart_at he ?_; rw [hcls]) | with_reducible refine wpAny_loadPart_at hD ?_ | with_reducible refine wpAny_loadPart_at hD2 ?_ | (with_reducible refine wpAny_isSubtype_exc hD ?_; rw [hb1]) | (with_reducible refine wpAny_isSubtype_exc hD2 ?_; rw [hb2]) | (with_reducible refine wpAny_isSubtype_exc hC ?_; rw [hb]) | (with_reducible refine wpAny_isSubtype_exc hC ?_; rw [hb']) | wp_step)
 cases b with
 | true=>wp_walk; exact hq
 | false =>
  repeat (first | (with_reducible refine wpAny_isSubtype_exc hC ?_; rw [hb']) | wp_step)
  cases b' <;> (wp_walk; exact hq)
end
section
variable {X:Cx} {pins p:List (Addr×Obj)} {σ:St} {H:Hp} {s:Shared} {E:Value→Shared→Prop}
variable {x:Str} {C D1 D2:Addr} {bm bm1 bm2 bmC:List Value} {ini ini1 ini2:Option Value} {x1 x2:Str} {p1 p2 tpos npos np cpos cp rpos ap:Pos} {kt j ja:Nat} {m:Str} {D:Ends} {e t:Addr} {dx:Option Addr} {xk:XS}
theorem iq (hp2:jk X X.xe) (ac:Acc X xk) (hex:X.ex=[]) (hg1:Gl X x1) (hm1:X.mg x1=some (.ref D1)) (hD1:bh X.K D1 bm1 ini1=true) (hg2:Gl X x2) (hm2:X.mg x2=some (.ref D2)) (hD2:bh X.K D2 bm2 ini2=true) (hC:bh X.K C bm ini=true)
 (hsub:((Value.ref C :: bm).contains (.ref D1)||(Value.ref C :: bm).contains (.ref D2))=true) {C':Addr} (hg:Gl X x) (hm:X.mg x=some (.ref C')) (hC':bh X.K C' bmC none=true)
 (I:Inv X pins σ H s) (F:FlyO s.heap e (.ref C) dx (some t)) (hdx:dx≠none) (oe:Out X pins H e) (ot:Out X pins H t) (ht:X.s₀.heap.objs.size≤t)
 (q:∀ tp,H tp=none→xk σ (.ref C') none (upd H tp (.tup [.ref D1,.ref D2])))
 (d1:(x1 == ("__debug__":Str))=false:=by decide) (d2:(x2 == ("__debug__":Str))=false:=by decide) (d3:(x == ("__debug__":Str))=false:=by decide)
 (s1:starEach (.Name x1 p1 :: [.Name x2 p2]) X.env=(false,eval (.Name x1 p1) X.env) :: starEach [.Name x2 p2] X.env:=by rfl) (s2:starEach (.Name x2 p2 :: []) X.env=(false,eval (.Name x2 p2) X.env) :: starEach [] X.env:=by rfl)
 (s3:starEach (.Constant (.str m) ja ap :: []) X.env=(false,eval (.Constant (.str m) ja ap) X.env) :: starEach [] X.env:=by rfl) (hpl:(backTo cpos (starEach [.Constant (.str m) ja ap] X.env)).any (·.1)=false:=by rfl) :
 wpAny (model X.prog X.w) X.A (handleBy (.ref e) X.env [.ExceptHandler (some (.Tuple [.Name x1 p1,.Name x2 p2] kt tpos)) none [.Raise (some (.Call (.Name x np) [.Constant (.str m) ja ap] [] cpos)) (some (.Constant .none j cp)) rpos] npos]) (SP X pins D) X.xe s:=by
 refine wpAny_handleBy_cons (codeAny_handlers_test ?_) (by intro q; cases q)
 refine wpAny_Tuple_spliced ?_
 rw [s1,s2]
 refine Calls.spliced_cons (b3 (X:=X.hand (.ref e)) I.hand hg1 hm1 (Calls.spliced_cons (b3 (X:=X.hand (.ref e)) I.hand hg2 hm2 (Calls.spliced_nil ⟨by simp [sizeLine],?_⟩) d2)) d1)
 have hfr:H s.heap.objs.size=none:=I.hok.fresh (Nat.le_refl _)
 have q1:=q _ hfr
 have I1:Inv X pins σ (upd H s.heap.objs.size (.tup [.ref D1,.ref D2])) { s with heap:=s.heap.push { cls:=.type "tuple",data:=.seq #[.ref D1,.ref D2] } } :=
  I.laid (t':=s.toks) (fun b u e=>Heap.get?_push_of_some _ e) (Nat.le_refl _) ⟨by simp [sizeLine],[.ref D1,.ref D2],.cons rfl (.cons rfl .nil),⟨_,Heap.get?_push_size _ rfl,rfl,_,rfl⟩⟩
 have old:∀ b o,s.heap.get? b=some o→(s.heap.push { cls:=.type "tuple",data:=.seq #[.ref D1,.ref D2] }).get? b=some o:=fun b o q=>Heap.get?_push_of_some _ q
 have htp:(s.heap.push { cls:=.type "tuple",data:=.seq #[.ref D1,.ref D2] }).get? s.heap.objs.size=some { cls:=.type "tuple",data:=.seq #[.ref D1,.ref D2] }:=Heap.get?_push_size _ rfl
 obtain ⟨⟨vs,sl,he,h1,h2⟩,tb⟩:=id F
 obtain ⟨hte,o',ts',ht',hd',h3⟩:=tb t rfl
 have neE:e≠s.heap.objs.size:=Nat.ne_of_lt (Heap.lt_size he)
 have neT:t≠s.heap.objs.size:=Nat.ne_of_lt (Heap.lt_size ht')
 generalize hg0:s.heap.push { cls:=.type "tuple",data:=.seq #[.ref D1,.ref D2] } = g1 at I1 old htp ⊢
 generalize hH1:upd H s.heap.objs.size (.tup [.ref D1,.ref D2])=H1 at I1 q1
 have uE:H1 e=none:=by rw [← hH1,ah neE]; exact oe.unt
 have uT:H1 t=none:=by rw [← hH1,ah neT]; exact ot.unt
 have F1:FlyO g1 e (.ref C) dx (some t):=⟨⟨vs,sl,old _ _ he,h1,h2⟩,fun t' z=>by cases z; exact ⟨hte,o',ts',old _ _ ht',hd',h3⟩⟩
 refine fY (bF I1.kIn hC) (bF I1.kIn hD1) (bF I1.kIn hD2) (old _ _ he) rfl htp ?_
 rw [hsub]
 refine codeAny_handlers_suite (gi F1 fun h' F2 k=>?_)
 have I2:Inv X pins σ H1 { s with heap:=h' }:=I1.turned (t':=s.toks) k uT (I1.fieldsNot (old _ _ ht') hd').1 (.inr ht) (I1.fieldsNot (old _ _ ht') hd').2 ot.pin
 refine wpAny_execs_cons (i8 (A:=X.A.mark (some (.ref e))) (e0:=e) rfl (wpAny_Call_Name_kw (b3 (X:=X.hand (.ref e)) I2.hand hg hm ?_ d3)))
 unfold callWith
 rw [s3]
 refine wpAny_bind (wpAny_holding (Calls.evalArgs_plain ?_))
 show wpAny _ _ (spliced ((false,eval (.Constant (.str m) ja ap) X.env) :: [])) _ _ _
 refine Calls.spliced_cons (wpAny_Constant_str (Calls.spliced_nil ?_))
 refine wpAny_bind (wpAny_standAt ?_)
 obtain ⟨N,nm,qn,bs,hdct,sn,sub,ab,col,dd,k0,k1,k2,k3,k5,mN,oC,hN,hni,T⟩:=bF (K:=X.K) I2.kIn hC'
 refine wpAny_bind (wpAny_keeperOf_exc oC ?_)
 refine wpAny_bind (wpAny_call_exc_subT (hrest:=by simp [sizeLine]) PySem.F.excBase_ValueError T oC hN hni fun h2 e2 hm2'=>wpAny_bind (wpAny_holding (wpAny_point (wpAny_pure ?_))))
 obtain ⟨t2,ht2,_,_⟩:=hm2'.there
 have ne2:e2≠e:=fun z=>by
  obtain ⟨v2,s2',he2,_⟩:=F2.ex
  have:=hm2'.new
  rw [z,he2] at this; cases this
 obtain ⟨v2,sl2,he2,g1',g2'⟩:=F2.ex
 refine ⟨e2,C',bmC,none,none,_,_,rfl,bF (K:=X.K) (I2.kept (t':=s.toks + 1) hm2'.keeps).kIn hC',ht2,rfl,rfl,ne2,⟨_,_,hm2'.keeps _ _ he2,rfl,g2'.resolve_left hdx⟩,fun h3 vs3 keep he3 h31=>?_⟩
 refine hp2.2 (some (.ref e)) _ _ ?_
 have keep2:∀ b o,h'.get? b=some o→h3.get? b=some o:=fun b o q=>keep b o (fun z=>by have:=hm2'.new; rw [← z,q] at this; cases this) (hm2'.keeps b o q)
 have J:Inv X pins σ H1 { s with heap:=h3,toks:=s.toks + 1 }:=I2.kept (t':=s.toks + 1) keep2
 exact ac.go pins σ H1 _ e2 (.ref C') none J ⟨none,⟨⟨_,_,he3,h31,.inl rfl⟩,fun t z=>by cases z⟩,⟨I2.old hex hm2'.new,I2.hok.no hm2'.new,I2.pinNo hm2'.new⟩,fun t z=>by cases z⟩ q1
def fC (K:PySem.W.Frag) (D1 D2:Addr) (cls:Value):Prop:=∃ C bm ini,cls = .ref C∧bh K C bm ini=true∧((Value.ref C :: bm).contains (.ref D1)||(Value.ref C :: bm).contains (.ref D2))=true
def qP (okc:Value→Prop) (C' D1 D2:Addr) (tb:XS→TS) (xk:XS):TS:=fun D σ H=>tb (fun σ' cls dx H'=>okc cls∧dx≠none∧∀ tp,H' tp=none→xk σ' (.ref C') none (upd H' tp (.tup [.ref D1,.ref D2]))) D σ H
theorem o_ {body:List Stmt} {pos:Pos} {tb:XS→TS} {C':Addr} (hst:X.stack=X.env :: X.outer) (hf:X.env.frame=some X.env.locals) (hp2:jk X X.xe) (ac:Acc X xk) (hex:X.ex=[]) (hg1:Gl X x1) (hm1:X.mg x1=some (.ref D1)) (hD1:bh X.K D1 bm1 ini1=true) (hg2:Gl X x2) (hm2:X.mg x2=some (.ref D2)) (hD2:bh X.K D2 bm2 ini2=true)
 (hg:Gl X x) (hm:X.mg x=some (.ref C')) (hC':bh X.K C' bmC none=true) (hb:∀ E p xk,jk X E→Acc (X.tr E p) xk→PSs (X.tr E p) body (tb xk))
 (d1:(x1 == ("__debug__":Str))=false:=by decide) (d2:(x2 == ("__debug__":Str))=false:=by decide) (d3:(x == ("__debug__":Str))=false:=by decide)
 (s1:starEach (.Name x1 p1 :: [.Name x2 p2]) X.env=(false,eval (.Name x1 p1) X.env) :: starEach [.Name x2 p2] X.env:=by rfl) (s2:starEach (.Name x2 p2 :: []) X.env=(false,eval (.Name x2 p2) X.env) :: starEach [] X.env:=by rfl)
 (s3:starEach (.Constant (.str m) ja ap :: []) X.env=(false,eval (.Constant (.str m) ja ap) X.env) :: starEach [] X.env:=by rfl) (hpl:(backTo cpos (starEach [.Constant (.str m) ja ap] X.env)).any (·.1)=false:=by rfl) :
 PS X (.Try body [.ExceptHandler (some (.Tuple [.Name x1 p1,.Name x2 p2] kt tpos)) none [.Raise (some (.Call (.Name x np) [.Constant (.str m) ja ap] [] cpos)) (some (.Constant .none j cp)) rpos] npos] [] [] pos) (qP (fC X.K D1 D2) C' D1 D2 tb xk):=by
 refine ⟨fun pins s σ H D I h=>?_⟩
 refine wpAny_Try_except ?_
 have ac':Acc (X.tr (fun e s₁=>wpAny (model X.prog X.w) X.A (noteFrame e X.env) (fun _ s₂=>wpAny (model X.prog X.w) X.A (setFlight e none) (fun _ s₃ =>
  wpAny (model X.prog X.w) X.A (handleBy e X.env [.ExceptHandler (some (.Tuple [.Name x1 p1,.Name x2 p2] kt tpos)) none [.Raise (some (.Call (.Name x np) [.Constant (.str m) ja ap] [] cpos)) (some (.Constant .none j cp)) rpos] npos]) (SP X pins D) X.xe s₃) X.xe s₂) X.xe s₁) pins)
  (fun σ' cls dx H'=>fC X.K D1 D2 cls∧dx≠none∧∀ tp,H' tp=none→xk σ' (.ref C') none (upd H' tp (.tup [.ref D1,.ref D2]))):=by
  refine ⟨fun pins' σ' H' s' ea cls dx J fl ⟨⟨C,bm,ini,hc,hC,hsub⟩,hdx,hk⟩=>?_⟩
  subst hc
  obtain ⟨T,flo,oe,ot⟩:=fl.go
  have J:=J.untr.drop
  have oe:Out X pins H' ea:=⟨oe.new,oe.unt,fun q hq=>oe.pin q (List.mem_append_left _ hq)⟩
  have ot:∀ t,T=some t→Out X pins H' t:=fun t z=>⟨(ot t z).new,(ot t z).unt,fun q hq=>(ot t z).pin q (List.mem_append_left _ hq)⟩
  show wpAny _ _ (noteFrame (.ref ea) X.env) _ _ s'
  refine gf (base:=X.base) (outer:=X.outer) (L:=X.env.locals) (T:=T) (by rw [← hst]; exact J.ok.frames) (by rw [← hst]; exact J.stack) hf flo fun h' hs' t' ht fl' kb there=>?_
  obtain ⟨J2,fl2⟩:=J.noted hst flo oe ot hs' ht fl' kb there
  have hsz:X.s₀.heap.objs.size≤t':=Nat.le_trans J.sz ht
  exact iq hp2 ac hex hg1 hm1 hD1 hg2 hm2 hD2 hC hsub hg hm hC' J2 fl' hdx oe ⟨Heap.get?_none_of_le hsz,J.hok.fresh ht,J.pinNo (Heap.get?_none_of_le ht)⟩ hsz hk d1 d2 d3 s1 s2 s3 hpl
 refine wpAny_mono (hb _ pins _ ⟨PassesOwn.looking,fun _=>PassesOwnAt.looking⟩ ac' [] s σ H D (Inv.tr (by simpa using I)) h) (fun f s' q=>?_) fun e s' q=>q
 have q:=q.untr
 rw [List.append_nil] at q
 cases f with
 | next=>exact wpAny_execs_nil q
 | ret v=>exact q
 | brk=>exact q
 | cont=>exact q
end
def mTryR (ok:Value→Prop) (C':Addr) (mb:MSX):MSX:=fun xx n ρ=>mb (fun c ns es ρ'=>ok (.ref c)∧ns≠[]∧xx C' [] [] ρ') n ρ
theorem pK {X:Cx} {M:Md} {body:List Stmt} {x x1 x2:Str} {D1 D2 C':Addr} {bm1 bm2 bmC:List Value} {ini1 ini2:Option Value} {p1 p2 tpos npos np cpos cp rpos ap pos:Pos} {kt j ja:Nat} {m:Str} {mb:MSX} (hg1:Gl X x1) (hm1:X.mg x1=some (.ref D1)) (hD1:bh X.K D1 bm1 ini1=true) (hg2:Gl X x2) (hm2:X.mg x2=some (.ref D2)) (hD2:bh X.K D2 bm2 ini2=true)
 (hg:Gl X x) (hm:X.mg x=some (.ref C')) (hC':bh X.K C' bmC none=true) (hb:QXs X M body mb) (hex:X.ex=[]:=by rfl) (hst:X.stack=X.env :: X.outer:=by rfl) (hf:X.env.frame=some X.env.locals:=by rfl)
 (d1:(x1 == ("__debug__":Str))=false:=by decide) (d2:(x2 == ("__debug__":Str))=false:=by decide) (d3:(x == ("__debug__":Str))=false:=by decide)
 (s1:starEach (.Name x1 p1 :: [.Name x2 p2]) X.env=(false,eval (.Name x1 p1) X.env) :: starEach [.Name x2 p2] X.env:=by rfl) (s2:starEach (.Name x2 p2 :: []) X.env=(false,eval (.Name x2 p2) X.env) :: starEach [] X.env:=by rfl)
 (s3:starEach (.Constant (.str m) ja ap :: []) X.env=(false,eval (.Constant (.str m) ja ap) X.env) :: starEach [] X.env:=by rfl) (hpl:(backTo cpos (starEach [.Constant (.str m) ja ap] X.env)).any (·.1)=false:=by rfl) :
 QX X M (.Try body [.ExceptHandler (some (.Tuple [.Name x1 p1,.Name x2 p2] kt tpos)) none [.Raise (some (.Call (.Name x np) [.Constant (.str m) ja ap] [] cpos)) (some (.Constant .none j cp)) rpos] npos] [] [] pos) (mTryR (fC X.K D1 D2) C' mb):=by
 obtain ⟨tb,pb,sb⟩:=hb
 refine ⟨fun xk=>qP (fC X.K D1 D2) C' D1 D2 tb xk,fun E q xk g=>o_ (X:=X.tr E q) hst hf g.1 g.2 hex hg1 hm1 hD1 hg2 hm2 hD2 hg hm hC' (fun E' p' xk' h1 h2=>?_) d1 d2 d3 s1 s2 s3 hpl,fun C G ρ σ H n D xx xk hm hn r h k kx=>?_⟩
 ·have e:(X.tr E q).tr E' p'=X.tr E' (q++p'):=by
   show ({ X with xe:=E',pn:=(X.pn++q)++p' }:Cx) = { X with xe:=E',pn:=X.pn++(q++p') }
   rw [List.append_assoc]
  rw [e] at h2 ⊢
  exact pb E' (q++p') xk' ⟨h1,h2⟩
 ·refine sb C G ρ σ H n D _ _ hm hn r h k ⟨fun c ns es ρ' σ' dx G' H' hq z r' hx=>⟨hq.1,?_,fun tp htp=>?_⟩⟩
  ·intro zz
   subst zz
   exact hq.2.1 hx.1
  ·obtain ⟨O,ro⟩:=r'
   obtain ⟨ro2,z2⟩:=ro.new htp (.tup [.ref D1,.ref D2])
   exact kx.go C' [] [] ρ' σ' none _ _ hq.2.2 (z.trans z2) ⟨O,ro2⟩ ⟨rfl,rfl⟩
theorem fc {X:Cx} {M:Md} {st:List Stmt}:QXs X M st (fun _=>nM):=⟨fun _ _ _ _=>False,fun E p xk g=>⟨fun pins s σ H D I h=>h.elim⟩,fun C G ρ σ H n D xx xk hm hn r h k kx=>h.elim⟩
theorem rf {X:Cx} {M:Md} {tg e:Expr} {mex:MEX} {mg:MG} {pos:Pos} (he:QXE X M.ow e mex) (hg:QG X.nox M tg mg) (hs:swapsWithSole [tg] e pos.line X.env=pure false:=by rfl) (hw:swappedStores [tg] e X.env=pure none:=by rfl)
 (h1:(assignEach [tg] X.env).map (·.2)=[assign tg X.env]:=by rfl):QX X M (.Assign [tg] e pos) (fun xx=>mAsg (mex xx) mg):=by
 obtain ⟨t,p,s⟩:=he; obtain ⟨t2,p2,s2⟩:=hg
 refine ⟨fun xk=>lz (t xk) t2,fun E q xk g=>jT (p E q xk g) (PG.any p2) hs hw h1,fun C G ρ σ H n D xx xk hm hn r h k kx=>s C G ρ σ H [] _ _ xx xk r h kx fun d ρ' v G' H' hq z kp r' p=>?_⟩
 exact s2 C G' ρ' σ H' [] d v _ _ hm r' p hq fun ρ2 σ2 h2 r2=>k.nx ρ2 σ2 G' H' h2 z r2
end L2
namespace K72
open PySem L2
def top (i:Nat):Stmt:=PySem.Challenge.pw_treeasks_k72_changes_made.main.body.getD i (.Pass ⟨0,0,0,0⟩)
abbrev l8:Stmt:=top 16
abbrev nk:Stmt:=top 17
abbrev s_q0:Stmt:=top 18
abbrev my:Stmt:=top 19
abbrev s_q5:Stmt:=top 23
abbrev lZ:Stmt:=top 24
abbrev l5:Stmt:=top 25
abbrev oN:Stmt:=top 26
abbrev mm:Stmt:=top 27
abbrev lN:Stmt:=top 32
abbrev nF:Stmt:=top 33
abbrev n_:Stmt:=top 35
abbrev nT:Stmt:=top 36
abbrev lO:Stmt:=top 37
abbrev l7:Stmt:=top 38
abbrev oS:Stmt:=top 39
abbrev nS:Stmt:=top 41
abbrev mE:Stmt:=top 42
abbrev nD:Stmt:=top 43
abbrev nE:Stmt:=top 44
abbrev nI:Stmt:=top 46
abbrev oK:Stmt:=top 48
abbrev s_q4:Stmt:=top 49
abbrev nG:Stmt:=top 50
abbrev lV:Stmt:=top 51
abbrev lP:Stmt:=top 52
abbrev mT:Stmt:=top 55
abbrev s_q9:Stmt:=top 56
abbrev s_q8:Stmt:=top 57
abbrev nR:Stmt:=top 58
abbrev s_q3:Stmt:=top 59
abbrev s_q7:Stmt:=top 60
abbrev s_q1:Stmt:=top 61
abbrev s_q6:Stmt:=top 62
abbrev oy:Stmt:=top 64
abbrev mG:Stmt:=top 65
abbrev nK:Stmt:=top 66
abbrev oW:Stmt:=top 67
abbrev nN:Stmt:=top 68
abbrev ny:Stmt:=top 69
abbrev oX:Stmt:=top 70
abbrev nB:Stmt:=top 71
abbrev oE:Stmt:=top 72
abbrev s_q2:Stmt:=top 73
abbrev mR:Stmt:=top 74
abbrev ng:Stmt:=top 75
set_option genInjectivity false in
structure Adr where
 f_q29:Addr
 d_q29:FuncData
 f_q17:Addr
 d_q17:FuncData
 f_q0:Addr
 d_q0:FuncData
 f_q14:Addr
 d_q14:FuncData
 f_q5:Addr
 d_q5:FuncData
 f_q13:Addr
 d_q13:FuncData
 f_q27:Addr
 d_q27:FuncData
 f_q47:Addr
 d_q47:FuncData
 f_q24:Addr
 d_q24:FuncData
 f_q46:Addr
 d_q46:FuncData
 f_q10:Addr
 d_q10:FuncData
 f_q26:Addr
 d_q26:FuncData
 f_q56:Addr
 d_q56:FuncData
 f_q57:Addr
 d_q57:FuncData
 f_q52:Addr
 d_q52:FuncData
 f_q58:Addr
 d_q58:FuncData
 f_q11:Addr
 d_q11:FuncData
 f_q55:Addr
 d_q55:FuncData
 f_q15:Addr
 d_q15:FuncData
 f_q53:Addr
 d_q53:FuncData
 f_q12:Addr
 d_q12:FuncData
 f_q28:Addr
 d_q28:FuncData
 f_q4:Addr
 d_q4:FuncData
 f_q34:Addr
 d_q34:FuncData
 f_q51:Addr
 d_q51:FuncData
 f_q25:Addr
 d_q25:FuncData
 f_q18:Addr
 d_q18:FuncData
 f_q9:Addr
 d_q9:FuncData
 f_q8:Addr
 d_q8:FuncData
 f_q38:Addr
 d_q38:FuncData
 f_q3:Addr
 d_q3:FuncData
 f_q7:Addr
 d_q7:FuncData
 f_q1:Addr
 d_q1:FuncData
 f_q6:Addr
 d_q6:FuncData
 f_q49:Addr
 d_q49:FuncData
 f_q50:Addr
 d_q50:FuncData
 f_q33:Addr
 d_q33:FuncData
 f_q19:Addr
 d_q19:FuncData
 f_q40:Addr
 d_q40:FuncData
 f_q48:Addr
 d_q48:FuncData
 f_q32:Addr
 d_q32:FuncData
 f_q31:Addr
 d_q31:FuncData
 f_q30:Addr
 d_q30:FuncData
 f_q2:Addr
 d_q2:FuncData
 f_q39:Addr
 d_q39:FuncData
 f_law:Addr
 d_law:FuncData
 g_LENGTHS:Addr
 c_q20:Addr
 c_q41:Addr
 c_q21:Addr
 c_q42:Addr
 c_q43:Addr
 c_q22:Addr
 c_q35:Addr
 c_q16:Addr
 c_q23:Addr
 c_q54:Addr
 c_q36:Addr
 c_q44:Addr
 c_q45:Addr
 c_q37:Addr
 n_q41:Addr
 n_q42:Addr
 n_q23:Addr
 n_q45:Addr
 nd_q41:FuncData
 nd_q42:FuncData
 nd_q23:FuncData
 nd_q45:FuncData
set_option genInjectivity false in
structure Txt (K:PySem.W.Frag) (mg:Str→Option Value) (A:Adr):Prop where
 t_q29:FT K mg "is_whole" l8 ["thing"] A.f_q29 A.d_q29
 t_q17:FT K mg "is_between" nk ["thing","least","most"] A.f_q17 A.d_q17
 t_q0:FT K mg "greatest_common" s_q0 ["number","bottom"] A.f_q0 A.d_q0
 t_q14:FT K mg "is_fraction" my ["thing"] A.f_q14 A.d_q14
 t_q5:FT K mg "has_two_lists" s_q5 ["thing"] A.f_q5 A.d_q5
 t_q13:FT K mg "look_at_tree" lZ ["thing"] A.f_q13 A.d_q13
 t_q27:FT K mg "is_place" l5 ["tree","thing"] A.f_q27 A.d_q27
 t_q47:FT K mg "is_tie" oN ["tree","thing"] A.f_q47 A.d_q47
 t_q24:FT K mg "are_ends" mm ["tree","one","other"] A.f_q24 A.d_q24
 t_q46:FT K mg "is_ask" lN ["tree","thing"] A.f_q46 A.d_q46
 t_q10:FT K mg "look_at_asks" nF ["tree","thing"] A.f_q10 A.d_q10
 t_q26:FT K mg "fraction" n_ ["top","bottom"] A.f_q26 A.d_q26
 t_q56:FT K mg "minus" nT ["one","other"] A.f_q56 A.d_q56
 t_q57:FT K mg "times" lO ["one","other"] A.f_q57 A.d_q57
 t_q52:FT K mg "sum_of" l7 ["some"] A.f_q52 A.d_q52
 t_q58:FT K mg "under" oS ["one","other"] A.f_q58 A.d_q58
 t_q11:FT K mg "look_at_ends" nS ["tree","one","other"] A.f_q11 A.d_q11
 t_q55:FT K mg "climb" mE ["tree","one","other"] A.f_q55 A.d_q55
 t_q15:FT K mg "way_between" nD ["tree","one","other"] A.f_q15 A.d_q15
 t_q53:FT K mg "way_of" nE ["tree","ask"] A.f_q53 A.d_q53
 t_q12:FT K mg "look_at_keep" nI ["tree","asks","thing"] A.f_q12 A.d_q12
 t_q28:FT K mg "is_price" oK ["thing"] A.f_q28 A.d_q28
 t_q4:FT K mg "look_at_prices" s_q4 ["tree","thing"] A.f_q4 A.d_q4
 t_q34:FT K mg "spare_of" nG ["tree","ask","weight","prices"] A.f_q34 A.d_q34
 t_q51:FT K mg "spares" lV ["tree","asks","prices"] A.f_q51 A.d_q51
 t_q25:FT K mg "bound_of" lP ["tree","asks","prices"] A.f_q25 A.d_q25
 t_q18:FT K mg "is_change" mT ["tree","asks","thing"] A.f_q18 A.d_q18
 t_q9:FT K mg "changed_tree" s_q9 ["tree","change"] A.f_q9 A.d_q9
 t_q8:FT K mg "changed_asks" s_q8 ["asks","change"] A.f_q8 A.d_q8
 t_q38:FT K mg "changed" nR ["tree","asks","change"] A.f_q38 A.d_q38
 t_q3:FT K mg "look_at_change" s_q3 ["tree","asks","change"] A.f_q3 A.d_q3
 t_q7:FT K mg "carried_keep" s_q7 ["tree","asks","change","keep"] A.f_q7 A.d_q7
 t_q1:FT K mg "carried_prices" s_q1 ["tree","asks","change","prices"] A.f_q1 A.d_q1
 t_q6:FT K mg "bound_turned" s_q6 ["tree","asks","change","prices"] A.f_q6 A.d_q6
 t_q49:FT K mg "_law_pool" oy ["_law_script","_law_k"] A.f_q49 A.d_q49
 t_q50:FT K mg "_law_take" mG ["_law_pool_here","_law_many"] A.f_q50 A.d_q50
 t_q33:FT K mg "_law_number" nK ["_law_pool_here","_law_most"] A.f_q33 A.d_q33
 t_q19:FT K mg "_law_parents" oW ["_law_pool_here","_law_most"] A.f_q19 A.d_q19
 t_q40:FT K mg "_law_rooms" nN ["_law_pool_here","_law_many","_law_least"] A.f_q40 A.d_q40
 t_q48:FT K mg "_law_ends" ny ["_law_pool_here","_law_many"] A.f_q48 A.d_q48
 t_q32:FT K mg "_law_change" oX ["_law_pool_here","_law_tree","_law_asks"] A.f_q32 A.d_q32
 t_q31:FT K mg "_law_can_be" nB ["_law_tree","_law_asks","_law_change_here"] A.f_q31 A.d_q31
 t_q30:FT K mg "_law_behind" oE ["_law_tree","_law_asks","_law_change_here"] A.f_q30 A.d_q30
 t_q2:FT K mg "_law_is_no_change" s_q2 ["_law_way","_law_tree","_law_asks","_law_change_here"] A.f_q2 A.d_q2
 t_q39:FT K mg "_law_right" mR ["_law_tree","_law_asks","_law_change_here"] A.f_q39 A.d_q39
 t_law:FT K mg "law" ng ["_law_script"] A.f_law A.d_law
 z_ValueError:mg "ValueError" = none
 z_bool:mg "bool" = none
 z_enumerate:mg "enumerate" = none
 z_int:mg "int" = none
 z_isinstance:mg "isinstance" = none
 z_len:mg "len" = none
 z_list:mg "list" = none
 z_max:mg "max" = none
 z_min:mg "min" = none
 z_range:mg "range" = none
 z_sorted:mg "sorted" = none
 z_str:mg "str" = none
 z_sum:mg "sum" = none
 z_tuple:mg "tuple" = none
 z_zip:mg "zip" = none
 c_MOST_TIES:∃ t,mg "MOST_TIES" = some (.int 23 t)
 c_MOST_ROOM:∃ t,mg "MOST_ROOM" = some (.int 1000000 t)
 c_MOST_ASKS:∃ t,mg "MOST_ASKS" = some (.int 30 t)
 c_MOST_SIZE:∃ t,mg "MOST_SIZE" = some (.int 1000000 t)
 c_MOST_WORTH:∃ t,mg "MOST_WORTH" = some (.int 1000000000000 t)
 m_LENGTHS:mg "LENGTHS" = some (.ref A.g_LENGTHS)
 t_LENGTHS:ModD K A.g_LENGTHS [("room",3),("ask",3),("more",2),("less",2),("hang",3)]
 m_q20:mg "AskError" = some (.ref A.c_q20)
 m_q41:mg "NoAsks" = some (.ref A.c_q41)
 m_q21:mg "NoChange" = some (.ref A.c_q21)
 m_q42:mg "NoKeep" = some (.ref A.c_q42)
 m_q43:mg "NoName" = some (.ref A.c_q43)
 m_q22:mg "NoNumber" = some (.ref A.c_q22)
 m_q35:mg "NoPlace" = some (.ref A.c_q35)
 m_q16:mg "NoPointing" = some (.ref A.c_q16)
 m_q23:mg "NoPrices" = some (.ref A.c_q23)
 m_q54:mg "NoRow" = some (.ref A.c_q54)
 m_q36:mg "NoShare" = some (.ref A.c_q36)
 m_q44:mg "NoText" = some (.ref A.c_q44)
 m_q45:mg "NoTree" = some (.ref A.c_q45)
 m_q37:mg "TooMany" = some (.ref A.c_q37)
 x_q20:bh K A.c_q20 bmV none=true
 x_q41:bh K A.c_q41 ([.ref A.c_q20]++bmV) (some (.ref A.n_q41))=true
 x_q21:bh K A.c_q21 ([.ref A.c_q20]++bmV) none=true
 x_q42:bh K A.c_q42 ([.ref A.c_q20]++bmV) (some (.ref A.n_q42))=true
 x_q22:bh K A.c_q22 ([.ref A.c_q20]++bmV) none=true
 x_q35:bh K A.c_q35 ([.ref A.c_q20]++bmV) none=true
 x_q23:bh K A.c_q23 ([.ref A.c_q20]++bmV) (some (.ref A.n_q23))=true
 x_q45:bh K A.c_q45 ([.ref A.c_q20]++bmV) (some (.ref A.n_q45))=true
 o_q41:b_ K A.c_q41=true
 v_q41:PySem.W.kitOne K (.ref A.c_q41) (.type "ValueError")=some true
 i_q41_NoChange:PySem.W.kitOne K (.ref A.c_q41) (.ref A.c_q21)=some false
 i_q41_NoKeep:PySem.W.kitOne K (.ref A.c_q41) (.ref A.c_q42)=some false
 i_q41_NoName:PySem.W.kitOne K (.ref A.c_q41) (.ref A.c_q43)=some false
 i_q41_NoNumber:PySem.W.kitOne K (.ref A.c_q41) (.ref A.c_q22)=some false
 i_q41_NoPlace:PySem.W.kitOne K (.ref A.c_q41) (.ref A.c_q35)=some false
 i_q41_NoPointing:PySem.W.kitOne K (.ref A.c_q41) (.ref A.c_q16)=some false
 i_q41_NoPrices:PySem.W.kitOne K (.ref A.c_q41) (.ref A.c_q23)=some false
 i_q41_NoRow:PySem.W.kitOne K (.ref A.c_q41) (.ref A.c_q54)=some false
 i_q41_NoShare:PySem.W.kitOne K (.ref A.c_q41) (.ref A.c_q36)=some false
 i_q41_NoText:PySem.W.kitOne K (.ref A.c_q41) (.ref A.c_q44)=some false
 i_q41_NoTree:PySem.W.kitOne K (.ref A.c_q41) (.ref A.c_q45)=some false
 i_q41_TooMany:PySem.W.kitOne K (.ref A.c_q41) (.ref A.c_q37)=some false
 o_q21:b_ K A.c_q21=true
 v_q21:PySem.W.kitOne K (.ref A.c_q21) (.type "ValueError")=some true
 i_q21_NoAsks:PySem.W.kitOne K (.ref A.c_q21) (.ref A.c_q41)=some false
 i_q21_NoKeep:PySem.W.kitOne K (.ref A.c_q21) (.ref A.c_q42)=some false
 i_q21_NoName:PySem.W.kitOne K (.ref A.c_q21) (.ref A.c_q43)=some false
 i_q21_NoNumber:PySem.W.kitOne K (.ref A.c_q21) (.ref A.c_q22)=some false
 i_q21_NoPlace:PySem.W.kitOne K (.ref A.c_q21) (.ref A.c_q35)=some false
 i_q21_NoPointing:PySem.W.kitOne K (.ref A.c_q21) (.ref A.c_q16)=some false
 i_q21_NoPrices:PySem.W.kitOne K (.ref A.c_q21) (.ref A.c_q23)=some false
 i_q21_NoRow:PySem.W.kitOne K (.ref A.c_q21) (.ref A.c_q54)=some false
 i_q21_NoShare:PySem.W.kitOne K (.ref A.c_q21) (.ref A.c_q36)=some false
 i_q21_NoText:PySem.W.kitOne K (.ref A.c_q21) (.ref A.c_q44)=some false
 i_q21_NoTree:PySem.W.kitOne K (.ref A.c_q21) (.ref A.c_q45)=some false
 i_q21_TooMany:PySem.W.kitOne K (.ref A.c_q21) (.ref A.c_q37)=some false
 o_q42:b_ K A.c_q42=true
 v_q42:PySem.W.kitOne K (.ref A.c_q42) (.type "ValueError")=some true
 i_q42_NoAsks:PySem.W.kitOne K (.ref A.c_q42) (.ref A.c_q41)=some false
 i_q42_NoChange:PySem.W.kitOne K (.ref A.c_q42) (.ref A.c_q21)=some false
 i_q42_NoName:PySem.W.kitOne K (.ref A.c_q42) (.ref A.c_q43)=some false
 i_q42_NoNumber:PySem.W.kitOne K (.ref A.c_q42) (.ref A.c_q22)=some false
 i_q42_NoPlace:PySem.W.kitOne K (.ref A.c_q42) (.ref A.c_q35)=some false
 i_q42_NoPointing:PySem.W.kitOne K (.ref A.c_q42) (.ref A.c_q16)=some false
 i_q42_NoPrices:PySem.W.kitOne K (.ref A.c_q42) (.ref A.c_q23)=some false
 i_q42_NoRow:PySem.W.kitOne K (.ref A.c_q42) (.ref A.c_q54)=some false
 i_q42_NoShare:PySem.W.kitOne K (.ref A.c_q42) (.ref A.c_q36)=some false
 i_q42_NoText:PySem.W.kitOne K (.ref A.c_q42) (.ref A.c_q44)=some false
 i_q42_NoTree:PySem.W.kitOne K (.ref A.c_q42) (.ref A.c_q45)=some false
 i_q42_TooMany:PySem.W.kitOne K (.ref A.c_q42) (.ref A.c_q37)=some false
 o_q22:b_ K A.c_q22=true
 v_q22:PySem.W.kitOne K (.ref A.c_q22) (.type "ValueError")=some true
 i_q22_NoAsks:PySem.W.kitOne K (.ref A.c_q22) (.ref A.c_q41)=some false
 i_q22_NoChange:PySem.W.kitOne K (.ref A.c_q22) (.ref A.c_q21)=some false
 i_q22_NoKeep:PySem.W.kitOne K (.ref A.c_q22) (.ref A.c_q42)=some false
 i_q22_NoName:PySem.W.kitOne K (.ref A.c_q22) (.ref A.c_q43)=some false
 i_q22_NoPlace:PySem.W.kitOne K (.ref A.c_q22) (.ref A.c_q35)=some false
 i_q22_NoPointing:PySem.W.kitOne K (.ref A.c_q22) (.ref A.c_q16)=some false
 i_q22_NoPrices:PySem.W.kitOne K (.ref A.c_q22) (.ref A.c_q23)=some false
 i_q22_NoRow:PySem.W.kitOne K (.ref A.c_q22) (.ref A.c_q54)=some false
 i_q22_NoShare:PySem.W.kitOne K (.ref A.c_q22) (.ref A.c_q36)=some false
 i_q22_NoText:PySem.W.kitOne K (.ref A.c_q22) (.ref A.c_q44)=some false
 i_q22_NoTree:PySem.W.kitOne K (.ref A.c_q22) (.ref A.c_q45)=some false
 i_q22_TooMany:PySem.W.kitOne K (.ref A.c_q22) (.ref A.c_q37)=some false
 o_q35:b_ K A.c_q35=true
 v_q35:PySem.W.kitOne K (.ref A.c_q35) (.type "ValueError")=some true
 i_q35_NoAsks:PySem.W.kitOne K (.ref A.c_q35) (.ref A.c_q41)=some false
 i_q35_NoChange:PySem.W.kitOne K (.ref A.c_q35) (.ref A.c_q21)=some false
 i_q35_NoKeep:PySem.W.kitOne K (.ref A.c_q35) (.ref A.c_q42)=some false
 i_q35_NoName:PySem.W.kitOne K (.ref A.c_q35) (.ref A.c_q43)=some false
 i_q35_NoNumber:PySem.W.kitOne K (.ref A.c_q35) (.ref A.c_q22)=some false
 i_q35_NoPointing:PySem.W.kitOne K (.ref A.c_q35) (.ref A.c_q16)=some false
 i_q35_NoPrices:PySem.W.kitOne K (.ref A.c_q35) (.ref A.c_q23)=some false
 i_q35_NoRow:PySem.W.kitOne K (.ref A.c_q35) (.ref A.c_q54)=some false
 i_q35_NoShare:PySem.W.kitOne K (.ref A.c_q35) (.ref A.c_q36)=some false
 i_q35_NoText:PySem.W.kitOne K (.ref A.c_q35) (.ref A.c_q44)=some false
 i_q35_NoTree:PySem.W.kitOne K (.ref A.c_q35) (.ref A.c_q45)=some false
 i_q35_TooMany:PySem.W.kitOne K (.ref A.c_q35) (.ref A.c_q37)=some false
 o_q23:b_ K A.c_q23=true
 v_q23:PySem.W.kitOne K (.ref A.c_q23) (.type "ValueError")=some true
 i_q23_NoAsks:PySem.W.kitOne K (.ref A.c_q23) (.ref A.c_q41)=some false
 i_q23_NoChange:PySem.W.kitOne K (.ref A.c_q23) (.ref A.c_q21)=some false
 i_q23_NoKeep:PySem.W.kitOne K (.ref A.c_q23) (.ref A.c_q42)=some false
 i_q23_NoName:PySem.W.kitOne K (.ref A.c_q23) (.ref A.c_q43)=some false
 i_q23_NoNumber:PySem.W.kitOne K (.ref A.c_q23) (.ref A.c_q22)=some false
 i_q23_NoPlace:PySem.W.kitOne K (.ref A.c_q23) (.ref A.c_q35)=some false
 i_q23_NoPointing:PySem.W.kitOne K (.ref A.c_q23) (.ref A.c_q16)=some false
 i_q23_NoRow:PySem.W.kitOne K (.ref A.c_q23) (.ref A.c_q54)=some false
 i_q23_NoShare:PySem.W.kitOne K (.ref A.c_q23) (.ref A.c_q36)=some false
 i_q23_NoText:PySem.W.kitOne K (.ref A.c_q23) (.ref A.c_q44)=some false
 i_q23_NoTree:PySem.W.kitOne K (.ref A.c_q23) (.ref A.c_q45)=some false
 i_q23_TooMany:PySem.W.kitOne K (.ref A.c_q23) (.ref A.c_q37)=some false
 o_q45:b_ K A.c_q45=true
 v_q45:PySem.W.kitOne K (.ref A.c_q45) (.type "ValueError")=some true
 i_q45_NoAsks:PySem.W.kitOne K (.ref A.c_q45) (.ref A.c_q41)=some false
 i_q45_NoChange:PySem.W.kitOne K (.ref A.c_q45) (.ref A.c_q21)=some false
 i_q45_NoKeep:PySem.W.kitOne K (.ref A.c_q45) (.ref A.c_q42)=some false
 i_q45_NoName:PySem.W.kitOne K (.ref A.c_q45) (.ref A.c_q43)=some false
 i_q45_NoNumber:PySem.W.kitOne K (.ref A.c_q45) (.ref A.c_q22)=some false
 i_q45_NoPlace:PySem.W.kitOne K (.ref A.c_q45) (.ref A.c_q35)=some false
 i_q45_NoPointing:PySem.W.kitOne K (.ref A.c_q45) (.ref A.c_q16)=some false
 i_q45_NoPrices:PySem.W.kitOne K (.ref A.c_q45) (.ref A.c_q23)=some false
 i_q45_NoRow:PySem.W.kitOne K (.ref A.c_q45) (.ref A.c_q54)=some false
 i_q45_NoShare:PySem.W.kitOne K (.ref A.c_q45) (.ref A.c_q36)=some false
 i_q45_NoText:PySem.W.kitOne K (.ref A.c_q45) (.ref A.c_q44)=some false
 i_q45_TooMany:PySem.W.kitOne K (.ref A.c_q45) (.ref A.c_q37)=some false
 I_q41:Fun K "__init__" "NoAsks.__init__" (bH (top 3) 0) A.n_q41 A.nd_q41
 bi_q41:bS K A.nd_q41 ["self","number"] []
 fi_q41:PySem.W.typeIn K (.ref A.n_q41)=some (.type "function")
 kc_q41:PySem.W.keepIn K (.ref A.c_q41)=true
 xa_q41_number:iI K A.c_q41 "number"
 I_q42:Fun K "__init__" "NoKeep.__init__" (bH (top 4) 0) A.n_q42 A.nd_q42
 bi_q42:bS K A.nd_q42 ["self","number"] []
 fi_q42:PySem.W.typeIn K (.ref A.n_q42)=some (.type "function")
 kc_q42:PySem.W.keepIn K (.ref A.c_q42)=true
 xa_q42_number:iI K A.c_q42 "number"
 I_q23:Fun K "__init__" "NoPrices.__init__" (bH (top 5) 0) A.n_q23 A.nd_q23
 bi_q23:bS K A.nd_q23 ["self","number"] []
 fi_q23:PySem.W.typeIn K (.ref A.n_q23)=some (.type "function")
 kc_q23:PySem.W.keepIn K (.ref A.c_q23)=true
 xa_q23_number:iI K A.c_q23 "number"
 I_q45:Fun K "__init__" "NoTree.__init__" (bH (top 2) 0) A.n_q45 A.nd_q45
 bi_q45:bS K A.nd_q45 ["self","part","number"] []
 fi_q45:PySem.W.typeIn K (.ref A.n_q45)=some (.type "function")
 kc_q45:PySem.W.keepIn K (.ref A.c_q45)=true
 xa_q45_part:iI K A.c_q45 "part"
 xa_q45_number:iI K A.c_q45 "number"
 B_q20:BaseIn K A.c_q20
theorem rd:FnScope ["thing"] ["thing"] (ag l8):=aM
theorem r9:FnScope ["thing","least","most"] ["thing","least","most"] (ag nk):=aM
theorem sc_q0:FnScope ["number","bottom"] ["number","bottom"] (ag s_q0):=aM
theorem sc_q14:FnScope ["thing","top","bottom"] ["thing"] (ag my):=aM
theorem sc_q5:FnScope ["thing","parents","rooms"] ["thing"] (ag s_q5):=aM
theorem oU:FnScope ["thing","parents","rooms","number","parent","room"] ["thing"] (ag lZ):=aM
theorem sf:FnScope ["tree","thing"] ["tree","thing"] (ag l5):=aM
theorem rY:FnScope ["tree","thing"] ["tree","thing"] (ag oN):=aM
theorem sI:FnScope ["tree","one","other"] ["tree","one","other"] (ag mm):=aM
theorem rG:FnScope ["tree","thing","one","other","size","worth"] ["tree","thing"] (ag lN):=aM
theorem nP:FnScope ["tree","thing","number","ask"] ["tree","thing"] (ag nF):=aM
theorem sc_q26:FnScope ["top","bottom","common"] ["top","bottom"] (ag n_):=aM
theorem sc_q56:FnScope ["one","other"] ["one","other"] (ag nT):=aM
theorem sc_q57:FnScope ["one","other"] ["one","other"] (ag lO):=aM
theorem sc_q52:FnScope ["some","bottom","one"] ["some"] (ag l7):=aM
theorem sc_q58:FnScope ["one","other"] ["one","other"] (ag oS):=aM
theorem sc_q11:FnScope ["tree","one","other"] ["tree","one","other"] (ag nS):=aM
theorem sc_q55:FnScope ["tree","one","other","way","low"] ["tree","one","other"] (ag mE):=aM
theorem sc_q15:FnScope ["tree","one","other","way","meeting"] ["tree","one","other"] (ag nD):=aM
theorem sc_q53:FnScope ["tree","ask"] ["tree","ask"] (ag nE):=aM
theorem sc_q12:FnScope ["tree","asks","thing","least","place","number"] ["tree","asks","thing"] (ag nI):=aM
theorem sc_q28:FnScope ["thing"] ["thing"] (ag oK):=aM
theorem sc_q4:FnScope ["tree","thing","ties","number","price"] ["tree","thing"] (ag s_q4):=aM
theorem sc_q34:FnScope ["tree","ask","weight","prices","paid","spare"] ["tree","ask","weight","prices"] (ag nG):=aM
theorem sc_q51:FnScope ["tree","asks","prices"] ["tree","asks","prices"] (ag lV):=aM
theorem sc_q25:FnScope ["tree","asks","prices","spared","paid"] ["tree","asks","prices"] (ag lP):=aM
theorem rg:FnScope ["tree","asks","thing"] ["tree","asks","thing"] (ag mT):=aM
theorem sc_q9:FnScope ["tree","change","parents","rooms"] ["tree","change"] (ag s_q9):=aM
theorem sc_q8:FnScope ["asks","change","found"] ["asks","change"] (ag s_q8):=aM
theorem l9:FnScope ["tree","asks","change","there","wanted"] ["tree","asks","change"] (ag nR):=aM
theorem sc_q3:FnScope ["tree","asks","change"] ["tree","asks","change"] (ag s_q3):=aM
theorem sc_q7:FnScope ["tree","asks","change","keep","left"] ["tree","asks","change","keep"] (ag s_q7):=aM
theorem sc_q1:FnScope ["tree","asks","change","prices"] ["tree","asks","change","prices"] (ag s_q1):=aM
theorem sc_q6:FnScope ["tree","asks","change","prices","there","wanted","carried"] ["tree","asks","change","prices"] (ag s_q6):=aM
theorem sv:FnScope ["_law_script","_law_k","_law_cell","_law_seed"] ["_law_script","_law_k"] (ag oy):=aM
theorem rM:FnScope ["_law_pool_here","_law_many","_law_found"] ["_law_pool_here","_law_many"] (ag mG):=aM
theorem sW:FnScope ["_law_pool_here","_law_most","_law_way"] ["_law_pool_here","_law_most"] (ag nK):=aM
theorem rm:FnScope ["_law_pool_here","_law_most","_law_shape","_law_parents_here","_law_place","_law_up"] ["_law_pool_here","_law_most"] (ag oW):=aM
theorem rR:FnScope ["_law_pool_here","_law_many","_law_least","_law_most"] ["_law_pool_here","_law_many","_law_least"] (ag nN):=aM
theorem rO:FnScope ["_law_pool_here","_law_many","_law_one"] ["_law_pool_here","_law_many"] (ag ny):=aM
theorem rN:FnScope ["_law_pool_here","_law_tree","_law_asks","_law_many","_law_one","_law_other","_law_ask","_law_number_here","_law_room","_law_some"] ["_law_pool_here","_law_tree","_law_asks"] (ag oX):=aM
theorem sm:FnScope ["_law_tree","_law_asks","_law_change_here"] ["_law_tree","_law_asks","_law_change_here"] (ag nB):=aM
theorem ra:FnScope ["_law_tree","_law_asks","_law_change_here","_law_parents_here","_law_rooms_here","_law_some"] ["_law_tree","_law_asks","_law_change_here"] (ag oE):=aM
theorem sc_q2:FnScope ["_law_way","_law_tree","_law_asks","_law_change_here","_law_found","e"] ["_law_way","_law_tree","_law_asks","_law_change_here"] (ag s_q2):=aM
theorem sk:FnScope ["_law_tree","_law_asks","_law_change_here","_law_handed","_law_told","_law_due","_law_found"] ["_law_tree","_law_asks","_law_change_here"] (ag mR):=aM
theorem sF:FnScope ["_law_script","_law_parents_here","_law_tree","_law_asks","_law_many_asks","_law_k","_law_change_here","_law_pool_here","_law_one","_law_other"] ["_law_script"] (ag ng):=aM
theorem pk:FnScope ["self","number"] ["self","number"] (ag (bH (top 3) 0)):=aM
theorem pN:FnScope ["self","number"] ["self","number"] (ag (bH (top 4) 0)):=aM
theorem p9:FnScope ["self","number"] ["self","number"] (ag (bH (top 5) 0)):=aM
theorem pM:FnScope ["self","part","number"] ["self","part","number"] (ag (bH (top 2) 0)):=aM
section
variable {P:Program} {w:World} {K:PySem.W.Frag} {mg:Str→Option Value} {base:Heap} {A:Adr}
theorem kh (T:Txt K mg A):FnOk P w K mg base CX0 1 A.n_q41 A.nd_q41 ["self","number"] (eF A.c_q41 ["number"]):=by
 refine T.I_q41.ok (k:=0) pk (fun vs H Q E h=>by obtain ⟨e,xs,rfl,h,_⟩:=h; rw [List.length_cons,h]; rfl) (fun cdv Ar outer s H vs Q E hr h=>?_)
 obtain ⟨e,xs,rfl,hl,hv,hH,q⟩:=h
 obtain ⟨x1,rfl⟩:∃ x1,xs=[x1]:=match xs,hl with | [x1],_=>⟨x1,rfl⟩
 refine ⟨_,cx (cq (eN T.B_q20 T.x_q41 rfl T.m_q20 (aL (pv 0) (aL (fF (gw (gr (pv 1) iQ))) bw)))) (ec (kZ T.x_q41 T.o_q41 T.xa_q41_number (pv 0) (pv 1))),?_⟩
 refine ⟨_,rfl,⟨trivial,⟨⟨x1,rfl,hv x1 (by simp)⟩,trivial⟩⟩,fun y=>?_⟩
 refine ⟨e,y,none,rfl,hH,?_⟩
 refine ⟨_,rfl,_,rfl,e,rfl,av,fun d hd=>?_⟩
 have hde:d≠e:=fun z=>by rw [z,av] at hd; cases hd
 have hd0:H d=none:=by rw [ah hde] at hd; exact hd
 have:=q d hd0
 simp only [eM]
 exact this
theorem oki_q42 (T:Txt K mg A):FnOk P w K mg base CX0 1 A.n_q42 A.nd_q42 ["self","number"] (eF A.c_q42 ["number"]):=by
 refine T.I_q42.ok (k:=0) pN (fun vs H Q E h=>by obtain ⟨e,xs,rfl,h,_⟩:=h; rw [List.length_cons,h]; rfl) (fun cdv Ar outer s H vs Q E hr h=>?_)
 obtain ⟨e,xs,rfl,hl,hv,hH,q⟩:=h
 obtain ⟨x1,rfl⟩:∃ x1,xs=[x1]:=match xs,hl with | [x1],_=>⟨x1,rfl⟩
 refine ⟨_,cx (cq (eN T.B_q20 T.x_q42 rfl T.m_q20 (aL (pv 0) (aL (fF (gw (gr (pv 1) iQ))) bw)))) (ec (kZ T.x_q42 T.o_q42 T.xa_q42_number (pv 0) (pv 1))),?_⟩
 refine ⟨_,rfl,⟨trivial,⟨⟨x1,rfl,hv x1 (by simp)⟩,trivial⟩⟩,fun y=>?_⟩
 refine ⟨e,y,none,rfl,hH,?_⟩
 refine ⟨_,rfl,_,rfl,e,rfl,av,fun d hd=>?_⟩
 have hde:d≠e:=fun z=>by rw [z,av] at hd; cases hd
 have hd0:H d=none:=by rw [ah hde] at hd; exact hd
 have:=q d hd0
 simp only [eM]
 exact this
theorem oki_q23 (T:Txt K mg A):FnOk P w K mg base CX0 1 A.n_q23 A.nd_q23 ["self","number"] (eF A.c_q23 ["number"]):=by
 refine T.I_q23.ok (k:=0) p9 (fun vs H Q E h=>by obtain ⟨e,xs,rfl,h,_⟩:=h; rw [List.length_cons,h]; rfl) (fun cdv Ar outer s H vs Q E hr h=>?_)
 obtain ⟨e,xs,rfl,hl,hv,hH,q⟩:=h
 obtain ⟨x1,rfl⟩:∃ x1,xs=[x1]:=match xs,hl with | [x1],_=>⟨x1,rfl⟩
 refine ⟨_,cx (cq (eN T.B_q20 T.x_q23 rfl T.m_q20 (aL (pv 0) (aL (fF (gw (gr (pv 1) iQ))) bw)))) (ec (kZ T.x_q23 T.o_q23 T.xa_q23_number (pv 0) (pv 1))),?_⟩
 refine ⟨_,rfl,⟨trivial,⟨⟨x1,rfl,hv x1 (by simp)⟩,trivial⟩⟩,fun y=>?_⟩
 refine ⟨e,y,none,rfl,hH,?_⟩
 refine ⟨_,rfl,_,rfl,e,rfl,av,fun d hd=>?_⟩
 have hde:d≠e:=fun z=>by rw [z,av] at hd; cases hd
 have hd0:H d=none:=by rw [ah hde] at hd; exact hd
 have:=q d hd0
 simp only [eM]
 exact this
theorem iT (T:Txt K mg A):FnOk P w K mg base CX0 1 A.n_q45 A.nd_q45 ["self","part","number"] (eF A.c_q45 ["part","number"]):=by
 refine T.I_q45.ok (k:=0) pM (fun vs H Q E h=>by obtain ⟨e,xs,rfl,h,_⟩:=h; rw [List.length_cons,h]; rfl) (fun cdv Ar outer s H vs Q E hr h=>?_)
 obtain ⟨e,xs,rfl,hl,hv,hH,q⟩:=h
 obtain ⟨x1,x2,rfl⟩:∃ x1 x2,xs=[x1,x2]:=match xs,hl with | [x1,x2],_=>⟨x1,x2,rfl⟩
 refine ⟨_,cx (cq (eN T.B_q20 T.x_q45 rfl T.m_q20 (aL (pv 0) (aL (fF (gw (gr (pv 1) (gw (gr (pv 2) iQ))))) bw)))) (cx (kZ T.x_q45 T.o_q45 T.xa_q45_part (pv 0) (pv 1)) (ec (ps_x1 T.x_q45 T.o_q45 T.xa_q45_number (pv 0) (pv 2)))),?_⟩
 refine ⟨_,rfl,⟨trivial,⟨⟨x1,rfl,hv x1 (by simp)⟩,⟨trivial,⟨⟨x2,rfl,hv x2 (by simp)⟩,trivial⟩⟩⟩⟩,fun y=>?_⟩
 refine ⟨e,y,none,rfl,hH,?_⟩
 refine ⟨_,rfl,_,rfl,e,rfl,av,fun d hd=>?_⟩
 have hde:d≠e:=fun z=>by rw [z,av] at hd; cases hd
 have hd0:H d=none:=by rw [ah hde] at hd; exact hd
 refine ⟨_,rfl,_,rfl,e,d,_,rfl,by rw [ah (Ne.symm hde),av],av,hde,by simp,rfl,?_⟩
 have:=q d hd0
 simp only [eM]
 exact this
theorem sH (T:Txt K mg A):FnOk P w K mg base CX0 1 A.f_q29 A.d_q29 ["thing"] (bA [false] false (pB)):=by
 have S:=rd
 refine fnD T.t_q29.F S ⟨[false],[false],false⟩ _ ?hl rfl rfl fun cdv Ar outer s H E hr=>⟨_,(ai (aR (cQ (bT rfl T.z_isinstance aA (aa 0) (bt (v:=.ty "int") rfl T.z_int s8 rfl)) (cM (rP (bT rfl T.z_isinstance aA (aa 0) (bt (v:=.ty "bool") rfl T.z_bool ph rfl))))))),fun ds q h=>?_⟩
 case hl=>intro ds q h; obtain ⟨d,rfl,_⟩:=h; rfl
 obtain ⟨d,rfl,hs,q0⟩:=h
 cases d <;> first | exact q0 | cases hs
theorem dA (T:Txt K mg A):FnOk P w K mg base CX0 2 A.f_q17 A.d_q17 ["thing","least","most"] (bA [false,false,false] false (lj)):=by
 have S:=r9
 refine fnD T.t_q17.F S ⟨[false,false,false],[false,false,false],false⟩ _ ?hl rfl rfl fun cdv Ar outer s H E hr=>⟨_,(ai (aR (cQ (am (sH T) hr T.t_q29 (aq (aa 0) ao)) (cM (i3 kU kU dB dB (aa 1) (aa 0) (aa 2)))))),fun ds q h=>?_⟩
 case hl=>intro ds q h; obtain ⟨d,lo,hi,rfl,_⟩:=h; rfl
 obtain ⟨d,lo,hi,rfl,hs,q0⟩:=h
 refine ⟨d,rfl,hs,?_⟩
 cases d
 case int i =>
  refine (eG (c:=decide (lo≤i)=true) (fun c=>?_) (fun c=>?_))
  ·have:btw lo hi (.int i)=decide (i≤hi):=by show (decide (lo≤i)&&decide (i≤hi))=_; rw [c,Bool.true_and]
   rw [this] at q0; exact q0
  ·have:btw lo hi (.int i)=false:=by show (decide (lo≤i)&&decide (i≤hi))=_; rw [Bool.eq_false_iff.mpr c,Bool.false_and]
   rw [this] at q0; exact q0
 all_goals first | exact q0 | cases hs
theorem qN (T:Txt K mg A):FnOk P w K mg base CX0 1 A.f_q5 A.d_q5 ["thing"] (bA [false] false (rc)):=by
 have S:=sc_q5
 refine fnD T.t_q5.F S ⟨[false],[false,false,false],false⟩ _ ?hl rfl rfl fun cdv Ar outer s H E hr=>⟨_,(af (aV (QW.qt (er (bc (aY (bT rfl T.z_isinstance aA (aa 0) (bt (v:=.ty "tuple") rfl T.z_tuple dY rfl)))) (dH (aU (eX hr.units) dNe (aF ax cE rfl T.z_len bi (ad (aa 0) aj)) ae (aJ _))))) (ai (aR ci)) aH)
  (af (eD (aa 0) (bM rfl (aE (aI (i:=1) S.nd rfl (Or.inl rfl)) (aE (aI (i:=2) S.nd rfl (Or.inl rfl)) bu)) (ar (ar a7))))
  (af (aV (QW.qt (er (bc (aY (bT rfl T.z_isinstance aA (aa 1) (bt (v:=.ty "list") rfl T.z_list br rfl)))) (dH (bc (aY (bT rfl T.z_isinstance aA (aa 2) (bt (v:=.ty "list") rfl T.z_list br rfl))))))) (ai (aR ci)) aH)
  (ai (aR (cQ (cb (a_ hr.units) dEq (aF ax cE rfl T.z_len bi (ad (aa 1) aj)) (aF ax cE rfl T.z_len bi (ad (aa 2) aj)) (aJ _)) (cM (i3 kU kU dB dB ae (aF ax cE rfl T.z_len bi (ad (aa 1) aj)) (cz (i:=23) rfl T.c_MOST_TIES))))))))),fun ds q h=>?_⟩
 case hl=>intro ds q h; obtain ⟨d,rfl,_⟩:=h; rfl
 obtain ⟨d,rfl,hp,q0⟩:=h
 cases d with
 | tup ds =>
  refine (eG (c:=(!decide ((ds.length:Int)=2))=true) (fun c=>?_) (fun c=>?_))
  ·have:fj (.tup ds)=false:=by
    cases h:fj (.tup ds) with
    | false=>rfl
    | true =>
     obtain ⟨ps,rs,e,_⟩:=f8 h
     cases e; simp at c
   rw [this] at q0; exact q0
  ·obtain ⟨a,b,rfl⟩:∃ a b,ds=[a,b]:=by
    have hl:ds.length=2:=by simp at c; omega
    match ds,hl with
    | [a,b],_=>exact ⟨a,b,rfl⟩
   rw [pln,bg,bg] at hp
   have ha:=cJ hp.1
   have hb:=cJ hp.2.1
   cases a with
   | lst ps =>
    cases b with
    | lst rs =>
     refine (eG (c:=decide ((ps.length:Int)=(rs.length:Int))=true) (fun c1=>?_) (fun c1=>?_))
     ·refine (eG (c:=decide ((1:Int)≤(ps.length:Int))=true) (fun c2=>?_) (fun c2=>?_))
      ·have e:fj (.tup [.lst ps,.lst rs])=decide ((ps.length:Int)≤23):=by
        have c1':ps.length=rs.length:=by have:=of_decide_eq_true c1; omega
        have c2' : 1≤ps.length:=by simp at c2; omega
        show (decide (ps.length=rs.length)&&(decide (1≤ps.length)&&decide (ps.length≤23)))=_
        rw [decide_eq_true c1',decide_eq_true c2',Bool.true_and,Bool.true_and]
        exact decide_eq_decide.mpr (by omega)
       rw [e] at q0; exact q0
      ·have e:fj (.tup [.lst ps,.lst rs])=false:=by
        have c2' : ¬ 1≤ps.length:=by simp at c2; omega
        show (decide (ps.length=rs.length)&&(decide (1≤ps.length)&&decide (ps.length≤23)))=_
        rw [decide_eq_false c2',Bool.false_and,Bool.and_false]
       rw [e] at q0; exact q0
     ·have e:fj (.tup [.lst ps,.lst rs])=false:=by
       have c1' : ¬ ps.length=rs.length:=fun z=>c1 (decide_eq_true (by omega))
       show (decide (ps.length=rs.length)&&(decide (1≤ps.length)&&decide (ps.length≤23)))=_
       rw [decide_eq_false c1',Bool.false_and]
      rw [e] at q0; exact q0
    | _=>first | exact q0 | cases hb
   | _=>first | exact q0 | cases ha
 | _=>first | exact q0 | (rw [pln] at hp; cases hp)
theorem o8 (T:Txt K mg A):FnOk P w K mg base (CX1 P w) 3 A.f_q13 A.d_q13 ["thing"] (cZ [false] false ((pR A.c_q45))):=by
 have S:=oU
 refine fnX T.t_q13.F S ⟨[false],[false,false,false,false,false,false],false⟩ _ ?hl rfl rfl fun cdv Ar outer s H E hr=>⟨_,(a6 (eA (bc (aY (am (qN T) hr T.t_q5 (aq (aa 0) ao)))) (a8 (cU (iT T) (hr.mono (by decide)) T.bi_q45 T.x_q45 T.fi_q45 T.kc_q45 rfl T.m_q45 (ad aW (ad jt aj)))) bZ)
  (a6 (jc (eD (aa 0) (bM rfl (aE (aI (i:=1) S.nd rfl (Or.inl rfl)) (aE (aI (i:=2) S.nd rfl (Or.inl rfl)) bu)) (ar (ar a7)))))
  (a6 (jM rfl (dZ rfl T.z_enumerate (ad (aa 1) aj)) (bM rfl (aE (aI (i:=3) S.nd rfl (Or.inl rfl)) (aE (aI (i:=4) S.nd rfl (Or.inl rfl)) bu)) (ar (ar a7))) (a8 (eA (bc (aY (am (dA T) hr T.t_q17 (aq (aa 4) (aq ae (aq (aa 3) ao)))))) (a8 (cU (iT T) (hr.mono (by decide)) T.bi_q45 T.x_q45 T.fi_q45 T.kc_q45 rfl T.m_q45 (ad aW (ad (aa 3) aj)))) bZ)))
  (a8 (jM rfl (dZ rfl T.z_enumerate (ad (aa 2) aj)) (bM rfl (aE (aI (i:=3) S.nd rfl (Or.inl rfl)) (aE (aI (i:=5) S.nd rfl (Or.inl rfl)) bu)) (ar (ar a7))) (a8 (eA (bc (aY (am (dA T) hr T.t_q17 (aq (aa 5) (aq ae (aq (cz (i:=1000000) rfl T.c_MOST_ROOM) ao)))))) (a8 (cU (iT T) (hr.mono (by decide)) T.bi_q45 T.x_q45 T.fi_q45 T.kc_q45 rfl T.m_q45 (ad aW (ad (aa 3) aj)))) bZ))))))),fun ds q qx h=>?_⟩
 case hl=>intro ds q qx h; obtain ⟨d,rfl,_⟩:=h; rfl
 obtain ⟨d,rfl,hp,q0,x0⟩:=h
 refine ⟨d,rfl,hp,?_⟩
 cases hT:fj d with
 | false=>exact ⟨rfl,fmt2 (iu (by decide)) iC,x0 _ _ (gs hT)⟩
 | true =>
  obtain ⟨ps,rs,rfl,hl,h1,h2⟩:=f8 hT
  rw [fm hT] at q0 x0
  rw [pln,bg,bg,pln,pln] at hp
  refine ⟨fun i ρ=>∃ v1 v2 v3,ρ=[some (.tup [.lst ps,.lst rs]),some (.lst ps),some (.lst rs),v1,v2,v3]∧aS jn ps 0=aS jn (ps.drop i) i,⟨_,_,_,rfl,rfl⟩,?_,?_⟩
  ·rintro i d ρ hd ⟨v1,v2,v3,rfl,hf⟩
   obtain ⟨d',hd',rfl⟩:=dh hd
   have hi:i<ps.length:=(List.getElem?_eq_some_iff.mp hd').1
   refine ⟨d',0,(i:Int),rfl,cJ (fE hp.1 hd'),?_⟩
   rw [cP hd'] at hf
   cases hb:btw 0 (i:Int) d' with
   | true =>
    rw [if_pos (show jn i d'=true from hb)] at hf
    exact ⟨_,_,_,rfl,hf⟩
   | false =>
    rw [if_neg (show ¬ jn i d'=true by show ¬ btw 0 (i:Int) d'=true; rw [hb]; decide)] at hf
    exact ⟨rfl,fmt2 (iu (by decide)) (ic (Nat.lt_trans (show i<23 by omega) (by decide))),x0 _ _ (by rw [hf])⟩
  ·rintro ρ ⟨v1,v2,v3,rfl,hf⟩
   rw [show (fv ps).length=ps.length by simp [fv],List.drop_length] at hf
   have hf:aS jn ps 0=none:=hf
   rw [hf] at q0 x0
   refine ⟨fun i ρ=>∃ v1 v2 v3,ρ=[some (.tup [.lst ps,.lst rs]),some (.lst ps),some (.lst rs),v1,v2,v3]∧aS fk rs 0=aS fk (rs.drop i) i,⟨_,_,_,rfl,rfl⟩,?_,?_⟩
   ·rintro i d ρ hd ⟨v1,v2,v3,rfl,hg⟩
    obtain ⟨d',hd',rfl⟩:=dh hd
    have hi:i<rs.length:=(List.getElem?_eq_some_iff.mp hd').1
    refine ⟨d',1,1000000,rfl,cJ (fE hp.2.1 hd'),?_⟩
    rw [cP hd'] at hg
    cases hb:btw 1 1000000 d' with
    | true =>
     rw [if_pos (show fk i d'=true from hb)] at hg
     exact ⟨_,_,_,rfl,hg⟩
    | false =>
     rw [if_neg (show ¬ fk i d'=true by show ¬ btw 1 1000000 d'=true; rw [hb]; decide)] at hg
     exact ⟨rfl,fmt2 (iu (by decide)) (ic (Nat.lt_trans (show i<23 by omega) (by decide))),x0 _ _ (by rw [hg])⟩
   ·rintro ρ ⟨v1,v2,v3,rfl,hg⟩
    rw [show (fv rs).length=rs.length by simp [fv],List.drop_length] at hg
    have hg:aS fk rs 0=none:=hg
    rw [hg] at q0
    exact q0 rfl
theorem sM (T:Txt K mg A):FnOk P w K mg base CX0 3 A.f_q13 A.d_q13 ["thing"] (bA [false] false (sR)):=by
 have S:=oU
 refine fnD T.t_q13.F S ⟨[false],[false,false,false,false,false,false],false⟩ _ ?hl rfl rfl fun cdv Ar outer s H E hr=>⟨_,(af (aV (bc (aY (am (qN T) hr T.t_q5 (aq (aa 0) ao)))) (ai dc) aH)
  (af (eD (aa 0) (bM rfl (aE (aI (i:=1) S.nd rfl (Or.inl rfl)) (aE (aI (i:=2) S.nd rfl (Or.inl rfl)) bu)) (ar (ar a7))))
  (af (gk PassesOwn.never rfl (dZ rfl T.z_enumerate (ad (aa 1) aj)) (bM rfl (aE (aI (i:=3) S.nd rfl (Or.inl rfl)) (aE (aI (i:=4) S.nd rfl (Or.inl rfl)) bu)) (ar (ar a7))) (ai (aV (bc (aY (am (dA T) hr T.t_q17 (aq (aa 4) (aq ae (aq (aa 3) ao)))))) (ai dc) aH)))
  (ai (gk PassesOwn.never rfl (dZ rfl T.z_enumerate (ad (aa 2) aj)) (bM rfl (aE (aI (i:=3) S.nd rfl (Or.inl rfl)) (aE (aI (i:=5) S.nd rfl (Or.inl rfl)) bu)) (ar (ar a7))) (ai (aV (bc (aY (am (dA T) hr T.t_q17 (aq (aa 5) (aq ae (aq (cz (i:=1000000) rfl T.c_MOST_ROOM) ao)))))) (ai dc) aH))))))),fun ds q h=>?_⟩
 case hl=>intro ds q h; obtain ⟨ps,rs,rfl,_⟩:=h; rfl
 obtain ⟨ps,rs,rfl,hT,q0⟩:=h
 refine ⟨aP ps rs,rfl,ge ps rs,?_⟩
 rw [gP hT]
 refine ⟨fun _ ρ=>∃ v1 v2 v3,ρ=[some (aP ps rs),some (a9 ps),some (a9 rs),v1,v2,v3],⟨_,_,_,rfl⟩,?_,?_⟩
 ·rintro i d ρ hd ⟨v1,v2,v3,rfl⟩
  obtain ⟨d',h1,rfl⟩:=dh hd
  obtain ⟨z,hz,rfl⟩:=iG h1
  have hb:=hT.par i z hz
  refine ⟨.int z,0,(i:Int),rfl,rfl,?_⟩
  rw [cj hb.1 hb.2]
  exact ⟨_,_,_,rfl⟩
 ·rintro ρ ⟨v1,v2,v3,rfl⟩
  refine ⟨fun _ ρ=>∃ v1 v2 v3,ρ=[some (aP ps rs),some (a9 ps),some (a9 rs),v1,v2,v3],⟨_,_,_,rfl⟩,?_,?_⟩
  ·rintro i d ρ hd ⟨v1,v2,v3,rfl⟩
   obtain ⟨d',h1,rfl⟩:=dh hd
   obtain ⟨z,hz,rfl⟩:=iG h1
   have hb:=hT.room i z hz
   refine ⟨.int z,1,1000000,rfl,rfl,?_⟩
   rw [cj hb.1 hb.2]
   exact ⟨_,_,_,rfl⟩
  ·rintro ρ ⟨v1,v2,v3,rfl⟩
   exact q0
theorem ni (T:Txt K mg A):FnOk P w K mg base CX0 3 A.f_q27 A.d_q27 ["tree","thing"] (bA [false,false] false (pG)):=by
 have S:=sf
 refine fnD T.t_q27.F S ⟨[false,false],[false,false],false⟩ _ ?hl rfl rfl fun cdv Ar outer s H E hr=>⟨_,(ai (aR (am (dA T) hr T.t_q17 (aq (aa 1) (aq ae (aq (aF ax cE rfl T.z_len bi (ad (az au dIx (aa 0) ae (fun _ _=>rfl)) aj)) ao)))))),fun ds q h=>?_⟩
 case hl=>intro ds q h; obtain ⟨ps,rs,d,rfl,_⟩:=h; rfl
 obtain ⟨ps,rs,d,rfl,hs,q0⟩:=h
 refine ⟨d,0,((ps.map D.int).length:Int),rfl,hs,?_⟩
 rw [List.length_map]; exact q0
theorem rV (T:Txt K mg A):FnOk P w K mg base CX0 4 A.f_q24 A.d_q24 ["tree","one","other"] (bA [false,false,false] false (pX)):=by
 have S:=sI
 refine fnD T.t_q24.F S ⟨[false,false,false],[false,false,false],false⟩ _ ?hl rfl rfl fun cdv Ar outer s H E hr=>⟨_,(ai (aR (cQ (am (ni T) hr T.t_q27 (aq (aa 0) (aq (aa 1) ao))) (cQ (am (ni T) hr T.t_q27 (aq (aa 0) (aq (aa 2) ao))) (cM (cb (eX hr.units) dNe (aa 1) (aa 2) (aJ _))))))),fun ds q h=>?_⟩
 case hl=>intro ds q h; obtain ⟨ps,rs,a,b,rfl,_⟩:=h; rfl
 obtain ⟨ps,rs,a,b,rfl,ha,hb,q0⟩:=h
 refine ⟨ps,rs,a,rfl,cJ ha,?_⟩
 unfold eu at q0
 cases h1:btw 0 ps.length a with
 | false=>rw [h1,Bool.false_and] at q0; exact q0
 | true =>
  rw [h1,Bool.true_and] at q0
  refine ⟨ps,rs,b,rfl,cJ hb,?_⟩
  cases h2:btw 0 ps.length b with
  | false=>rw [h2,Bool.false_and] at q0; exact q0
  | true =>
   rw [h2,Bool.true_and] at q0
   obtain ⟨i,rfl,_⟩:=cr h1
   obtain ⟨j,rfl,_⟩:=cr h2
   exact q0
theorem lJ (T:Txt K mg A):FnOk P w K mg base CX0 5 A.f_q46 A.d_q46 ["tree","thing"] (bA [false,false] false (nZ)):=by
 have S:=rG
 refine fnD T.t_q46.F S ⟨[false,false],[false,false,false,false,false,false],false⟩ _ ?hl rfl rfl fun cdv Ar outer s H E hr=>⟨_,(af (aV (QW.qt (er (bc (aY (bT rfl T.z_isinstance aA (aa 1) (bt (v:=.ty "tuple") rfl T.z_tuple dY rfl)))) (dH (aU (eX hr.units) dNe (aF ax cE rfl T.z_len bi (ad (aa 1) aj)) ae (aJ _))))) (ai (aR ci)) aH)
  (af (eD (aa 1) (bM rfl (aE (aI (i:=2) S.nd rfl (Or.inl rfl)) (aE (aI (i:=3) S.nd rfl (Or.inl rfl)) (aE (aI (i:=4) S.nd rfl (Or.inl rfl)) (aE (aI (i:=5) S.nd rfl (Or.inl rfl)) bu)))) (ar (ar (ar (ar a7))))))
  (ai (aR (cQ (am (rV T) hr T.t_q24 (aq (aa 0) (aq (aa 2) (aq (aa 3) ao)))) (cQ (am (dA T) hr T.t_q17 (aq (aa 4) (aq ae (aq (cz (i:=1000000) rfl T.c_MOST_SIZE) ao)))) (cM (am (dA T) hr T.t_q17 (aq (aa 5) (aq ae (aq (cz (i:=1000000000000) rfl T.c_MOST_WORTH) ao))))))))))),fun ds q h=>?_⟩
 case hl=>intro ds q h; obtain ⟨ps,rs,d,rfl,_⟩:=h; rfl
 obtain ⟨ps,rs,d,rfl,hp,q0⟩:=h
 cases d with
 | tup ds =>
  refine (eG (c:=(!decide ((ds.length:Int)=4))=true) (fun c=>?_) (fun c=>?_))
  ·have:gz ps.length (.tup ds)=false:=by
    cases h:gz ps.length (.tup ds) with
    | false=>rfl
    | true =>
     obtain ⟨a,e,_⟩:=qg h
     unfold a4 at e; cases e; simp at c
   rw [this] at q0; exact q0
  ·obtain ⟨a,b,s',w',rfl⟩:∃ a b s w,ds=[a,b,s,w]:=by
    have hl:ds.length=4:=by simp at c; omega
    match ds,hl with
    | [a,b,s,w],_=>exact ⟨a,b,s,w,rfl⟩
   rw [pln,bg,bg,bg,bg] at hp
   have e:gz ps.length (.tup [a,b,s',w'])=(eu ps.length a b&&(btw 1 1000000 s'&&btw 1 1000000000000 w')):=rfl
   rw [e] at q0
   refine ⟨ps,rs,a,b,rfl,hp.1,hp.2.1,?_⟩
   cases h1:eu ps.length a b with
   | false=>rw [h1,Bool.false_and] at q0; exact q0
   | true =>
    rw [h1,Bool.true_and] at q0
    refine ⟨s',1,1000000,rfl,cJ hp.2.2.1,?_⟩
    cases h2:btw 1 1000000 s' with
    | false=>rw [h2,Bool.false_and] at q0; exact q0
    | true =>
     rw [h2,Bool.true_and] at q0
     exact ⟨w',1,1000000000000,rfl,cJ hp.2.2.2.1,q0⟩
 | _=>first | exact q0 | (rw [pln] at hp; cases hp)
theorem ke (T:Txt K mg A):FnOk P w K mg base (CX1 P w) 6 A.f_q10 A.d_q10 ["tree","thing"] (cZ [false,false] false ((pr A.c_q45 A.c_q41))):=by
 have S:=nP
 refine fnX T.t_q10.F S ⟨[false,false],[false,false,false,false],false⟩ _ ?hl rfl rfl fun cdv Ar outer s H E hr=>⟨_,(a6 (b4 (bn (o8 T) hr T.t_q13 (aq (aa 0) ao)))
  (a6 (eA (QW.qt (er (bc (aY (bT rfl T.z_isinstance aA (aa 1) (bt (v:=.ty "list") rfl T.z_list br rfl)))) (dH (aU mH dB (aF ax cE rfl T.z_len bi (ad (aa 1) aj)) (cz (i:=30) rfl T.c_MOST_ASKS) (aJ _))))) (a8 (cU (kh T) (hr.mono (by decide)) T.bi_q41 T.x_q41 T.fi_q41 T.kc_q41 rfl T.m_q41 (ad jt aj))) bZ)
  (a8 (jM rfl (dZ rfl T.z_enumerate (ad (aa 1) aj)) (bM rfl (aE (aI (i:=2) S.nd rfl (Or.inl rfl)) (aE (aI (i:=3) S.nd rfl (Or.inl rfl)) bu)) (ar (ar a7))) (a8 (eA (bc (aY (am (lJ T) hr T.t_q46 (aq (aa 0) (aq (aa 3) ao))))) (a8 (cU (kh T) (hr.mono (by decide)) T.bi_q41 T.x_q41 T.fi_q41 T.kc_q41 rfl T.m_q41 (ad (aa 2) aj))) bZ)))))),fun ds q qx h=>?_⟩
 case hl=>intro ds q qx h; obtain ⟨t,x,rfl,_⟩:=h; rfl
 obtain ⟨t,x,rfl,h⟩:=h
 rcases h with ⟨p,n,hp,he,x0⟩ | ⟨ps,rs,rfl,hT,hx,h⟩
 ·refine ⟨t,rfl,hp,fun z=>?_,fun p' n' z=>?_⟩
  ·rw [he] at z; cases z
  ·rw [he] at z; cases z; exact x0
 ·refine ⟨aP ps rs,rfl,ge ps rs,fun _=>?_,fun p' n' z=>by rw [iH hT] at z; cases z⟩
  have no:(∃ n,some D.non=some n∧qx A.c_q41 nNum [n] [])∨(some D.non=none∧q .non [])→qx A.c_q41 nNum [.non] []:=fun h=>by
   rcases h with ⟨n,e,z⟩ | ⟨e,_⟩
   ·cases e; exact z
   ·cases e
  cases x with
  | lst ds =>
   have e:fQ ps.length (.lst ds)=if ds.length≤30 then (aS (jy ps.length) ds 0).map (fun (i:Nat)=>D.int i) else some .non:=rfl
   rw [e] at h
   refine (eG (c:=decide ((30:Int)<(ds.length:Int))=true) (fun c=>?_) (fun c=>?_))
   ·have c' : ¬ ds.length≤30:=by have:=of_decide_eq_true c; omega
    rw [if_neg c'] at h
    exact ⟨rfl,fmt1 iC,no h⟩
   ·have c':ds.length≤30:=by have : ¬ ((30:Int)<(ds.length:Int)):=fun z=>c (decide_eq_true z); omega
    rw [if_pos c'] at h
    rw [pln] at hx
    refine ⟨fun i ρ=>∃ v1 v2,ρ=[some (aP ps rs),some (.lst ds),v1,v2]∧aS (jy ps.length) ds 0=aS (jy ps.length) (ds.drop i) i,⟨_,_,rfl,rfl⟩,?_,?_⟩
    ·rintro i d ρ hd ⟨v1,v2,rfl,hf⟩
     obtain ⟨d',hd',rfl⟩:=dh hd
     have hi:i<ds.length:=(List.getElem?_eq_some_iff.mp hd').1
     refine ⟨ps,rs,d',rfl,fE hx hd',?_⟩
     rw [cP hd'] at hf
     cases hb:gz ps.length d' with
     | true =>
      rw [if_pos (show jy ps.length i d'=true from hb)] at hf
      exact ⟨_,_,rfl,hf⟩
     | false =>
      rw [if_neg (show ¬ jy ps.length i d'=true by show ¬ gz ps.length d'=true; rw [hb]; decide)] at hf
      rw [hf] at h
      refine ⟨rfl,fmt1 (ic (Nat.lt_trans (show i<31 by omega) (by decide))),?_⟩
      rcases h with ⟨n,e,z⟩ | ⟨e,_⟩
      ·cases e; exact z
      ·cases e
    ·rintro ρ ⟨v1,v2,rfl,hf⟩
     rw [show (fv ds).length=ds.length by simp [fv],List.drop_length] at hf
     have hf:aS (jy ps.length) ds 0=none:=hf
     rw [hf] at h
     rcases h with ⟨n,e,z⟩ | ⟨_,z⟩
     ·cases e
     ·exact z
  | _=>first | exact ⟨rfl,fmt1 iC,no h⟩ | (rw [pln] at hx; cases hx)
theorem oO (T:Txt K mg A):FnOk P w K mg base CX0 6 A.f_q10 A.d_q10 ["tree","thing"] (bA [false,false] false (ju)):=by
 have S:=nP
 refine fnD T.t_q10.F S ⟨[false,false],[false,false,false,false],false⟩ _ ?hl rfl rfl fun cdv Ar outer s H E hr=>⟨_,(af (fO (am (sM T) hr T.t_q13 (aq (aa 0) ao)))
  (af (aV (QW.qt (er (bc (aY (bT rfl T.z_isinstance aA (aa 1) (bt (v:=.ty "list") rfl T.z_list br rfl)))) (dH (aU mH dB (aF ax cE rfl T.z_len bi (ad (aa 1) aj)) (cz (i:=30) rfl T.c_MOST_ASKS) (aJ _))))) (ai dc) aH)
  (ai (gk PassesOwn.never rfl (dZ rfl T.z_enumerate (ad (aa 1) aj)) (bM rfl (aE (aI (i:=2) S.nd rfl (Or.inl rfl)) (aE (aI (i:=3) S.nd rfl (Or.inl rfl)) bu)) (ar (ar a7))) (ai (aV (bc (aY (am (lJ T) hr T.t_q46 (aq (aa 0) (aq (aa 3) ao))))) (ai dc) aH)))))),fun ds q h=>?_⟩
 case hl=>intro ds q h; obtain ⟨ps,rs,as,rfl,_⟩:=h; rfl
 obtain ⟨ps,rs,as,rfl,hT,ha,q0⟩:=h
 refine ⟨ps,rs,rfl,hT,?_⟩
 refine (eG (c:=decide ((30:Int)<((as.map a4).length:Int))=true) (fun c=>?_) (fun c=>?_))
 ·have:=ha.len; rw [cY] at c; simp at c; omega
 refine ⟨fun _ ρ=>∃ v1 v2,ρ=[some (aP ps rs),some (aZ as),v1,v2],⟨_,_,rfl⟩,?_,?_⟩
 ·rintro i d ρ hd ⟨v1,v2,rfl⟩
  obtain ⟨d',h1,rfl⟩:=dh hd
  obtain ⟨z,hz,rfl⟩:=kP h1
  refine ⟨ps,rs,a4 z,rfl,rfl,?_⟩
  rw [kC (ha.ok z (List.mem_of_getElem? hz))]
  exact ⟨_,_,rfl⟩
 ·rintro ρ ⟨v1,v2,rfl⟩
  exact q0
end
end K72
namespace K72
open PySem L2
section
variable {P:Program} {w:World} {K:PySem.W.Frag} {mg:Str→Option Value} {base:Heap} {A:Adr}
theorem sC (T:Txt K mg A):FnOk P w K mg base CX0 3 A.f_q47 A.d_q47 ["tree","thing"] (bA [false,false] false (sdTie)):=by
 have S:=rY
 refine fnD T.t_q47.F S ⟨[false,false],[false,false],false⟩ _ ?hl rfl rfl fun cdv Ar outer s H E hr=>⟨_,(ai (aR (am (dA T) hr T.t_q17 (aq (aa 1) (aq ae (aq (aF ax cE rfl T.z_len bi (ad (az au dIx (aa 0) ae (fun _ _=>rfl)) aj)) ao)))))),fun ds q h=>?_⟩
 case hl=>intro ds q h; obtain ⟨ps,rs,d,rfl,_⟩:=h; rfl
 obtain ⟨ps,rs,d,rfl,hs,q0⟩:=h
 refine ⟨d,1,((ps.map D.int).length:Int),rfl,hs,?_⟩
 rw [List.length_map]; exact q0
inductive Chg
 | room (t r:Int)
 | hang (p r:Int)
 | ask (k:Int) (a:Ask)
 | more (a:Ask)
 | less (k:Int)
def cW:Chg→D
 | .room t r=>.tup [.str "room",.int t,.int r]
 | .hang p r=>.tup [.str "hang",.int p,.int r]
 | .ask k a=>.tup [.str "ask",.int k,a4 a]
 | .more a=>.tup [.str "more",a4 a]
 | .less k=>.tup [.str "less",.int k]
def eS (ps:List Int) (as:List Ask):Chg→Prop
 | .room t r=>1≤t∧t≤(ps.length:Int)∧1≤r∧r≤1000000
 | .hang p r=>0≤p∧p≤(ps.length:Int)∧1≤r∧r≤1000000∧ps.length<23
 | .ask k a=>0≤k∧k<(as.length:Int)∧AskOk ps a
 | .more a=>as.length<30∧AskOk ps a
 | .less k=>0≤k∧k<(as.length:Int)
def chP (ps:List Int):Chg→List Int
 | .hang p _=>ps++[p]
 | _=>ps
def chR (rs:List Int):Chg→List Int
 | .room t r=>rs.set (t - 1).toNat r
 | .hang _ r=>rs++[r]
 | _=>rs
def chA (as:List Ask):Chg→List Ask
 | .ask k a=>as.set k.toNat a
 | .more a=>as++[a]
 | .less k=>as.eraseIdx k.toNat
 | _=>as
theorem iM {ps rs:List Int} {as:List Ask} {c:Chg} (hT:Tree ps rs) (h:eS ps as c):Tree (chP ps c) (chR rs c):=by
 cases c with
 | room t r =>
  obtain ⟨t0,t1,r0,r1⟩:=h
  refine ⟨by show ps.length=(rs.set _ r).length; rw [List.length_set]; exact hT.len,hT.lo,hT.hi,hT.par,fun j x hx=>?_⟩
  rcases List.mem_or_eq_of_mem_set (List.mem_of_getElem? hx) with q | q
  ·obtain ⟨i,hi⟩:=List.getElem?_of_mem q
   exact hT.room i x hi
  ·rw [q]; exact ⟨r0,r1⟩
 | hang p r =>
  obtain ⟨p0,p1,r0,r1,hn⟩:=h
  refine ⟨by show (ps++[p]).length=(rs++[r]).length; rw [List.length_append,List.length_append,hT.len]; rfl,by show 1≤(ps++[p]).length; rw [List.length_append]; show 1≤ps.length + 1; omega,by show (ps++[p]).length≤23; rw [List.length_append]; show ps.length + 1≤23; omega,fK hT.par ⟨p0,p1⟩,fK hT.room ⟨r0,r1⟩⟩
 | ask _ _=>exact hT
 | more _=>exact hT
 | less _=>exact hT
theorem nC {ps qs:List Int} {a:Ask} (hl:ps.length≤qs.length) (h:AskOk ps a):AskOk qs a:=⟨⟨h.ends.a0,by have:=h.ends.a1; omega,h.ends.b0,by have:=h.ends.b1; omega,h.ends.ne⟩,h.s0,h.s1,h.w0,h.w1⟩
theorem iw {ps:List Int} {as:List Ask} {c:Chg} (ha:AsksOk ps as) (h:eS ps as c):AsksOk (chP ps c) (chA as c):=by
 cases c with
 | room t r=>exact ha
 | hang p r=>exact ⟨ha.len,fun a hm=>nC (by show ps.length≤(ps++[p]).length; rw [List.length_append]; omega) (ha.ok a hm)⟩
 | ask k a =>
  refine ⟨by show (as.set _ a).length≤30; rw [List.length_set]; exact ha.len,fun b hm=>?_⟩
  rcases List.mem_or_eq_of_mem_set hm with q | q
  ·exact ha.ok b q
  ·rw [q]; exact h.2.2
 | more a =>
  refine ⟨by show (as++[a]).length≤30; rw [List.length_append]; show as.length + 1≤30; have:=h.1; omega,fun b hm=>?_⟩
  rcases List.mem_append.mp hm with q | q
  ·exact ha.ok b q
  ·rw [List.mem_singleton.mp q]; exact h.2
 | less k =>
  exact ⟨Nat.le_trans (List.length_eraseIdx_le ..) ha.len,fun b hm=>ha.ok b (List.mem_of_mem_eraseIdx hm)⟩
theorem lS (s:Str) (h:cO 0 (.str s)=true):okD (.str s)=true:=mK h (by decide)
theorem kR:cO 0 (.str "room")=true:=by decide +kernel
theorem kH:cO 0 (.str "hang")=true:=by decide +kernel
theorem kA:cO 0 (.str "ask")=true:=by decide +kernel
theorem kM:cO 0 (.str "more")=true:=by decide +kernel
theorem kL:cO 0 (.str "less")=true:=by decide +kernel
theorem ba (a b:Str):eqD (.str a) (.str b)=decide (a=b):=by
 unfold eqD; rw [toP,toP,PyData.eqv]
 by_cases h:a=b <;> simp [h]
theorem sO:inD (.str "hang") [.str "more",.str "hang"]=true:=by decide +kernel
theorem sB:inD (.str "more") [.str "more",.str "hang"]=true:=by decide +kernel
theorem inAsk:inD (.str "ask") [.str "more",.str "hang"]=false:=by decide +kernel
theorem rK:inD (.str "less") [.str "more",.str "hang"]=false:=by decide +kernel
def ChgI (ps:List Int) (as:List Ask):Chg→Prop
 | .room t r=>1≤t∧t≤(ps.length:Int)∧1≤r∧r≤1000000
 | .hang p r=>0≤p∧p≤(ps.length:Int)∧1≤r∧r≤1000000∧ps.length<900
 | .ask k a=>0≤k∧k<(as.length:Int)∧AskOk ps a
 | .more a=>as.length<900∧AskOk ps a
 | .less k=>0≤k∧k<(as.length:Int)
theorem eS.i {ps:List Int} {as:List Ask} {c:Chg} (h:eS ps as c):ChgI ps as c:=by
 cases c with
 | hang p r=>exact ⟨h.1,h.2.1,h.2.2.1,h.2.2.2.1,by have:=h.2.2.2.2; omega⟩
 | more a=>exact ⟨by have:=h.1; omega,h.2⟩
 | room t r=>exact h
 | ask k a=>exact h
 | less k=>exact h
def et (ps:List Int):Chg→Prop
 | .room t r=>1≤t∧t≤(ps.length:Int)∧1≤r∧r≤1000000
 | .hang p r=>0≤p∧p≤(ps.length:Int)∧1≤r∧r≤1000000
 | .ask k a=>0≤k∧AskOk ps a
 | .more a=>AskOk ps a
 | .less k=>0≤k
def isB (as:List Ask):Chg→Bool
 | .ask k _=>decide (k<(as.length:Int))
 | .less k=>decide (k<(as.length:Int))
 | _=>true
theorem eS.dr {ps:List Int} {as:List Ask} {c:Chg} (h:eS ps as c):et ps c∧isB as c=true:=by
 cases c with
 | hang p r=>exact ⟨⟨h.1,h.2.1,h.2.2.1,h.2.2.2.1⟩,rfl⟩
 | more a=>exact ⟨h.2,rfl⟩
 | room t r=>exact ⟨h,rfl⟩
 | ask k a=>exact ⟨⟨h.1,h.2.2⟩,decide_eq_true h.2.1⟩
 | less k=>exact ⟨h.1,decide_eq_true h.2⟩
theorem kg {as:List Ask} {k:Int} (h : 0≤k):btw 0 (((as.map a4).length:Int) - 1) (.int k)=decide (k<(as.length:Int)):=by
 show (decide (0≤k)&&decide (k≤((as.map a4).length:Int) - 1))=_
 rw [decide_eq_true h,Bool.true_and]
 exact decide_eq_decide.mpr (by rw [List.length_map]; omega)
def mx:SpD:=fun ds q=>∃ ps rs as c,ds=[aP ps rs,aZ as,cW c]∧Tree ps rs∧et ps c∧q (.bl (isB as c)) []
theorem mS (T:Txt K mg A):FnOk P w K mg base CX0 4 A.f_q18 A.d_q18 ["tree","asks","thing"] (bA [false,false,false] false (mx)):=by
 have S:=rg
 refine fnD T.t_q18.F S ⟨[false,false,false],[false,false,false],false⟩ _ ?hl rfl rfl fun cdv Ar outer s H E hr=>⟨_,(af (aV (QW.qt (er (bc (aY (bT rfl T.z_isinstance aA (aa 2) (bt (v:=.ty "tuple") rfl T.z_tuple dY rfl)))) (er (bc (oV (aa 2))) (dH (bc (aY (bT rfl T.z_isinstance aA (az au dIx (aa 2) ae (fun _ _=>rfl)) (bt (v:=.ty "str") rfl T.z_str rH rfl)))))))) (ai (aR ci)) aH)
  (af (aV (aU (eX hr.units) dNe (pJ rfl T.m_LENGTHS T.t_LENGTHS (az au dIx (aa 2) ae (fun _ _=>rfl))) (aF ax cE rfl T.z_len bi (ad (aa 2) aj)) (aJ _)) (ai (aR ci)) aH)
  (af (aV (aU (a_ hr.units) dEq (az au dIx (aa 2) ae (fun _ _=>rfl)) aW (aJ _)) (ai (aR (am (sC T) hr T.t_q47 (aq (aa 0) (aq (az au dIx (aa 2) ae (fun _ _=>rfl)) ao))))) aH)
  (ai (aR (qM (cb hV dIn (az au dIx (aa 2) ae (fun _ _=>rfl)) (bx (ad aW (ad aW aj))) rfl) (cM (am (dA T) hr T.t_q17 (aq (az au dIx (aa 2) ae (fun _ _=>rfl)) (aq ae (aq (aK du dI (aF ax cE rfl T.z_len bi (ad (aa 1) aj)) ae) ao))))))))))),fun ds q h=>?_⟩
 case hl=>intro ds q h; obtain ⟨ps,rs,as,c,rfl,_⟩:=h; rfl
 obtain ⟨ps,rs,as,c,rfl,hT,hc,q0⟩:=h
 cases c with
 | room t r =>
  refine ⟨lS _ kR,lS _ kR,?_⟩
  rw [ba,decide_eq_true rfl]
  refine ⟨ps,rs,.int t,rfl,rfl,?_⟩
  rw [cj hc.1 hc.2.1]; exact q0
 | hang p r =>
  refine ⟨lS _ kH,lS _ kR,?_⟩
  rw [ba,decide_eq_false (by decide +kernel)]
  refine ⟨rfl,rfl,?_⟩
  rw [if_neg (show ¬ (false=true) by decide),sO]; exact q0
 | ask k a =>
  refine ⟨lS _ kA,lS _ kR,?_⟩
  rw [ba,decide_eq_false (by decide +kernel)]
  refine ⟨rfl,rfl,?_⟩
  rw [if_neg (show ¬ (false=true) by decide),inAsk]
  refine ⟨.int k,0,((as.map a4).length:Int) - 1,rfl,rfl,?_⟩
  rw [kg hc.1]; exact q0
 | more a =>
  refine ⟨lS _ kM,lS _ kR,?_⟩
  rw [ba,decide_eq_false (by decide +kernel)]
  refine ⟨rfl,rfl,?_⟩
  rw [if_neg (show ¬ (false=true) by decide),sB]; exact q0
 | less k =>
  refine ⟨lS _ kL,lS _ kR,?_⟩
  rw [ba,decide_eq_false (by decide +kernel)]
  refine ⟨rfl,rfl,?_⟩
  rw [if_neg (show ¬ (false=true) by decide),rK]
  refine ⟨.int k,0,((as.map a4).length:Int) - 1,rfl,rfl,?_⟩
  rw [kg hc]; exact q0
def sdChT:SpD:=fun ds q=>∃ ps rs as c,ds=[aP ps rs,cW c]∧Tree ps rs∧ChgI ps as c∧q (aP (chP ps c) (chR rs c)) []
theorem qT (T:Txt K mg A):FnOk P w K mg base CX0 1 A.f_q9 A.d_q9 ["tree","change"] (bA [false,false] true (sdChT)):=by
 have S:=sc_q9
 refine fnD T.t_q9.F S ⟨[false,false],[false,false,true,true],true⟩ _ ?hl rfl rfl fun cdv Ar outer s H E hr=>⟨_,(af (kB (i:=2) (j:=3) rfl S.nd rfl rfl (by decide) rfl rfl (cu bd eQ rfl T.z_list br (ad (az au dIx (aa 0) ae (fun _ _=>rfl)) aj)) (cu bd eQ rfl T.z_list br (ad (az au dIx (aa 0) ae (fun _ _=>rfl)) aj)) rfl)
  (af (aV (aU (a_ hr.units) dEq (az au dIx (aa 1) ae (fun _ _=>rfl)) aW (aJ _)) (ai (d8 (i:=3) rfl (QE.qf (az au dIx (aa 1) ae (fun _ _=>rfl))) (aK du dI (az au dIx (aa 1) ae (fun _ _=>rfl)) ae))) aH)
  (af (aV (aU (a_ hr.units) dEq (az au dIx (aa 1) ae (fun _ _=>rfl)) aW (aJ _)) (af (bE (i:=2) rfl (QE.qf (az au dIx (aa 1) ae (fun _ _=>rfl))))
  (ai (bE (i:=3) rfl (QE.qf (az au dIx (aa 1) ae (fun _ _=>rfl)))))) aH)
  (ai (eg (iS (b6 (cn 2) (b6 (cn 3) fJ)))))))),fun ds q h=>?_⟩
 case hl=>intro ds q h; obtain ⟨ps,rs,as,c,rfl,_⟩:=h; rfl
 obtain ⟨ps,rs,as,c,rfl,hT,hc,q0⟩:=h
 cases c with
 | room t r =>
  refine ⟨bf ps,bf rs,lS _ kR,lS _ kR,?_⟩
  rw [ba,decide_eq_true rfl]
  have hL:=hT.len
  obtain ⟨t0,t1,-,-⟩:=hc
  refine ⟨rfl,?_⟩
  show (match ixN (rs.map D.int).length (t - 1) with | some _=>_ | none=>False)
  rw [aN,fN (by omega) (by omega)]
  refine ⟨lS _ kR,lS _ kH,?_⟩
  rw [ba,decide_eq_false (by decide +kernel)]
  have e:aP (chP ps (Chg.room t r)) (chR rs (Chg.room t r)) = .tup [.lst (ps.map D.int),.lst ((rs.map D.int).set (t - 1).toNat (.int r))]:=by
   show D.tup [.lst (ps.map D.int),.lst ((rs.set (t - 1).toNat r).map D.int)]=_
   rw [List.map_set]
  rw [e] at q0; exact q0
 | hang p r =>
  refine ⟨bf ps,bf rs,lS _ kH,lS _ kR,?_⟩
  rw [ba,decide_eq_false (by decide +kernel)]
  refine ⟨lS _ kH,lS _ kH,?_⟩
  rw [ba,decide_eq_true rfl]
  have hL:=hT.len
  obtain ⟨-,-,-,-,hn⟩:=hc
  refine ⟨rfl,by rw [aN]; omega,rfl,by rw [aN]; omega,?_⟩
  have e:aP (chP ps (Chg.hang p r)) (chR rs (Chg.hang p r)) = .tup [.lst (ps.map D.int++[.int p]),.lst (rs.map D.int++[.int r])]:=by
   show D.tup [.lst ((ps++[p]).map D.int),.lst ((rs++[r]).map D.int)]=_
   rw [List.map_append,List.map_append]; rfl
  rw [e] at q0; exact q0
 | ask k a =>
  refine ⟨bf ps,bf rs,lS _ kA,lS _ kR,?_⟩
  rw [ba,decide_eq_false (by decide +kernel)]
  refine ⟨lS _ kA,lS _ kH,?_⟩
  rw [ba,decide_eq_false (by decide +kernel)]
  exact q0
 | more a =>
  refine ⟨bf ps,bf rs,lS _ kM,lS _ kR,?_⟩
  rw [ba,decide_eq_false (by decide +kernel)]
  refine ⟨lS _ kM,lS _ kH,?_⟩
  rw [ba,decide_eq_false (by decide +kernel)]
  exact q0
 | less k =>
  refine ⟨bf ps,bf rs,lS _ kL,lS _ kR,?_⟩
  rw [ba,decide_eq_false (by decide +kernel)]
  refine ⟨lS _ kL,lS _ kH,?_⟩
  rw [ba,decide_eq_false (by decide +kernel)]
  exact q0
theorem e8 {α β:Type} (f : α→β):∀ (l:List α) (k:Nat),(l.eraseIdx k).map f=(l.map f).eraseIdx k
 | [],_=>rfl
 | _ :: _,0=>rfl
 | a :: l,k + 1=>by show f a :: (l.eraseIdx k).map f=_; rw [e8 f l k]; rfl
def sdChA:SpD:=fun ds q=>∃ ps as c,ds=[aZ as,cW c]∧ChgI ps as c∧q (aZ (chA as c)) []
theorem qI (T:Txt K mg A):FnOk P w K mg base CX0 1 A.f_q8 A.d_q8 ["asks","change"] (bA [false,false] true (sdChA)):=by
 have S:=sc_q8
 refine fnD T.t_q8.F S ⟨[false,false],[false,false,true],true⟩ _ ?hl rfl rfl fun cdv Ar outer s H E hr=>⟨_,(af (d7 (i:=2) S.nd rfl (Or.inl rfl) (cu bd eQ rfl T.z_list br (ad (aa 0) aj)))
  (af (aV (aU (a_ hr.units) dEq (az au dIx (aa 1) ae (fun _ _=>rfl)) aW (aJ _)) (ai (d8 (i:=2) rfl (QE.qf (az au dIx (aa 1) ae (fun _ _=>rfl))) (az au dIx (aa 1) ae (fun _ _=>rfl)))) aH)
  (af (aV (aU (a_ hr.units) dEq (az au dIx (aa 1) ae (fun _ _=>rfl)) aW (aJ _)) (ai (bE (i:=2) rfl (QE.qf (az au dIx (aa 1) ae (fun _ _=>rfl))))) aH)
  (af (aV (aU (a_ hr.units) dEq (az au dIx (aa 1) ae (fun _ _=>rfl)) aW (aJ _)) (ai (fO (qq (i:=2) rfl (az au dIx (aa 1) ae (fun _ _=>rfl))))) aH)
  (ai (eg (cn 2))))))),fun ds q h=>?_⟩
 case hl=>intro ds q h; obtain ⟨ps,as,c,rfl,_⟩:=h; rfl
 obtain ⟨ps,as,c,rfl,hc,q0⟩:=h
 have hi:=e5 as
 cases c with
 | room t r =>
  refine ⟨hi,lS _ kR,lS _ kA,?_⟩
  rw [ba,decide_eq_false (by decide +kernel)]
  refine ⟨lS _ kR,lS _ kM,?_⟩
  rw [ba,decide_eq_false (by decide +kernel)]
  refine ⟨lS _ kR,lS _ kL,?_⟩
  rw [ba,decide_eq_false (by decide +kernel)]
  exact q0
 | hang p r =>
  refine ⟨hi,lS _ kH,lS _ kA,?_⟩
  rw [ba,decide_eq_false (by decide +kernel)]
  refine ⟨lS _ kH,lS _ kM,?_⟩
  rw [ba,decide_eq_false (by decide +kernel)]
  refine ⟨lS _ kH,lS _ kL,?_⟩
  rw [ba,decide_eq_false (by decide +kernel)]
  exact q0
 | ask k a =>
  refine ⟨hi,lS _ kA,lS _ kA,?_⟩
  rw [ba,decide_eq_true rfl]
  obtain ⟨k0,k1,-⟩:=hc
  refine ⟨rfl,?_⟩
  show (match ixN (as.map a4).length k with | some _=>_ | none=>False)
  rw [List.length_map,fN k0 (by omega)]
  refine ⟨lS _ kA,lS _ kM,?_⟩
  rw [ba,decide_eq_false (by decide +kernel)]
  refine ⟨lS _ kA,lS _ kL,?_⟩
  rw [ba,decide_eq_false (by decide +kernel)]
  have e:aZ (chA as (Chg.ask k a)) = .lst ((as.map a4).set k.toNat (a4 a)):=by
   show D.lst ((as.set k.toNat a).map a4)=_
   rw [List.map_set]
  rw [e] at q0; exact q0
 | more a =>
  refine ⟨hi,lS _ kM,lS _ kA,?_⟩
  rw [ba,decide_eq_false (by decide +kernel)]
  refine ⟨lS _ kM,lS _ kM,?_⟩
  rw [ba,decide_eq_true rfl]
  have hn:=hc.1
  refine ⟨rfl,by rw [List.length_map]; omega,lS _ kM,lS _ kL,?_⟩
  rw [ba,decide_eq_false (by decide +kernel)]
  have e:aZ (chA as (Chg.more a)) = .lst (as.map a4++[a4 a]):=by
   show D.lst ((as++[a]).map a4)=_
   rw [List.map_append]; rfl
  rw [e] at q0; exact q0
 | less k =>
  refine ⟨hi,lS _ kL,lS _ kA,?_⟩
  rw [ba,decide_eq_false (by decide +kernel)]
  refine ⟨lS _ kL,lS _ kM,?_⟩
  rw [ba,decide_eq_false (by decide +kernel)]
  refine ⟨lS _ kL,lS _ kL,?_⟩
  rw [ba,decide_eq_true rfl]
  obtain ⟨k0,k1⟩:=hc
  have hk:k.toNat<as.length:=by omega
  refine ⟨a4 as[k.toNat],k,rfl,hi,k0,by rw [List.getElem?_map,List.getElem?_eq_getElem hk]; rfl,?_⟩
  have e:aZ (chA as (Chg.less k)) = .lst ((as.map a4).eraseIdx k.toNat):=by
   show D.lst ((as.eraseIdx k.toNat).map a4)=_
   rw [e8]
  rw [e] at q0; exact q0
end
end K72
namespace K72
open PySem L2
section
variable {P:Program} {w:World} {K:PySem.W.Frag} {mg:Str→Option Value} {base:Heap} {A:Adr}
def fT (ps:List Int) (as:List Ask):Chg→Bool
 | .room _ _=>true
 | .hang _ _=>decide ((ps.length:Int)<23)
 | .ask k _=>decide (k<(as.length:Int))
 | .more _=>decide ((as.length:Int)<30)
 | .less k=>decide (k<(as.length:Int))
theorem oY {ps:List Int} {as:List Ask} {c:Chg} (h:et ps c) (hc:fT ps as c=true):eS ps as c:=by
 cases c with
 | room t r=>exact h
 | hang p r=>exact ⟨h.1,h.2.1,h.2.2.1,h.2.2.2,by have:=of_decide_eq_true hc; omega⟩
 | ask k a=>exact ⟨h.1,of_decide_eq_true hc,h.2⟩
 | more a=>exact ⟨by have:=of_decide_eq_true hc; omega,h⟩
 | less k=>exact ⟨h,of_decide_eq_true hc⟩
def nQ (cN:Addr):SpX:=fun ds q qx=>∃ ps rs as c,ds=[aP ps rs,aZ as,cW c]∧Tree ps rs∧AsksOk ps as∧et ps c∧fT ps as c=false∧qx cN [] [] []
theorem io (T:Txt K mg A):FnOk P w K mg base (CX1 P w) 7 A.f_q38 A.d_q38 ["tree","asks","change"] (cZ [false,false,false] false ((nQ A.c_q21))):=by
 have S:=l9
 refine fnX T.t_q38.F S ⟨[false,false,false],[false,false,false,false,false],false⟩ _ ?hl rfl rfl fun cdv Ar outer s H E hr=>⟨_,(a6 (b4 (bn (ke T) hr T.t_q10 (aq (aa 0) (aq (aa 1) ao))))
  (a6 (eA (bc (aY (am (mS T) hr T.t_q18 (aq (aa 0) (aq (aa 1) (aq (aa 2) ao)))))) (a8 (lf T.x_q21 rfl T.m_q21 (ad aW aj))) bZ)
  (a6 (jc (sT (i:=3) (j:=4) rfl S.nd rfl rfl (by decide) rfl rfl (QF.qe (bo (qT T) hr T.t_q9 (aq (aa 0) (aq (aa 2) ao)))) (QF.qe (bo (qI T) hr T.t_q8 (aq (aa 1) (aq (aa 2) ao)))) rfl))
  (a6 (pK rfl T.m_q45 T.x_q45 rfl T.m_q41 T.x_q41 rfl T.m_q21 T.x_q21 (a8 (b4 (bn (ke T) hr T.t_q10 (aq (aa 3) (aq (aa 4) ao))))))
  (a8 (jc (aR (bx (ad (aa 3) (ad (aa 4) aj)))))))))),fun ds q qx h=>?_⟩
 case hl=>intro ds q qx h; obtain ⟨ps,rs,as,c,rfl,_⟩:=h; rfl
 obtain ⟨ps,rs,as,c,rfl,hT,ha,hd,hc,x0⟩:=h
 have hal:=ha.len
 have hi:=hT.hi
 have hlr:=hT.len
 refine ⟨aP ps rs,aZ as,rfl,.inr ⟨ps,rs,rfl,hT,g6 as,.inr ⟨jL ha,?_⟩⟩⟩
 refine ⟨ps,rs,as,c,rfl,hT,hd,?_⟩
 cases hb:isB as c with
 | false=>exact x0
 | true =>
  have hI:ChgI ps as c:=by
   cases c with
   | room t r=>exact hd
   | hang p r=>exact ⟨hd.1,hd.2.1,hd.2.2.1,hd.2.2.2,by omega⟩
   | ask k a=>exact ⟨hd.1,of_decide_eq_true hb,hd.2⟩
   | more a=>exact ⟨by omega,hd⟩
   | less k=>exact ⟨hd,of_decide_eq_true hb⟩
  refine ⟨ps,rs,as,c,rfl,hT,hI,?_⟩
  refine ⟨ps,as,c,rfl,hI,?_⟩
  cases c with
  | room t r=>cases hc
  | ask k a=>change decide (k<(as.length:Int))=false at hc; change decide (k<(as.length:Int))=true at hb; rw [hc] at hb; cases hb
  | less k=>change decide (k<(as.length:Int))=false at hc; change decide (k<(as.length:Int))=true at hb; rw [hc] at hb; cases hb
  | hang p r =>
   have h23:ps.length=23:=by have : ¬ ((ps.length:Int)<23):=of_decide_eq_false hc; omega
   refine ⟨aP (ps++[p]) (rs++[r]),aZ as,rfl,.inl ⟨"tree",.non,ge _ _,?_,⟨A.c_q45,_,_,rfl,T.x_q45,by simp⟩,by decide,x0⟩⟩
   refine gs ?_
   show (decide (((ps++[p]).map D.int).length=((rs++[r]).map D.int).length)&&(decide (1≤((ps++[p]).map D.int).length)&&decide (((ps++[p]).map D.int).length≤23)))=false
   rw [decide_eq_false (show ¬ ((ps++[p]).map D.int).length≤23 by rw [List.length_map,List.length_append]; show ¬ ps.length + 1≤23; omega),Bool.and_false,Bool.and_false]
  | more a =>
   have h30:as.length=30:=by have : ¬ ((as.length:Int)<30):=of_decide_eq_false hc; omega
   refine ⟨aP ps rs,aZ (as++[a]),rfl,.inr ⟨ps,rs,rfl,hT,g6 _,.inl ⟨.non,?_,⟨A.c_q41,_,_,rfl,T.x_q41,by simp⟩,by decide,x0⟩⟩⟩
   show (if ((as++[a]).map a4).length≤30 then _ else some D.non)=_
   rw [if_neg (by rw [List.length_map,List.length_append]; show ¬ as.length + 1≤30; omega)]
theorem ou (T:Txt K mg A):FnOk P w K mg base (CX1 P w) 8 A.f_q3 A.d_q3 ["tree","asks","change"] (cZ [false,false,false] false ((nQ A.c_q21))):=by
 have S:=sc_q3
 refine fnX T.t_q3.F S ⟨[false,false,false],[false,false,false],false⟩ _ ?hl rfl rfl fun cdv Ar outer s H E hr=>⟨_,(a8 (b4 (bn (io T) hr T.t_q38 (aq (aa 0) (aq (aa 1) (aq (aa 2) ao)))))),fun ds q qx h=>?_⟩
 case hl=>intro ds q qx h; obtain ⟨ps,rs,as,c,rfl,_⟩:=h; rfl
 obtain ⟨ps,rs,as,c,rfl,hT,ha,hd,hc,x0⟩:=h
 exact ⟨ps,rs,as,c,rfl,hT,ha,hd,hc,x0⟩
def j7 (cN:Addr):SpX:=fun ds q qx=>∃ ps rs as c d,ds=[aP ps rs,aZ as,cW c,d]∧Tree ps rs∧AsksOk ps as∧et ps c∧fT ps as c=false∧qx cN [] [] []
theorem rL (T:Txt K mg A):FnOk P w K mg base (CX1 P w) 9 A.f_q7 A.d_q7 ["tree","asks","change","keep"] (cZ [false,false,false,false] false ((j7 A.c_q21))):=by
 have S:=sc_q7
 refine fnX T.t_q7.F S ⟨[false,false,false,false],[false,false,false,false,false],false⟩ _ ?hl rfl rfl fun cdv Ar outer s H E hr=>⟨_,(a6 (b4 (bn (ou T) hr T.t_q3 (aq (aa 0) (aq (aa 1) (aq (aa 2) ao)))))
  fc),fun ds q qx h=>?_⟩
 case hl=>intro ds q qx h; obtain ⟨ps,rs,as,c,d,rfl,_⟩:=h; rfl
 obtain ⟨ps,rs,as,c,d,rfl,hT,ha,hd,hc,x0⟩:=h
 exact ⟨ps,rs,as,c,rfl,hT,ha,hd,hc,x0⟩
theorem rp (T:Txt K mg A):FnOk P w K mg base (CX1 P w) 9 A.f_q1 A.d_q1 ["tree","asks","change","prices"] (cZ [false,false,false,false] false ((j7 A.c_q21))):=by
 have S:=sc_q1
 refine fnX T.t_q1.F S ⟨[false,false,false,false],[false,false,false,false],false⟩ _ ?hl rfl rfl fun cdv Ar outer s H E hr=>⟨_,(a6 (b4 (bn (ou T) hr T.t_q3 (aq (aa 0) (aq (aa 1) (aq (aa 2) ao)))))
  fc),fun ds q qx h=>?_⟩
 case hl=>intro ds q qx h; obtain ⟨ps,rs,as,c,d,rfl,_⟩:=h; rfl
 obtain ⟨ps,rs,as,c,d,rfl,hT,ha,hd,hc,x0⟩:=h
 exact ⟨ps,rs,as,c,rfl,hT,ha,hd,hc,x0⟩
theorem rQ (T:Txt K mg A):FnOk P w K mg base (CX1 P w) 11 A.f_q6 A.d_q6 ["tree","asks","change","prices"] (cZ [false,false,false,false] false ((j7 A.c_q21))):=by
 have S:=sc_q6
 refine fnX T.t_q6.F S ⟨[false,false,false,false],[false,false,false,false,false,false,false],false⟩ _ ?hl rfl rfl fun cdv Ar outer s H E hr=>⟨_,(a6 (rf (bn (io T) hr T.t_q38 (aq (aa 0) (aq (aa 1) (aq (aa 2) ao)))) (bM rfl (aE (aI (i:=4) S.nd rfl (Or.inl rfl)) (aE (aI (i:=5) S.nd rfl (Or.inl rfl)) bu)) (ar (ar a7))))
  fc),fun ds q qx h=>?_⟩
 case hl=>intro ds q qx h; obtain ⟨ps,rs,as,c,d,rfl,_⟩:=h; rfl
 obtain ⟨ps,rs,as,c,d,rfl,hT,ha,hd,hc,x0⟩:=h
 exact ⟨ps,rs,as,c,rfl,hT,ha,hd,hc,x0⟩
end
end K72
namespace K72
open PySem L2
section
variable {P:Program} {w:World} {K:PySem.W.Frag} {mg:Str→Option Value} {base:Heap} {A:Adr}
def q_:SpD:=fun ds q=>∃ way ps rs as c,ds=[.int way,aP ps rs,aZ as,cW c]∧0≤way∧way<4∧Tree ps rs∧AsksOk ps as∧et ps c∧fT ps as c=false∧q (.bl true) []
theorem ok_q2 (T:Txt K mg A):FnOk P w K mg base CX0 12 A.f_q2 A.d_q2 ["_law_way","_law_tree","_law_asks","_law_change_here"] (bA [false,false,false,false] false (q_)):=by
 have S:=sc_q2
 refine fnT T.t_q2.F S ⟨[false,false,false,false],[false,false,false,false,false,false],false⟩ _ ?hl rfl rfl fun cdv Ar outer s H E hr=>⟨_,(a6 (jc (a5 (i:=4) S.nd rfl (Or.inl rfl) ci))
  (a6 (sE (i:=5) S.nd rfl rfl rfl T.m_q20 T.x_q20 (a6 (eA (aU (a_ hr.units) dEq (aa 0) ae (aJ _)) (a8 (b4 (bn (io T) hr T.t_q38 (aq (aa 1) (aq (aa 2) (aq (aa 3) ao)))))) bZ)
  (a6 (eA (aU (a_ hr.units) dEq (aa 0) ae (aJ _)) (a8 (b4 (bn (rL T) hr T.t_q7 (aq (aa 1) (aq (aa 2) (aq (aa 3) (aq (cB aj) ao))))))) bZ)
  (a6 (eA (aU (a_ hr.units) dEq (aa 0) ae (aJ _)) (a8 (b4 (bn (rp T) hr T.t_q1 (aq (aa 1) (aq (aa 2) (aq (aa 3) (aq (qW nJ dRep (cB (ad (bx (ad ae (ad ae aj))) aj)) (aF ax cE rfl T.z_len bi (ad (az au dIx (aa 1) ae (fun _ _=>rfl)) aj))) ao))))))) bZ)
  (a8 (eA (aU (a_ hr.units) dEq (aa 0) ae (aJ _)) (a8 (b4 (bn (rQ T) hr T.t_q6 (aq (aa 1) (aq (aa 2) (aq (aa 3) (aq (qW nJ dRep (cB (ad (bx (ad ae (ad ae aj))) aj)) (aF ax cE rfl T.z_len bi (ad (az au dIx (aa 1) ae (fun _ _=>rfl)) aj))) ao))))))) bZ))))) (fun _=>(af (a5 (i:=4) S.nd rfl (Or.inl rfl) (cQ (mF rX rfl T.z_isinstance aA (aa 5) (fH (v:=.ref A.c_q21) rfl T.m_q21 rfl)) (cM (mF relTy rfl T.z_isinstance aA (aa 5) (bt (v:=.ty "ValueError") rfl T.z_ValueError gB rfl)))))
  (af (aV (aY (kE (cs:=[A.c_q41,A.c_q42,A.c_q43,A.c_q22,A.c_q35,A.c_q16,A.c_q23,A.c_q54]) rfl T.z_isinstance aA (aa 5) (ce rfl T.m_q41 (ce rfl T.m_q42 (ce rfl T.m_q43 (ce rfl T.m_q22 (ce rfl T.m_q35 (ce rfl T.m_q16 (ce rfl T.m_q23 (ce rfl T.m_q54 kX)))))))))) (ai (a5 (i:=4) S.nd rfl (Or.inl rfl) ci)) aH)
  (ai (aV (aY (kE (cs:=[A.c_q36,A.c_q44,A.c_q45,A.c_q37]) rfl T.z_isinstance aA (aa 5) (ce rfl T.m_q36 (ce rfl T.m_q44 (ce rfl T.m_q45 (ce rfl T.m_q37 kX)))))) (ai (a5 (i:=4) S.nd rfl (Or.inl rfl) ci)) aH))))))
  (a8 (jc (aR (aa 4)))))),fun ds q h=>?_⟩
 case hl=>intro ds q h; obtain ⟨way,ps,rs,as,c,rfl,_⟩:=h; rfl
 obtain ⟨way,ps,rs,as,c,rfl,w0,w1,hT,ha,hd,hc,q0⟩:=h
 have hi:=hT.hi
 have:way=0∨way=1∨way=2∨way=3:=by omega
 rcases this with rfl | rfl | rfl | rfl
 ·refine ⟨ps,rs,as,c,rfl,hT,ha,hd,hc,⟨A.c_q21,_,_,rfl,T.x_q21,by simp⟩,fun _=>?_⟩
  refine ⟨true,.inl ⟨_,_,_,_,_,rfl,T.x_q21,T.o_q21,eR⟩,?_⟩
  refine ⟨true,.inl ⟨_,_,_,_,_,rfl,T.x_q21,T.o_q21,T.v_q21⟩,?_⟩
  refine ⟨false,.inl ⟨_,_,_,_,_,rfl,T.x_q21,T.o_q21,aB T.i_q21_NoAsks (aB T.i_q21_NoKeep (aB T.i_q21_NoName (aB T.i_q21_NoNumber (aB T.i_q21_NoPlace (aB T.i_q21_NoPointing (aB T.i_q21_NoPrices (aB T.i_q21_NoRow ca)))))))⟩,?_⟩
  refine ⟨false,.inl ⟨_,_,_,_,_,rfl,T.x_q21,T.o_q21,aB T.i_q21_NoShare (aB T.i_q21_NoText (aB T.i_q21_NoTree (aB T.i_q21_TooMany ca)))⟩,?_⟩
  exact q0
 ·refine ⟨ps,rs,as,c,_,rfl,hT,ha,hd,hc,⟨A.c_q21,_,_,rfl,T.x_q21,by simp⟩,fun _=>?_⟩
  refine ⟨true,.inl ⟨_,_,_,_,_,rfl,T.x_q21,T.o_q21,eR⟩,?_⟩
  refine ⟨true,.inl ⟨_,_,_,_,_,rfl,T.x_q21,T.o_q21,T.v_q21⟩,?_⟩
  refine ⟨false,.inl ⟨_,_,_,_,_,rfl,T.x_q21,T.o_q21,aB T.i_q21_NoAsks (aB T.i_q21_NoKeep (aB T.i_q21_NoName (aB T.i_q21_NoNumber (aB T.i_q21_NoPlace (aB T.i_q21_NoPointing (aB T.i_q21_NoPrices (aB T.i_q21_NoRow ca)))))))⟩,?_⟩
  refine ⟨false,.inl ⟨_,_,_,_,_,rfl,T.x_q21,T.o_q21,aB T.i_q21_NoShare (aB T.i_q21_NoText (aB T.i_q21_NoTree (aB T.i_q21_TooMany ca)))⟩,?_⟩
  exact q0
 ·refine ⟨⟨by rw [aN]; omega,by rw [aN]; omega,by rw [aN]; simp; omega⟩,?_⟩
  refine ⟨ps,rs,as,c,_,rfl,hT,ha,hd,hc,⟨A.c_q21,_,_,rfl,T.x_q21,by simp⟩,fun _=>?_⟩
  refine ⟨true,.inl ⟨_,_,_,_,_,rfl,T.x_q21,T.o_q21,eR⟩,?_⟩
  refine ⟨true,.inl ⟨_,_,_,_,_,rfl,T.x_q21,T.o_q21,T.v_q21⟩,?_⟩
  refine ⟨false,.inl ⟨_,_,_,_,_,rfl,T.x_q21,T.o_q21,aB T.i_q21_NoAsks (aB T.i_q21_NoKeep (aB T.i_q21_NoName (aB T.i_q21_NoNumber (aB T.i_q21_NoPlace (aB T.i_q21_NoPointing (aB T.i_q21_NoPrices (aB T.i_q21_NoRow ca)))))))⟩,?_⟩
  refine ⟨false,.inl ⟨_,_,_,_,_,rfl,T.x_q21,T.o_q21,aB T.i_q21_NoShare (aB T.i_q21_NoText (aB T.i_q21_NoTree (aB T.i_q21_TooMany ca)))⟩,?_⟩
  exact q0
 ·refine ⟨⟨by rw [aN]; omega,by rw [aN]; omega,by rw [aN]; simp; omega⟩,?_⟩
  refine ⟨ps,rs,as,c,_,rfl,hT,ha,hd,hc,⟨A.c_q21,_,_,rfl,T.x_q21,by simp⟩,fun _=>?_⟩
  refine ⟨true,.inl ⟨_,_,_,_,_,rfl,T.x_q21,T.o_q21,eR⟩,?_⟩
  refine ⟨true,.inl ⟨_,_,_,_,_,rfl,T.x_q21,T.o_q21,T.v_q21⟩,?_⟩
  refine ⟨false,.inl ⟨_,_,_,_,_,rfl,T.x_q21,T.o_q21,aB T.i_q21_NoAsks (aB T.i_q21_NoKeep (aB T.i_q21_NoName (aB T.i_q21_NoNumber (aB T.i_q21_NoPlace (aB T.i_q21_NoPointing (aB T.i_q21_NoPrices (aB T.i_q21_NoRow ca)))))))⟩,?_⟩
  refine ⟨false,.inl ⟨_,_,_,_,_,rfl,T.x_q21,T.o_q21,aB T.i_q21_NoShare (aB T.i_q21_NoText (aB T.i_q21_NoTree (aB T.i_q21_TooMany ca)))⟩,?_⟩
  exact q0
end
end K72
namespace K72
open PySem L2
section
variable {P:Program} {w:World} {K:PySem.W.Frag} {mg:Str→Option Value} {base:Heap} {A:Adr}
def sdChd:SpD:=fun ds q=>∃ ps rs as c,ds=[aP ps rs,aZ as,cW c]∧Tree ps rs∧AsksOk ps as∧eS ps as c∧q (.tup [aP (chP ps c) (chR rs c),aZ (chA as c)]) []
theorem nH (T:Txt K mg A):FnOk P w K mg base CX0 7 A.f_q38 A.d_q38 ["tree","asks","change"] (bA [false,false,false] true (sdChd)):=by
 have S:=l9
 refine fnD T.t_q38.F S ⟨[false,false,false],[false,false,false,true,true],true⟩ _ ?hl rfl rfl fun cdv Ar outer s H E hr=>⟨_,(af (fO (am (oO T) hr T.t_q10 (aq (aa 0) (aq (aa 1) ao))))
  (af (aV (bc (aY (am (mS T) hr T.t_q18 (aq (aa 0) (aq (aa 1) (aq (aa 2) ao)))))) (ai dc) aH)
  (af (kB (i:=3) (j:=4) rfl S.nd rfl rfl (by decide) rfl rfl (bo (qT T) hr T.t_q9 (aq (aa 0) (aq (aa 2) ao))) (bo (qI T) hr T.t_q8 (aq (aa 1) (aq (aa 2) ao))) rfl)
  (af (pS (fun _ _ h=>h) (ai (fO (QE.bor [3,4] (am (oO T) hr T.t_q10 (aq (aa 3) (aq (aa 4) ao)))))))
  (ai (eg (iS (b6 (cn 3) (b6 (cn 4) fJ))))))))),fun ds q h=>?_⟩
 case hl=>intro ds q h; obtain ⟨ps,rs,as,c,rfl,_⟩:=h; rfl
 obtain ⟨ps,rs,as,c,rfl,hT,ha,hc,q0⟩:=h
 refine ⟨ps,rs,as,rfl,hT,ha,?_⟩
 refine ⟨ps,rs,as,c,rfl,hT,hc.dr.1,?_⟩
 rw [hc.dr.2]
 refine ⟨ps,rs,as,c,rfl,hT,hc.i,?_⟩
 refine ⟨ps,as,c,rfl,hc.i,?_⟩
 refine ⟨chP ps c,chR rs c,chA as c,rfl,iM hT hc,iw ha hc,?_⟩
 refine ⟨rfl,?_⟩
 exact q0
end
end K72
namespace K72
open PySem L2
section
variable {P:Program} {w:World} {K:PySem.W.Frag} {mg:Str→Option Value} {base:Heap} {A:Adr}
theorem gv (T:Txt K mg A):FnOk P w K mg base CX0 1 A.f_q49 A.d_q49 ["_law_script","_law_k"] (bA [false,false] true (re K)):=by
 have S:=sv
 refine fnD T.t_q49.F S ⟨[false,false],[false,false,false,false],true⟩ _ ?hl rfl rfl fun cdv Ar outer s H E hr=>⟨_,(af (a5 (i:=2) S.nd rfl (Or.inl rfl) ae)
  (af (jI (aV (aU gN dB (aa 1) (aF ax cE rfl T.z_len bi (ad (aa 0) aj)) (aJ _)) (ai (a5 (i:=2) S.nd rfl (Or.inl rfl) (az au dIx (aa 0) (aa 1) (fun _ _=>rfl)))) aH))
  (af (a5 (i:=3) S.nd rfl (Or.inl rfl) (aK dl dIC (aK fg dIC (aK bB dI (aK bB dI (aK dl dIC (aa 2) ae) (aK fg dIC (aK fg dIC ae (aa 1)) (aa 1))) ae) ae) ae))
  (af (aV (aU gN dB (aa 2) (aK cS dIC ae ae) (aJ _)) (ai (a5 (i:=2) S.nd rfl (Or.inl rfl) ae)) aH)
  (ai (eg (QF.qm (jE (ad (aa 2) (ad (aa 3) aj)))))))))),fun ds q h=>?_⟩
 case hl=>intro ds q h; obtain ⟨φ,ns,k,rfl,_⟩:=h; rfl
 obtain ⟨φ,ns,k,rfl,hφ,h0,h1,q0⟩:=h
 refine ⟨fun ρ=>∃ z:Int,ρ=[some (.scr φ ns),some (.int k),some (.int z),none],?_,?_⟩
 ·refine ⟨hφ,?_⟩
  refine (eG (c:=decide (k<(ns.length:Int))=true) (fun c=>?_) (fun c=>⟨0,rfl⟩))
  have c':k<ns.length:=by simpa using c
  refine ⟨hφ,?_⟩
  show (match atI ns k with | some n=>_ | none=>False)
  rw [sS h0 c']; exact ⟨_,rfl⟩
 rintro ρ ⟨z,rfl⟩
 refine ⟨(show (0:Int)<1000000007 by decide),Or.inl ⟨by decide,by decide⟩,Or.inr ⟨by omega,by omega⟩,Or.inr ⟨by decide,by decide⟩,(show (0:Int)<2147483647 by decide),?_⟩
 refine ⟨⟨by decide,by decide,by decide⟩,?_⟩
 refine (eG (c:=decide (z<10 ^ 18)=true) (fun c=>?_) (fun c=>?_))
 ·exact ⟨rfl,q0 _ _ (Int.le_refl 0)⟩
 ·have c':(10:Int) ^ 18≤z:=by simpa using c
  exact ⟨rfl,q0 _ _ (by omega)⟩
theorem bz (T:Txt K mg A):FnOk P w K mg base CX0 1 A.f_q50 A.d_q50 ["_law_pool_here","_law_many"] (bA [true,false] false (so)):=by
 have S:=rM
 refine fnD T.t_q50.F S ⟨[true,false],[true,false,false],false⟩ _ ?hl rfl rfl fun cdv Ar outer s H E hr=>⟨_,(af (aV (QT.bor [0] (aU mH dB (az au dIx (aa 0) ae (fun _ _=>rfl)) ae (aJ _))) (af (a5 (i:=2) S.nd rfl (Or.inl rfl) (QE.bor [0] (aK dl dIC (az au dIx (aa 0) ae (fun _ _=>rfl)) (aa 1))))
  (af (d8 (i:=0) rfl (QF.bor [0] (QE.qf (aK o6 dIC (az au dIx (aa 0) ae (fun _ _=>rfl)) (aa 1)))) ae)
  (ai (aR (aa 2))))) aH)
  (af (d8 (i:=0) rfl (QF.bor [0] (QE.qf (aK dl dIC (aK bB dI (aK fg dIC (az au dIx (aa 0) ae (fun _ _=>rfl)) ae) ae) ae))) ae)
  (ai (aR (QE.bor [0] (aK dl dIC (aK pe dIC (aK dl dIC (aK fg dIC (az au dIx (aa 0) ae (fun _ _=>rfl)) (az au dIx (aa 0) ae (fun _ _=>rfl))) ae) ae) (aa 1))))))),fun ds q h=>?_⟩
 case hl=>intro ds q h; obtain ⟨c,m,many,rfl,_⟩:=h; rfl
 obtain ⟨c,m,many,rfl,h0,hm,hs,q0⟩:=h
 refine (eG (c:=decide (0<c)=true) (fun c1=>?_) (fun c1=>?_))
 ·refine ⟨hm,rfl,?_⟩
  refine ⟨⟨hm,hs⟩,rfl,?_⟩
  exact q0 _ (c / many) m (Int.emod_nonneg _ (Int.ne_of_gt hm)) (Int.emod_lt_of_pos _ hm) (Int.ediv_nonneg h0 (Int.le_of_lt hm))
 ·refine ⟨Or.inr ⟨by decide,by decide⟩,(show (0:Int)<2147483647 by decide),rfl,?_⟩
  have a1:=Int.emod_nonneg (m * 48271 + 11) (show (2147483647:Int)≠0 by decide)
  have a2:=Int.emod_lt_of_pos (m * 48271 + 11) (show (0:Int)<2147483647 by decide)
  refine ⟨Or.inl ⟨by omega,by omega⟩,(show (0:Int)<2147483629 by decide),⟨by decide,by decide⟩,hm,?_⟩
  exact ⟨rfl,q0 _ c _ (Int.emod_nonneg _ (Int.ne_of_gt hm)) (Int.emod_lt_of_pos _ hm) h0⟩
theorem e_ (T:Txt K mg A):FnOk P w K mg base CX0 2 A.f_q33 A.d_q33 ["_law_pool_here","_law_most"] (bA [true,false] false (l6)):=by
 have S:=sW
 refine fnD T.t_q33.F S ⟨[true,false],[true,false,false],false⟩ _ ?hl rfl rfl fun cdv Ar outer s H E hr=>⟨_,(af (a5 (i:=2) S.nd rfl (Or.inl rfl) (am (bz T) hr T.t_q50 (ck 0 (aq ae ao))))
  (af (aV (aU (a_ hr.units) dEq (aa 2) ae (aJ _)) (ai (aR (aK bB dI ae (am (bz T) hr T.t_q50 (ck 0 (aq (aF (d4 rfl) dMin rfl T.z_min iN (ad (aa 1) (ad ae aj))) ao)))))) aH)
  (af (aV (aU (a_ hr.units) dEq (aa 2) ae (aJ _)) (ai (aR (aK bB dI ae (am (bz T) hr T.t_q50 (ck 0 (aq (aF (d4 rfl) dMin rfl T.z_min iN (ad (aa 1) (ad ae aj))) ao)))))) aH)
  (af (aV (aU (a_ hr.units) dEq (aa 2) ae (aJ _)) (ai (aR (aK du dI (aa 1) (am (bz T) hr T.t_q50 (ck 0 (aq (aF (d4 rfl) dMin rfl T.z_min iN (ad (aa 1) (ad ae aj))) ao)))))) aH)
  (ai (aR (aK bB dI ae (aK dl dIC (aK bB dI (aK fg dIC (am (bz T) hr T.t_q50 (ck 0 (aq (aK cS dIC ae ae) ao))) (aK cS dIC ae ae)) (am (bz T) hr T.t_q50 (ck 0 (aq (aK cS dIC ae ae) ao)))) (aa 1))))))))),fun ds q h=>?_⟩
 case hl=>intro ds q h; obtain ⟨c,m,most,rfl,_⟩:=h; rfl
 obtain ⟨c,m,most,rfl,h0,hm0,hm1,q0⟩:=h
 refine ⟨c,m,4,rfl,h0,by decide,b9 (n:=4) (by decide) (by decide +kernel),fun w0 c1 m1 w00 w01 h1=>?_⟩
 have hmin:∀ j:Int,1≤j→∃ z:Int,(if j<most then j else most)=z∧1≤z∧z≤most:=fun j hj=>by
  by_cases h:j<most
  ·exact ⟨j,by rw [if_pos h],hj,by omega⟩
  ·exact ⟨most,by rw [if_neg h],hm0,Int.le_refl _⟩
 refine (eG (c:=decide (w0=0)=true) (fun c=>?_) (fun c=>?_))
 ·obtain ⟨z,ez,z0,z1⟩:=hmin 3 (by decide)
  refine ⟨c1,m1,z,by rw [← ez],h1,by omega,b9 (n:=1000000000000) (by omega) (by decide +kernel),fun u c2 m2 u0 u1 h2=>?_⟩
  exact q0 _ c2 m2 (by omega) (by omega) h2
 refine (eG (c:=decide (w0=1)=true) (fun c=>?_) (fun c=>?_))
 ·obtain ⟨z,ez,z0,z1⟩:=hmin 12 (by decide)
  refine ⟨c1,m1,z,by rw [← ez],h1,by omega,b9 (n:=1000000000000) (by omega) (by decide +kernel),fun u c2 m2 u0 u1 h2=>?_⟩
  exact q0 _ c2 m2 (by omega) (by omega) h2
 refine (eG (c:=decide (w0=2)=true) (fun c=>?_) (fun c=>?_))
 ·obtain ⟨z,ez,z0,z1⟩:=hmin 3 (by decide)
  refine ⟨c1,m1,z,by rw [← ez],h1,by omega,b9 (n:=1000000000000) (by omega) (by decide +kernel),fun u c2 m2 u0 u1 h2=>?_⟩
  exact q0 _ c2 m2 (by omega) (by omega) h2
 refine ⟨⟨by decide,by decide,by decide⟩,?_⟩
 refine ⟨c1,m1,1000000,rfl,h1,by decide,b9 (n:=1000000) (by decide) (by decide +kernel),fun u c2 m2 u0 u1 h2=>?_⟩
 refine ⟨⟨by decide,by decide,by decide⟩,Or.inr ⟨by decide,by decide⟩,?_⟩
 refine ⟨⟨by decide,by decide,by decide⟩,?_⟩
 refine ⟨c2,m2,1000000,rfl,h2,by decide,b9 (n:=1000000) (by decide) (by decide +kernel),fun u' c3 m3 u0' u1' h3=>?_⟩
 refine ⟨(show (0:Int)<most by omega),?_⟩
 have e1:∀ z:Int,1≤1 + z % most:=fun z=>by have:=Int.emod_nonneg z (show most≠0 by omega); omega
 have e2:∀ z:Int,1 + z % most≤most:=fun z=>by have:=Int.emod_lt_of_pos z (show 0<most by omega); omega
 exact q0 _ c3 m3 (e1 _) (e2 _) h3
theorem sZ (T:Txt K mg A):FnOk P w K mg base CX0 2 A.f_q19 A.d_q19 ["_law_pool_here","_law_most"] (bA [true,false] true (li)):=by
 have S:=rm
 refine fnD T.t_q19.F S ⟨[true,false],[true,false,false,true,false,false],true⟩ _ ?hl rfl rfl fun cdv Ar outer s H E hr=>⟨_,(af (a5 (i:=2) S.nd rfl (Or.inl rfl) (am (bz T) hr T.t_q50 (ck 0 (aq ae ao))))
  (af (d7 (i:=3) S.nd rfl (Or.inl rfl) (jE aj))
  (af (gk PassesOwn.never rfl (gH rfl T.z_range (ad ae (ad (aK bB dI ae (am (bz T) hr T.t_q50 (ck 0 (aq (aa 1) ao)))) aj))) (aI (i:=4) S.nd rfl (Or.inl rfl)) (af (a5 (i:=5) S.nd rfl (Or.inl rfl) (am (bz T) hr T.t_q50 (ck 0 (aq (aa 4) ao))))
  (ai (bE (i:=3) rfl (QE.qf (az au dIx (cB (ad (aa 5) (ad (aK du dI (aa 4) ae) (ad ae (ad (aF (e7 rfl) dMax rfl T.z_max jQ (ad ae (ad (aK du dI (aK du dI (aa 4) ae) (aK dl dIC (aa 5) ae)) aj))) aj))))) (aa 2) (fun _ _=>rfl)))))))
  (ai (eg (cn 3)))))),fun ds q h=>?_⟩
 case hl=>intro ds q h; obtain ⟨c,m,most,rfl,_⟩:=h; rfl
 obtain ⟨c,m,most,rfl,h0,hm0,hm1,q0⟩:=h
 refine ⟨c,m,4,rfl,h0,by decide,b9 (n:=4) (by decide) (by decide +kernel),fun w0 c1 m1 w00 w01 h1=>?_⟩
 refine ⟨rfl,?_⟩
 refine ⟨c1,m1,most,rfl,h1,by omega,b9 (n:=23) (by omega) (by decide +kernel),fun n c2 m2 n0 n1 h2=>?_⟩
 refine ⟨⟨by omega,by omega,by omega⟩,?_⟩
 refine ⟨fun i ρ=>∃ (ps:List Int) (c m:Int) (v4 v5:Option D),ρ=[some (a9 [c,m]),some (.int most),some (.int w0),some (a9 ps),v4,v5]∧0≤c∧ps.length=i∧(∀ (j:Nat) (x:Int),ps[j]? = some x→0≤x∧x≤j),⟨[],c2,m2,_,_,rfl,h2,rfl,(fun j x h=>by simp at h)⟩,?_,?_⟩
 ·rintro i d ρ hd ⟨ps,c3,m3,v4,v5,rfl,h3,lp,hpar⟩
  obtain ⟨hi,rfl⟩:=fG hd
  have hi2:i<23:=by omega
  refine ⟨c3,m3,1 + (i:Int),rfl,h3,by omega,b9 (n:=23) (by omega) (by decide +kernel),fun r c4 m4 r0 r1 h4=>?_⟩
  refine ⟨(show (0:Int)<3 by decide),?_⟩
  have e1:=Int.emod_nonneg r (show (3:Int)≠0 by decide)
  obtain ⟨y,hy,y1,y2⟩:∃ y:Int,atI [D.int r,D.int (1 + (i:Int) - 1),D.int 0,D.int (if (0:Int)<1 + (i:Int) - 1 - r % 3 then 1 + (i:Int) - 1 - r % 3 else 0)] w0=some (.int y)∧0≤y∧y≤i:=by
   have:w0=0∨w0=1∨w0=2∨w0=3:=by omega
   rcases this with rfl | rfl | rfl | rfl
   ·exact ⟨_,rfl,by omega,by omega⟩
   ·exact ⟨_,rfl,by omega,by omega⟩
   ·exact ⟨_,rfl,by omega,by omega⟩
   ·exact ⟨_,rfl,by split <;> omega,by split <;> omega⟩
  refine jw hy ?_
  refine ⟨rfl,by rw [aN]; omega,?_⟩
  refine ⟨ps++[y],c4,m4,some (.int (1 + (i:Int))),some (.int r),?_,h4,by rw [List.length_append,lp]; rfl,fK hpar ⟨y1,by omega⟩⟩
  rw [← la]; rfl
 ·rintro ρ ⟨ps,c3,m3,v4,v5,rfl,h3,lp,hpar⟩
  rw [dU] at lp
  exact q0 ps c3 m3 ⟨by omega,by omega,hpar⟩ (by omega) h3
theorem rq (T:Txt K mg A):FnOk P w K mg base CX0 3 A.f_q40 A.d_q40 ["_law_pool_here","_law_many","_law_least"] (bA [true,false,false] true (pA)):=by
 have S:=rR
 refine fnD T.t_q40.F S ⟨[true,false,false],[true,false,false,false],true⟩ _ ?hl rfl rfl fun cdv Ar outer s H E hr=>⟨_,(af (a5 (i:=3) S.nd rfl (Or.inr rfl) (az au dIx (cB (ad ae (ad ae (ad (aK cS dIC ae ae) aj)))) (am (bz T) hr T.t_q50 (ck 0 (aq ae ao))) (fun _ _=>rfl)))
  (ai (eg (QF.qm (oF ["_law_k"] [2,0,3] 0 2 ⟨rfl,rfl,by decide +kernel,rfl,rfl,(by first | exact trivial | exact ⟨rfl,trivial⟩ | exact ⟨rfl,rfl,trivial⟩ | exact ⟨rfl,rfl,rfl,trivial⟩ | exact ⟨rfl,rfl,rfl,rfl,trivial⟩),rfl⟩ rfl (gR rfl T.z_range (ad (aa 1) aj)) (nW 0) (fun _ _ _ _=>⟨(iy (i:=0) (show List.Nodup (["_law_k","_law_least","_law_pool_here","_law_most"]:List Str) by decide +kernel) rfl (Or.inl rfl)),kI,(aK bB dI (aK du dI (aa 1) ae) (am (e_ T) hr T.t_q33 (ck 2 (aq (aK bB dI (aK du dI (aa 3) (aa 1)) ae) ao))))⟩)))))),fun ds q h=>?_⟩
 case hl=>intro ds q h; obtain ⟨c,m,n,least,rfl,_⟩:=h; rfl
 obtain ⟨c,m,n,least,rfl,h0,n0,n1,l0,l1,q0⟩:=h
 refine ⟨⟨by decide,by decide,by decide⟩,?_⟩
 refine ⟨c,m,3,rfl,h0,by decide,b9 (n:=3) (by decide) (by decide +kernel),fun r c1 m1 r0 r1 h1=>?_⟩
 obtain ⟨z,hz,z1,z2⟩:∃ z:Int,atI [D.int 3,D.int 60,D.int (10 ^ Int.toNat 6)] r=some (.int z)∧3≤z∧z≤1000000:=by
  have:r=0∨r=1∨r=2:=by omega
  rcases this with rfl | rfl | rfl
  all_goals exact ⟨_,rfl,by decide,by decide⟩
 refine jw hz ?_
 refine ⟨⟨by omega,by omega⟩,?_⟩
 refine ⟨by rw [dU]; omega,?_⟩
 refine ⟨fun i es d=>∃ (rs:List Int) (c m:Int),es=rs.map D.int∧d=a9 [c,m]∧0≤c∧rs.length=i∧(∀ (j:Nat) (x:Int),rs[j]? = some x→least≤x∧x≤1000000),⟨[],c1,m1,rfl,rfl,h1,rfl,(fun j x h=>by simp at h)⟩,?_,?_⟩
 ·rintro j x es d hx ⟨rs,c5,m5,rfl,rfl,h5,lr,hroom⟩
  refine ⟨c5,m5,z - least + 1,rfl,h5,by omega,by omega,fun u c6 m6 u0 u1 h6=>?_⟩
  exact ⟨rs++[least - 1 + u],c6,m6,(List.map_append (l₂:=[least - 1 + u])).symm,rfl,h6,by rw [List.length_append,lr]; rfl,fK hroom ⟨by omega,by omega⟩⟩
 ·rintro es d ⟨rs,c5,m5,rfl,rfl,h5,lr,hroom⟩
  rw [dU] at lr
  refine ⟨bf _,?_⟩
  exact q0 rs c5 m5 ⟨by omega,hroom⟩ h5
theorem lX (T:Txt K mg A):FnOk P w K mg base CX0 2 A.f_q48 A.d_q48 ["_law_pool_here","_law_many"] (bA [true,false] false (qd)):=by
 have S:=rO
 refine fnD T.t_q48.F S ⟨[true,false],[true,false,false],false⟩ _ ?hl rfl rfl fun cdv Ar outer s H E hr=>⟨_,(af (a5 (i:=2) S.nd rfl (Or.inl rfl) (am (bz T) hr T.t_q50 (ck 0 (aq (aK bB dI (aa 1) ae) ao))))
  (ai (aR (bx (ad (aa 2) (ad (aK dl dIC (aK bB dI (aK bB dI (aa 2) ae) (am (bz T) hr T.t_q50 (ck 0 (aq (aa 1) ao)))) (aK bB dI (aa 1) ae)) aj)))))),fun ds q h=>?_⟩
 case hl=>intro ds q h; obtain ⟨c,m,n,rfl,_⟩:=h; rfl
 obtain ⟨c,m,n,rfl,h0,n0,n1,q0⟩:=h
 refine ⟨c,m,(n:Int) + 1,rfl,h0,by omega,b9 (n:=24) (by omega) (by decide +kernel),fun a c1 m1 a0 a1 h1=>?_⟩
 refine ⟨c1,m1,(n:Int),rfl,h1,by omega,b9 (n:=24) (by omega) (by decide +kernel),fun r c2 m2 r0 r1 h2=>?_⟩
 refine ⟨(show (0:Int)<(n:Int) + 1 by omega),?_⟩
 have he:=jR (ps:=List.replicate n 0) (a:=a) (r:=r) a0 (by rw [List.length_replicate]; omega) r0 (by rw [List.length_replicate]; omega)
 rw [List.length_replicate,show 1 + (n:Int)=(n:Int) + 1 by omega] at he
 have hb1:=he.b1
 rw [List.length_replicate] at hb1
 exact q0 _ _ c2 m2 he.a0 (by omega) he.b0 hb1 he.ne h2
theorem sj:inD (.str "room") [.str "ask",.str "less"]=false:=by decide +kernel
theorem sK:inD (.str "hang") [.str "ask",.str "less"]=false:=by decide +kernel
theorem sy:inD (.str "more") [.str "ask",.str "less"]=false:=by decide +kernel
theorem niAsk:inD (.str "ask") [.str "ask",.str "less"]=true:=by decide +kernel
theorem rZ:inD (.str "less") [.str "ask",.str "less"]=true:=by decide +kernel
theorem qp (c:Chg):imm (cW c)=true:=by cases c <;> rfl
def qc:SpD:=fun ds q=>∃ c m ps rs as,ds=[a9 [c,m],aP ps rs,aZ as]∧0≤c∧Tree ps rs∧AsksOk ps as∧∀ ch c' m',et ps ch→0≤c'→q (cW ch) [some (a9 [c',m'])]
theorem sq (T:Txt K mg A):FnOk P w K mg base CX0 3 A.f_q32 A.d_q32 ["_law_pool_here","_law_tree","_law_asks"] (bA [true,false,false] false (qc)):=by
 have S:=rN
 refine fnD T.t_q32.F S ⟨[true,false,false],[true,false,false,false,false,false,false,false,false,true],false⟩ _ ?hl rfl rfl fun cdv Ar outer s H E hr=>⟨_,(af (a5 (i:=3) S.nd rfl (Or.inl rfl) (aF ax cE rfl T.z_len bi (ad (az au dIx (aa 1) ae (fun _ _=>rfl)) aj)))
  (af (eD (am (lX T) hr T.t_q48 (ck 0 (aq (aa 3) ao))) (bM rfl (aE (aI (i:=4) S.nd rfl (Or.inl rfl)) (aE (aI (i:=5) S.nd rfl (Or.inl rfl)) bu)) (ar (ar a7))))
  (af (a5 (i:=6) S.nd rfl (Or.inl rfl) (bx (ad (aa 4) (ad (aa 5) (ad (am (e_ T) hr T.t_q33 (ck 0 (aq (aK cS dIC ae ae) ao))) (ad (am (e_ T) hr T.t_q33 (ck 0 (aq (aK cS dIC ae ae) ao))) aj))))))
  (af (a5 (i:=7) S.nd rfl (Or.inl rfl) (am (bz T) hr T.t_q50 (ck 0 (aq (aF (e7 rfl) dMax rfl T.z_max jQ (ad ae (ad (aF ax cE rfl T.z_len bi (ad (aa 2) aj)) aj))) ao))))
  (af (jI (a5 (i:=8) S.nd rfl (Or.inl rfl) (am (e_ T) hr T.t_q33 (ck 0 (aq (aK cS dIC ae ae) ao)))))
  (af (d7 (i:=9) S.nd rfl (Or.inl rfl) (jE (ad (bx (ad aW (ad (aa 6) aj))) (ad (bx (ad aW (ad (aa 6) aj))) (ad (bx (ad aW (ad (aa 7) (ad (aa 6) aj)))) (ad (bx (ad aW (ad (aa 7) aj))) aj))))))
  (af (bE (i:=9) rfl (QE.qf (bx (ad aW (ad (aK bB dI ae (am (bz T) hr T.t_q50 (ck 0 (aq (aa 3) ao)))) (ad (aa 8) aj))))))
  (af (bE (i:=9) rfl (QE.qf (bx (ad aW (ad (am (bz T) hr T.t_q50 (ck 0 (aq (aK bB dI (aa 3) ae) ao))) (ad (aa 8) aj))))))
  (ai (aR (QE.bor [9] (az au dIx (aa 9) (am (bz T) hr T.t_q50 (ck 0 (aq ae ao))) (fun _ _=>rfl))))))))))))),fun ds q h=>?_⟩
 case hl=>intro ds q h; obtain ⟨c,m,ps,rs,as,rfl,_⟩:=h; rfl
 obtain ⟨c,m,ps,rs,as,rfl,h0,hT,ha,q0⟩:=h
 have hi:=hT.hi
 have hlo:=hT.lo
 have hal:=ha.len
 refine ⟨c,m,ps.length,by rw [aN],h0,hlo,hi,fun a b c1 m1 a0 a1 b0 b1 hab h1=>?_⟩
 have he:Ends2 ps a b:=⟨a0,a1,b0,b1,hab⟩
 refine ⟨⟨by decide,by decide,by decide⟩,?_⟩
 refine ⟨c1,m1,1000000,rfl,h1,by decide,by decide,fun size c2 m2 s0 s1 h2=>?_⟩
 refine ⟨⟨by decide,by decide,by decide⟩,?_⟩
 refine ⟨c2,m2,1000000000000,rfl,h2,by decide,by decide,fun worth c3 m3 w0 w1 h3=>?_⟩
 have ok:AskOk ps ⟨a,b,size,worth⟩:=⟨he,s0,s1,w0,w1⟩
 have hmx : 0<(if (1:Int)<((as.map a4).length:Int) then ((as.map a4).length:Int) else 1)∧(if (1:Int)<((as.map a4).length:Int) then ((as.map a4).length:Int) else 1)≤30:=by
  rw [cY]; split <;> omega
 refine ⟨c3,m3,_,rfl,h3,hmx.1,b9 (n:=30) (by have:=hmx.1; have:=hmx.2; omega) (by decide +kernel),fun k c4 m4 k0 k1 h4=>?_⟩
 refine ⟨fun ρ=>∃ (r c m:Int),ρ=[some (a9 [c,m]),some (aP ps rs),some (aZ as),some (.int ((ps.map D.int).length:Int)),some (.int a),some (.int b),some (a4 ⟨a,b,size,worth⟩),some (.int k),some (.int r),none]∧0≤c∧1≤r∧r≤1000000,?_,?_⟩
 ·refine ⟨⟨by decide,by decide,by decide⟩,?_⟩
  refine ⟨c4,m4,1000000,rfl,h4,by decide,by decide,fun r c5 m5 r0 r1 h5=>?_⟩
  exact ⟨r,c5,m5,rfl,h5,r0,r1⟩
 rintro ρ ⟨r,c5,m5,rfl,h5,r0,r1⟩
 refine ⟨rfl,c5,m5,((ps.map D.int).length:Int),rfl,h5,by rw [aN]; omega,b9 (n:=23) (by rw [aN]; omega) (by decide +kernel),fun t c6 m6 t0 t1 h6=>?_⟩
 rw [aN] at t1
 refine ⟨rfl,(show 4<1000 by omega),?_⟩
 refine ⟨c6,m6,((ps.map D.int).length:Int) + 1,rfl,h6,by rw [aN]; omega,b9 (n:=24) (by rw [aN]; omega) (by decide +kernel),fun p c7 m7 p0 p1 h7=>?_⟩
 rw [aN] at p1
 refine ⟨rfl,(show 5<1000 by omega),?_⟩
 refine ⟨c7,m7,6,rfl,h7,by decide,b9 (n:=6) (by decide) (by decide +kernel),fun z c8 m8 z0 z1 h8=>?_⟩
 obtain ⟨ch,hy,hd⟩:∃ ch,atI [cW (.more ⟨a,b,size,worth⟩),cW (.more ⟨a,b,size,worth⟩),cW (.ask k ⟨a,b,size,worth⟩),cW (.less k),cW (.room (1 + t) r),cW (.hang p r)] z=some (cW ch)∧et ps ch:=by
  have:z=0∨z=1∨z=2∨z=3∨z=4∨z=5:=by omega
  rcases this with rfl | rfl | rfl | rfl | rfl | rfl
  ·exact ⟨_,rfl,ok⟩
  ·exact ⟨_,rfl,ok⟩
  ·exact ⟨_,rfl,k0,ok⟩
  ·exact ⟨_,rfl,k0⟩
  ·exact ⟨_,rfl,by omega,by omega,r0,r1⟩
  ·exact ⟨_,rfl,p0,by omega,r0,r1⟩
 refine jw hy ?_
 exact ⟨qp ch,q0 ch c8 m8 hd h8⟩
def s9:SpD:=fun ds q=>∃ ps rs as c,ds=[aP ps rs,aZ as,cW c]∧q (.bl (fT ps as c)) []
theorem nA (T:Txt K mg A):FnOk P w K mg base CX0 1 A.f_q31 A.d_q31 ["_law_tree","_law_asks","_law_change_here"] (bA [false,false,false] false (s9)):=by
 have S:=sm
 refine fnD T.t_q31.F S ⟨[false,false,false],[false,false,false],false⟩ _ ?hl rfl rfl fun cdv Ar outer s H E hr=>⟨_,(af (aV (aU hV dIn (az au dIx (aa 2) ae (fun _ _=>rfl)) (bx (ad aW (ad aW aj))) rfl) (ai (aR (cb gN dB (az au dIx (aa 2) ae (fun _ _=>rfl)) (aF ax cE rfl T.z_len bi (ad (aa 1) aj)) (aJ _)))) aH)
  (af (aV (aU (a_ hr.units) dEq (az au dIx (aa 2) ae (fun _ _=>rfl)) aW (aJ _)) (ai (aR (cb gN dB (aF ax cE rfl T.z_len bi (ad (aa 1) aj)) ae (aJ _)))) aH)
  (ai (aR (qM (cb (a_ hr.units) dEq (az au dIx (aa 2) ae (fun _ _=>rfl)) aW (aJ _)) (cM (cb gN dB (aF ax cE rfl T.z_len bi (ad (az au dIx (aa 0) ae (fun _ _=>rfl)) aj)) ae (aJ _)))))))),fun ds q h=>?_⟩
 case hl=>intro ds q h; obtain ⟨ps,rs,as,c,rfl,_⟩:=h; rfl
 obtain ⟨ps,rs,as,c,rfl,q0⟩:=h
 cases c with
 | room t r =>
  refine ⟨rfl,rfl,?_⟩
  rw [if_neg (show ¬ (false=true) by decide),sj]
  refine ⟨lS _ kR,lS _ kM,?_⟩
  rw [ba,decide_eq_false (by decide +kernel)]
  refine ⟨lS _ kR,lS _ kR,?_⟩
  rw [ba,decide_eq_true rfl]
  exact q0
 | hang p r =>
  refine ⟨rfl,rfl,?_⟩
  rw [if_neg (show ¬ (false=true) by decide),sK]
  refine ⟨lS _ kH,lS _ kM,?_⟩
  rw [ba,decide_eq_false (by decide +kernel)]
  refine ⟨lS _ kH,lS _ kR,?_⟩
  rw [ba,decide_eq_false (by decide +kernel)]
  have e:fT ps as (Chg.hang p r)=decide (((ps.map D.int).length:Int)<23):=by rw [aN]; rfl
  rw [e] at q0; exact q0
 | ask k a =>
  refine ⟨rfl,rfl,?_⟩
  rw [if_neg (show ¬ (false=true) by decide),niAsk]
  have e:fT ps as (Chg.ask k a)=decide (k<((as.map a4).length:Int)):=by rw [cY]; rfl
  rw [e] at q0; exact q0
 | more a =>
  refine ⟨rfl,rfl,?_⟩
  rw [if_neg (show ¬ (false=true) by decide),sy]
  refine ⟨lS _ kM,lS _ kM,?_⟩
  rw [ba,decide_eq_true rfl]
  have e:fT ps as (Chg.more a)=decide (((as.map a4).length:Int)<30):=by rw [cY]; rfl
  rw [e] at q0; exact q0
 | less k =>
  refine ⟨rfl,rfl,?_⟩
  rw [if_neg (show ¬ (false=true) by decide),rZ]
  have e:fT ps as (Chg.less k)=decide (k<((as.map a4).length:Int)):=by rw [cY]; rfl
  rw [e] at q0; exact q0
def oq:SpD:=fun ds q=>∃ ps rs as c,ds=[aP ps rs,aZ as,cW c]∧Tree ps rs∧AsksOk ps as∧eS ps as c∧q (.tup [aP (chP ps c) (chR rs c),aZ (chA as c)]) []
theorem lT (T:Txt K mg A):FnOk P w K mg base CX0 1 A.f_q30 A.d_q30 ["_law_tree","_law_asks","_law_change_here"] (bA [false,false,false] false (oq)):=by
 have S:=ra
 refine fnD T.t_q30.F S ⟨[false,false,false],[false,false,false,true,true,true],false⟩ _ ?hl rfl rfl fun cdv Ar outer s H E hr=>⟨_,(af (lU (i:=3) (j:=4) (k:=5) rfl S.nd rfl rfl rfl rfl rfl rfl (cu bd eQ rfl T.z_list br (ad (az au dIx (aa 0) ae (fun _ _=>rfl)) aj)) (cu bd eQ rfl T.z_list br (ad (az au dIx (aa 0) ae (fun _ _=>rfl)) aj)) (cu bd eQ rfl T.z_list br (ad (aa 1) aj)) rfl)
  (af (aV (aU (a_ hr.units) dEq (az au dIx (aa 2) ae (fun _ _=>rfl)) aW (aJ _)) (ai (d8 (i:=4) rfl (QE.qf (az au dIx (aa 2) ae (fun _ _=>rfl))) (aK du dI (az au dIx (aa 2) ae (fun _ _=>rfl)) ae))) (ai (aV (aU (a_ hr.units) dEq (az au dIx (aa 2) ae (fun _ _=>rfl)) aW (aJ _)) (af (bE (i:=3) rfl (QE.qf (az au dIx (aa 2) ae (fun _ _=>rfl))))
  (ai (bE (i:=4) rfl (QE.qf (az au dIx (aa 2) ae (fun _ _=>rfl)))))) (ai (aV (aU (a_ hr.units) dEq (az au dIx (aa 2) ae (fun _ _=>rfl)) aW (aJ _)) (ai (bE (i:=5) rfl (QE.qf (az au dIx (aa 2) ae (fun _ _=>rfl))))) (ai (aV (aU (a_ hr.units) dEq (az au dIx (aa 2) ae (fun _ _=>rfl)) aW (aJ _)) (ai (d7 (i:=5) S.nd rfl (Or.inl rfl) (QF.bor [5] (qf_mk rh dCat (iW (aa 5) kS (kN (az au dIx (aa 2) ae (fun _ _=>rfl)))) (iW (aa 5) (kN (aK bB dI (az au dIx (aa 2) ae (fun _ _=>rfl)) ae)) kS))))) (ai (d8 (i:=5) rfl (QE.qf (az au dIx (aa 2) ae (fun _ _=>rfl))) (az au dIx (aa 2) ae (fun _ _=>rfl)))))))))))
  (ai (nq (iS (b6 (iS (b6 (cn 3) (b6 (cn 4) fJ))) (b6 (cn 5) fJ))))))),fun ds q h=>?_⟩
 case hl=>intro ds q h; obtain ⟨ps,rs,as,c,rfl,_⟩:=h; rfl
 obtain ⟨ps,rs,as,c,rfl,hT,ha,hc,q0⟩:=h
 have hi:=e5 as
 have hL:=hT.len
 have ip:=bf ps
 have ir:=bf rs
 cases c with
 | room t r =>
  obtain ⟨t0,t1,-,-⟩:=hc
  refine ⟨ip,ir,hi,lS _ kR,lS _ kR,?_⟩
  rw [ba,decide_eq_true rfl]
  refine ⟨rfl,?_⟩
  show (match ixN (rs.map D.int).length (t - 1) with | some _=>_ | none=>False)
  rw [aN,fN (by omega) (by omega)]
  have e:aP (chP ps (Chg.room t r)) (chR rs (Chg.room t r)) = .tup [.lst (ps.map D.int),.lst ((rs.map D.int).set (t - 1).toNat (.int r))]:=by
   show D.tup [.lst (ps.map D.int),.lst ((rs.set (t - 1).toNat r).map D.int)]=_
   rw [List.map_set]
  rw [e] at q0; exact q0
 | hang p r =>
  obtain ⟨-,-,-,-,hn⟩:=hc
  refine ⟨ip,ir,hi,lS _ kH,lS _ kR,?_⟩
  rw [ba,decide_eq_false (by decide +kernel)]
  refine ⟨lS _ kH,lS _ kH,?_⟩
  rw [ba,decide_eq_true rfl]
  refine ⟨rfl,by rw [aN]; omega,rfl,by rw [aN]; omega,?_⟩
  have e:aP (chP ps (Chg.hang p r)) (chR rs (Chg.hang p r)) = .tup [.lst (ps.map D.int++[.int p]),.lst (rs.map D.int++[.int r])]:=by
   show D.tup [.lst ((ps++[p]).map D.int),.lst ((rs++[r]).map D.int)]=_
   rw [List.map_append,List.map_append]; rfl
  rw [e] at q0; exact q0
 | more a =>
  have hn:=hc.1
  refine ⟨ip,ir,hi,lS _ kM,lS _ kR,?_⟩
  rw [ba,decide_eq_false (by decide +kernel)]
  refine ⟨lS _ kM,lS _ kH,?_⟩
  rw [ba,decide_eq_false (by decide +kernel)]
  refine ⟨lS _ kM,lS _ kM,?_⟩
  rw [ba,decide_eq_true rfl]
  refine ⟨rfl,by rw [List.length_map]; omega,?_⟩
  have e:aZ (chA as (Chg.more a)) = .lst (as.map a4++[a4 a]):=by
   show D.lst ((as++[a]).map a4)=_
   rw [List.map_append]; rfl
  rw [e] at q0; exact q0
 | less k =>
  obtain ⟨k0,k1⟩:=hc
  refine ⟨ip,ir,hi,lS _ kL,lS _ kR,?_⟩
  rw [ba,decide_eq_false (by decide +kernel)]
  refine ⟨lS _ kL,lS _ kH,?_⟩
  rw [ba,decide_eq_false (by decide +kernel)]
  refine ⟨lS _ kL,lS _ kM,?_⟩
  rw [ba,decide_eq_false (by decide +kernel)]
  refine ⟨lS _ kL,lS _ kL,?_⟩
  rw [ba,decide_eq_true rfl]
  have e1:fb (as.map a4) none (some k)=(as.map a4).take k.toNat:=lI k0
  have e2:fb (as.map a4) (some (k + 1)) none=(as.map a4).drop (k.toNat + 1):=by
   rw [show k.toNat + 1=(k + 1).toNat by omega]; exact lE (by omega)
  have hal:=ha.len
  have e3:(as.map a4).take k.toNat++(as.map a4).drop (k.toNat + 1)=(as.eraseIdx k.toNat).map a4:=by
   rw [e8,List.eraseIdx_eq_take_drop_succ]
  show (fb (as.map a4) none (some k)).length + (fb (as.map a4) (some (k + 1)) none).length≤1000∧_
  refine ⟨by rw [e1,e2,List.length_take,List.length_drop,List.length_map]; omega,?_⟩
  rw [e1,e2,e3]
  first | exact q0 | exact ⟨e5 _,q0⟩
 | ask k a =>
  obtain ⟨k0,k1,-⟩:=hc
  refine ⟨ip,ir,hi,lS _ kA,lS _ kR,?_⟩
  rw [ba,decide_eq_false (by decide +kernel)]
  refine ⟨lS _ kA,lS _ kH,?_⟩
  rw [ba,decide_eq_false (by decide +kernel)]
  refine ⟨lS _ kA,lS _ kM,?_⟩
  rw [ba,decide_eq_false (by decide +kernel)]
  refine ⟨lS _ kA,lS _ kL,?_⟩
  rw [ba,decide_eq_false (by decide +kernel)]
  refine ⟨rfl,?_⟩
  show (match ixN (as.map a4).length k with | some _=>_ | none=>False)
  rw [List.length_map,fN k0 (by omega)]
  have e:aZ (chA as (Chg.ask k a)) = .lst ((as.map a4).set k.toNat (a4 a)):=by
   show D.lst ((as.set k.toNat a).map a4)=_
   rw [List.map_set]
  rw [e] at q0; exact q0
end
end K72
namespace K72
open PySem L2
section
variable {P:Program} {w:World} {K:PySem.W.Frag} {mg:Str→Option Value} {base:Heap} {A:Adr}
def lw:SpD:=fun ds q=>∃ ps rs as c,ds=[aP ps rs,aZ as,cW c]∧Tree ps rs∧AsksOk ps as∧et ps c∧q (.bl true) []
def gq (ps rs:List Int) (as:List Ask):D:=.lst [aP ps rs,aZ as]
theorem i2 (ps rs:List Int) (as:List Ask):lay 4 (gq ps rs as)=true:=by
 unfold gq
 rw [lay,List.all_cons,List.all_cons,hZ,show lay 3 (aZ as)=true from gI 1 as]; rfl
def k6 (ps rs:List Int) (as:List Ask):D:=.tup [aP ps rs,aZ as]
theorem kr (ps rs:List Int) (as:List Ask):lay 4 (k6 ps rs as)=true:=by
 unfold k6
 rw [lay,List.all_cons,List.all_cons,hZ,show lay 3 (aZ as)=true from gI 1 as]; rfl
theorem rD (T:Txt K mg A):FnOk P w K mg base CX0 13 A.f_q39 A.d_q39 ["_law_tree","_law_asks","_law_change_here"] (bA [false,false,false] false (lw)):=by
 have S:=sk
 refine fnD T.t_q39.F S ⟨[false,false,false],[false,false,false,false,false,false,true],false⟩ _ ?hl rfl rfl fun cdv Ar outer s H E hr=>⟨_,(af (a5 (i:=3) S.nd rfl (Or.inr rfl) (cB (ad (bx (ad (eE bd eQ rfl T.z_list br (ad (az au dIx (aa 0) ae (fun _ _=>rfl)) aj)) (ad (eE bd eQ rfl T.z_list br (ad (az au dIx (aa 0) ae (fun _ _=>rfl)) aj)) aj))) (ad (eE bd eQ rfl T.z_list br (ad (aa 1) aj)) aj))))
  (af (aV (bc (aY (am (nA T) hr T.t_q31 (aq (aa 0) (aq (aa 1) (aq (aa 2) ao)))))) (af (jP (i:=4) ["_law_way"] [2,3] ⟨rfl,rfl,by decide +kernel,rfl,rfl,(by first | exact trivial | exact ⟨rfl,trivial⟩ | exact ⟨rfl,rfl,trivial⟩ | exact ⟨rfl,rfl,rfl,trivial⟩ | exact ⟨rfl,rfl,rfl,rfl,trivial⟩),rfl⟩ rfl S.nd rfl (Or.inl rfl) (gR rfl T.z_range (ad ae aj)) (pq 0) (fun _ _ _ _=>⟨(iy (i:=0) (show List.Nodup (["_law_way","_law_change_here","_law_handed"]:List Str) by decide +kernel) rfl (Or.inl rfl)),kI,(am (ok_q2 T) hr T.t_q2 (aq (aa 0) (aq (az au dIx (aa 2) ae (fun _ _=>rfl)) (aq (az au dIx (aa 2) ae (fun _ _=>rfl)) (aq (aa 1) ao)))))⟩))
  (ai (aR (cQ (cb (a_ hr.units) dEq (aa 4) (cB (ad ci (ad ci (ad ci (ad ci aj))))) (aJ _)) (cM (cb (a_ hr.units) dEq (aa 3) (cB (ad (aa 0) (ad (aa 1) aj))) (aJ _))))))) aH)
  (af (a5 (i:=5) S.nd rfl (Or.inl rfl) (am (lT T) hr T.t_q30 (aq (aa 0) (aq (aa 1) (aq (aa 2) ao)))))
  (af (d7 (i:=6) S.nd rfl (Or.inl rfl) (bo (nH T) hr T.t_q38 (aq (az au dIx (aa 3) ae (fun _ _=>rfl)) (aq (az au dIx (aa 3) ae (fun _ _=>rfl)) (aq (aa 2) ao)))))
  (af (aV (QT.bor [6] (QW.qt (er (bc (aY (bT rfl T.z_isinstance aA (aa 6) (bt (v:=.ty "tuple") rfl T.z_tuple dY rfl)))) (er (aU (eX hr.units) dNe (aa 6) (aa 5) (aJ _)) (dH (aU (eX hr.units) dNe (aa 3) (cB (ad (aa 0) (ad (aa 1) aj))) (aJ _))))))) (ai (aR ci)) aH)
  (af (aV (QT.bor [6] (QW.qt (er (bc (aY (bT rfl T.z_isinstance aA (az au dIx (aa 6) ae (fun _ _=>rfl)) (bt (v:=.ty "tuple") rfl T.z_tuple dY rfl)))) (dH (bc (aY (bT rfl T.z_isinstance aA (az au dIx (aa 6) ae (fun _ _=>rfl)) (bt (v:=.ty "list") rfl T.z_list br rfl)))))))) (ai (aR ci)) aH)
  (af (kG (i:=6) (jq (jq jx fW) fW) ae)
  (af (p_ (i:=6) (jq (jq jx fW) fW))
  (af (kG (i:=6) (jq jx fW) jt)
  (ai (aR (cQ (cb (a_ hr.units) dEq (aa 3) (cB (ad (aa 0) (ad (aa 1) aj))) (aJ _)) (cM (cb (a_ hr.units) dEq (QF.qe (bo (nH T) hr T.t_q38 (aq (az au dIx (aa 3) ae (fun _ _=>rfl)) (aq (az au dIx (aa 3) ae (fun _ _=>rfl)) (aq (aa 2) ao))))) (aa 5) (aJ _))))))))))))))),fun ds q h=>?_⟩
 case hl=>intro ds q h; obtain ⟨ps,rs,as,c,rfl,_⟩:=h; rfl
 obtain ⟨ps,rs,as,c,rfl,hT,ha,hd,q0⟩:=h
 have hal:=ha.len
 have hi:=hT.hi
 have oH:okD (gq ps rs as)=true:=iK (i2 ps rs as) (by decide)
 have eH:eqD (gq ps rs as) (gq ps rs as)=true:=dW 4 _ (i2 ps rs as)
 have oB:=fun ps rs as=>iK (kr ps rs as) (by decide)
 have eB:=fun ps rs as=>dW 4 _ (kr ps rs as)
 refine ⟨ps,rs,as,c,rfl,?_⟩
 cases hc:fT ps as c with
 | false =>
  refine ⟨⟨by decide,by decide⟩,?_⟩
  refine ⟨by rw [dU]; decide,?_⟩
  refine lh (fun _=>D.bl true) ?_ ?_
  ·intro d hd2 k hk
   obtain ⟨i,hi2⟩:=List.getElem?_of_mem hd2
   obtain ⟨hi3,rfl⟩:=fG hi2
   refine ⟨_,ps,rs,as,c,rfl,by omega,by have:i<4:=hi3; omega,hT,ha,hd,hc,?_⟩
   exact hk
  have l4:(jd 0 (Int.toNat 4)).map (fun _=>D.bl true)=[.bl true,.bl true,.bl true,.bl true]:=rfl
  rw [l4]
  have o4:okD (.lst [.bl true,.bl true,.bl true,.bl true])=true:=iK (n:=2) rfl (by decide)
  have e4:eqD (.lst [.bl true,.bl true,.bl true,.bl true]) (.lst [.bl true,.bl true,.bl true,.bl true])=true:=dW 2 _ rfl
  refine ⟨o4,o4,?_⟩
  rw [e4]
  refine ⟨oH,oH,?_⟩
  show q (.bl (eqD (gq ps rs as) (gq ps rs as))) []
  rw [eH]; exact q0
 | true =>
  have hok:=oY hd hc
  refine ⟨ps,rs,as,c,rfl,hT,ha,hok,?_⟩
  refine ⟨ps,rs,as,c,rfl,hT,ha,hok,?_⟩
  refine ⟨oB _ _ _,oB _ _ _,?_⟩
  show (if (!eqD (k6 (chP ps c) (chR rs c) (chA as c)) (k6 (chP ps c) (chR rs c) (chA as c)))=true then _ else _)
  rw [eB]
  refine ⟨oH,oH,?_⟩
  have eH':eqD (.lst [.tup [.lst (ps.map D.int),.lst (rs.map D.int)],.lst (as.map a4)]) (.lst [aP ps rs,aZ as])=true:=eH
  rw [eH']
  have hT2:=iM hT hok
  have ha2:=iw ha hok
  have hi2:=hT2.hi
  have hal2:=ha2.len
  refine ⟨_,rfl,0,_,rfl,rfl,0,_,rfl,rfl,_,_,rfl,rfl,rfl,by rw [aN]; omega,?_⟩
  refine ⟨_,rfl,0,_,rfl,rfl,1,_,rfl,rfl,_,_,rfl,rfl,?_⟩
  refine ⟨_,rfl,1,_,rfl,rfl,_,_,rfl,rfl,rfl,by rw [cY]; omega,?_⟩
  refine ⟨oH,oH,?_⟩
  rw [eH']
  refine ⟨ps,rs,as,c,rfl,hT,ha,hok,?_⟩
  refine ⟨oB _ _ _,oB _ _ _,?_⟩
  show q (.bl (eqD (k6 (chP ps c) (chR rs c) (chA as c)) (k6 (chP ps c) (chR rs c) (chA as c)))) []
  rw [eB]; exact q0
end
end K72
namespace K72
open PySem L2
section
variable {P:Program} {w:World} {K:PySem.W.Frag} {mg:Str→Option Value} {base:Heap} {A:Adr}
theorem rB (T:Txt K mg A):FnOk P w K mg base CX0 14 A.f_law A.d_law ["_law_script"] (bA [false] false (mP K)):=by
 have S:=sF
 refine fnD T.t_law.F S ⟨[false],[false,false,false,false,false,false,false,true,false,false],false⟩ _ ?hl rfl rfl fun cdv Ar outer s H E hr=>⟨_,(af (a5 (i:=1) S.nd rfl (Or.inl rfl) (QF.qe (bo (sZ T) hr T.t_q19 (qk_t (bo (gv T) hr T.t_q49 (aq (aa 0) (aq ae ao))) (aq ae ao)))))
  (af (a5 (i:=2) S.nd rfl (Or.inl rfl) (bx (ad (aa 1) (ad (QF.qe (bo (rq T) hr T.t_q40 (qk_t (bo (gv T) hr T.t_q49 (aq (aa 0) (aq ae ao))) (aq (aF ax cE rfl T.z_len bi (ad (aa 1) aj)) (aq ae ao))))) aj))))
  (af (a5 (i:=3) S.nd rfl (Or.inl rfl) (cB aj))
  (af (a5 (i:=4) S.nd rfl (Or.inl rfl) (cb (a_ hr.units) dEq (am (bz T) hr T.t_q50 (qk_t (bo (gv T) hr T.t_q49 (aq (aa 0) (aq ae ao))) (aq ae ao))) ae (aJ _)))
  (af (gk PassesOwn.never rfl (gH rfl T.z_range (ad ae (ad (aF (e7 rfl) dMax rfl T.z_max jQ (ad ae (ad (aF (d4 rfl) dMin rfl T.z_min iN (ad (aF ax cE rfl T.z_len bi (ad (aa 0) aj)) (ad ae aj))) aj))) aj))) (aI (i:=5) S.nd rfl (Or.inl rfl)) (af (a5 (i:=6) S.nd rfl (Or.inl rfl) (am (sq T) hr T.t_q32 (qk_t (bo (gv T) hr T.t_q49 (aq (aa 0) (aq (aa 5) ao))) (aq (aa 2) (aq (aa 3) ao)))))
  (af (jI (aV (QW.qt (sr (aY (aa 4)) (pL (aU gN dB (aa 5) ae (aJ _))))) (af (d7 (i:=7) S.nd rfl (Or.inl rfl) (bo (gv T) hr T.t_q49 (aq (aa 0) (aq (aa 5) ao))))
  (af (eD (am (lX T) hr T.t_q48 (ck 7 (aq (aF ax cE rfl T.z_len bi (ad (az au dIx (aa 2) ae (fun _ _=>rfl)) aj)) ao))) (bM rfl (aE (aI (i:=8) S.nd rfl (Or.inl rfl)) (aE (aI (i:=9) S.nd rfl (Or.inl rfl)) bu)) (ar (ar a7))))
  (ai (a5 (i:=6) S.nd rfl (Or.inl rfl) (bx (ad aW (ad (bx (ad (aa 8) (ad (aa 9) (ad (am (e_ T) hr T.t_q33 (ck 7 (aq (aK cS dIC ae ae) ao))) (ad (am (e_ T) hr T.t_q33 (ck 7 (aq (aK cS dIC ae ae) ao))) aj))))) aj))))))) aH))
  (af (aV (bc (aY (am (rD T) hr T.t_q39 (aq (aa 2) (aq (aa 3) (aq (aa 6) ao)))))) (ai (aR ci)) aH)
  (ai (aV (aY (am (nA T) hr T.t_q31 (aq (aa 2) (aq (aa 3) (aq (aa 6) ao))))) (ai (eD (am (lT T) hr T.t_q30 (aq (aa 2) (aq (aa 3) (aq (aa 6) ao)))) (bM rfl (aE (aI (i:=2) S.nd rfl (Or.inl rfl)) (aE (aI (i:=3) S.nd rfl (Or.inl rfl)) bu)) (ar (ar a7))))) aH))))))
  (ai (aR ci))))))),fun ds q h=>?_⟩
 case hl=>intro ds q h; obtain ⟨φ,ns,rfl,_⟩:=h; rfl
 obtain ⟨φ,ns,rfl,hφ,hl,q0⟩:=h
 refine ⟨φ,ns,0,rfl,hφ,by decide,by decide,fun c m h0=>?_⟩
 refine ⟨c,m,23,rfl,h0,by decide,by decide,fun ps0 c1 m1 hP _ h1=>?_⟩
 have hi:=hP.hi
 refine ⟨φ,ns,1,rfl,hφ,by decide,by decide,fun c2 m2 h2=>?_⟩
 refine ⟨c2,m2,ps0.length,1,by rw [aN],h2,hP.lo,hP.hi,by decide,by decide,fun rs0 c5 m5 hR h5=>?_⟩
 have hT0:=hP.tree hR (by decide)
 refine ⟨φ,ns,62,rfl,hφ,by decide,by decide,fun c6 m6 h6=>?_⟩
 refine ⟨c6,m6,4,rfl,h6,by decide,b9 (n:=4) (by decide) (by decide +kernel),fun r c7 m7 r0 r1 h7=>?_⟩
 refine ⟨hφ,?_⟩
 refine ⟨⟨by decide,by decide,by split <;> split <;> omega,by split <;> split <;> omega⟩,?_⟩
 refine ⟨fun i ρ=>∃ ps rs as v5 v6 v7 v8 v9,ρ=[some (.scr φ ns),some (a9 ps0),some (aP ps rs),some (aZ as),some (.bl (decide (r=0))),v5,v6,v7,v8,v9]∧Tree ps rs∧AsksOk ps as,⟨ps0,rs0,[],_,_,_,_,_,rfl,hT0,⟨by decide,fun a h=>(by cases h)⟩⟩,?_,?_⟩
 ·rintro i d ρ hd ⟨ps,rs,as,v5,v6,v7,v8,v9,rfl,hT,ha⟩
  obtain ⟨hi2,rfl⟩:=fG hd
  have hi3:i<61:=by revert hi2; split <;> split <;> omega
  refine ⟨φ,ns,2 + (i:Int),rfl,hφ,by omega,by omega,fun c8 m8 h8=>?_⟩
  refine ⟨c8,m8,ps,rs,as,rfl,h8,hT,ha,fun ch c9 m9 hd9 h9=>?_⟩
  refine ⟨fun ρ=>∃ ch v7 v8 v9,ρ=[some (.scr φ ns),some (a9 ps0),some (aP ps rs),some (aZ as),some (.bl (decide (r=0))),some (.int (2 + i)),some (cW ch),v7,v8,v9]∧et ps ch,?_,?_⟩
  ·refine (eG (c:=decide (r=0)=true) (fun c=>?_) (fun c=>⟨ch,_,_,_,rfl,hd9⟩))
   refine (eG (c:=decide (2 + (i:Int)<32)=true) (fun c=>?_) (fun c=>⟨ch,_,_,_,rfl,hd9⟩))
   refine ⟨φ,ns,2 + (i:Int),rfl,hφ,by omega,by omega,fun c10 m10 h10=>?_⟩
   refine ⟨c10,m10,ps.length,by rw [aN],h10,hT.lo,hT.hi,fun a a2 c11 m11 a0 a1 b0 b1 hab h11=>?_⟩
   have he:Ends2 ps a a2:=⟨a0,a1,b0,b1,hab⟩
   refine ⟨⟨by decide,by decide,by decide⟩,?_⟩
   refine ⟨c11,m11,1000000,rfl,h11,by decide,by decide,fun size c12 m12 s0 s1 h12=>?_⟩
   refine ⟨⟨by decide,by decide,by decide⟩,?_⟩
   refine ⟨c12,m12,1000000000000,rfl,h12,by decide,by decide,fun worth c13 m13 w0 w1 h13=>?_⟩
   exact ⟨.more ⟨a,a2,size,worth⟩,_,_,_,rfl,(show AskOk ps ⟨a,a2,size,worth⟩ from ⟨he,s0,s1,w0,w1⟩)⟩
  rintro ρ ⟨ch2,w7,w8,w9,rfl,hdr⟩
  refine ⟨ps,rs,as,ch2,rfl,hT,ha,hdr,?_⟩
  refine ⟨ps,rs,as,ch2,rfl,?_⟩
  cases hc:fT ps as ch2 with
  | false=>exact ⟨ps,rs,as,_,_,_,_,_,rfl,hT,ha⟩
  | true =>
   have hok:=oY hdr hc
   refine ⟨ps,rs,as,ch2,rfl,hT,ha,hok,?_⟩
   exact ⟨chP ps ch2,chR rs ch2,chA as ch2,_,_,_,_,_,rfl,iM hT hok,iw ha hok⟩
 ·rintro ρ ⟨ps,rs,as,v5,v6,v7,v8,v9,rfl,hT,ha⟩
  exact q0
end
end K72
namespace K72
open PySem L2
theorem gx {us:List Value} {n:Nat} (h:us.length=n + 1):∃ a r,us=a :: r∧r.length=n:=by
 cases us with
 | nil=>cases h
 | cons a r=>exact ⟨a,r,rfl,Nat.succ.inj h⟩
theorem us1 {fd:FuncData} {ps:List Str} (h:∀ a0,bindArgs fd ⟨[a0],[]⟩=pure (ps.zip [a0])):∀ us:List Value,us.length=1→bindArgs fd ⟨us,[]⟩=pure (ps.zip us):=fun us hl=>by
 obtain ⟨a0,u0,rfl,h0⟩:=gx hl
 cases List.eq_nil_of_length_eq_zero h0
 exact h a0
theorem us2 {fd:FuncData} {ps:List Str} (h:∀ a0 a1,bindArgs fd ⟨[a0,a1],[]⟩=pure (ps.zip [a0,a1])):∀ us:List Value,us.length=2→bindArgs fd ⟨us,[]⟩=pure (ps.zip us):=fun us hl=>by
 obtain ⟨a0,u0,rfl,h0⟩:=gx hl
 obtain ⟨a1,u1,rfl,h1⟩:=gx h0
 cases List.eq_nil_of_length_eq_zero h1
 exact h a0 a1
theorem us3 {fd:FuncData} {ps:List Str} (h:∀ a0 a1 a2,bindArgs fd ⟨[a0,a1,a2],[]⟩=pure (ps.zip [a0,a1,a2])):∀ us:List Value,us.length=3→bindArgs fd ⟨us,[]⟩=pure (ps.zip us):=fun us hl=>by
 obtain ⟨a0,u0,rfl,h0⟩:=gx hl
 obtain ⟨a1,u1,rfl,h1⟩:=gx h0
 obtain ⟨a2,u2,rfl,h2⟩:=gx h1
 cases List.eq_nil_of_length_eq_zero h2
 exact h a0 a1 a2
theorem us4 {fd:FuncData} {ps:List Str} (h:∀ a0 a1 a2 a3,bindArgs fd ⟨[a0,a1,a2,a3],[]⟩=pure (ps.zip [a0,a1,a2,a3])):∀ us:List Value,us.length=4→bindArgs fd ⟨us,[]⟩=pure (ps.zip us):=fun us hl=>by
 obtain ⟨a0,u0,rfl,h0⟩:=gx hl
 obtain ⟨a1,u1,rfl,h1⟩:=gx h0
 obtain ⟨a2,u2,rfl,h2⟩:=gx h1
 obtain ⟨a3,u3,rfl,h3⟩:=gx h2
 cases List.eq_nil_of_length_eq_zero h3
 exact h a0 a1 a2 a3
theorem all_mk {l:PySem.W.OpenLaw} {w:World} {K:PySem.W.Frag} {h:Heap} {mg:Str→Option Value} {fa:Addr} (X:K.In h) (G:h.Ns mainGlobals mg) (hfa:mg "law" = some (.ref fa))
 {f_q29:Addr} {d_q29:FuncData} (h_q29:FH K "is_whole" l8 f_q29 d_q29)
 {f_q17:Addr} {d_q17:FuncData} (h_q17:FH K "is_between" nk f_q17 d_q17)
 {f_q0:Addr} {d_q0:FuncData} (h_q0:FH K "greatest_common" s_q0 f_q0 d_q0)
 {f_q14:Addr} {d_q14:FuncData} (h_q14:FH K "is_fraction" my f_q14 d_q14)
 {f_q5:Addr} {d_q5:FuncData} (h_q5:FH K "has_two_lists" s_q5 f_q5 d_q5)
 {f_q13:Addr} {d_q13:FuncData} (h_q13:FH K "look_at_tree" lZ f_q13 d_q13)
 {f_q27:Addr} {d_q27:FuncData} (h_q27:FH K "is_place" l5 f_q27 d_q27)
 {f_q47:Addr} {d_q47:FuncData} (h_q47:FH K "is_tie" oN f_q47 d_q47)
 {f_q24:Addr} {d_q24:FuncData} (h_q24:FH K "are_ends" mm f_q24 d_q24)
 {f_q46:Addr} {d_q46:FuncData} (h_q46:FH K "is_ask" lN f_q46 d_q46)
 {f_q10:Addr} {d_q10:FuncData} (h_q10:FH K "look_at_asks" nF f_q10 d_q10)
 {f_q26:Addr} {d_q26:FuncData} (h_q26:FH K "fraction" n_ f_q26 d_q26)
 {f_q56:Addr} {d_q56:FuncData} (h_q56:FH K "minus" nT f_q56 d_q56)
 {f_q57:Addr} {d_q57:FuncData} (h_q57:FH K "times" lO f_q57 d_q57)
 {f_q52:Addr} {d_q52:FuncData} (h_q52:FH K "sum_of" l7 f_q52 d_q52)
 {f_q58:Addr} {d_q58:FuncData} (h_q58:FH K "under" oS f_q58 d_q58)
 {f_q11:Addr} {d_q11:FuncData} (h_q11:FH K "look_at_ends" nS f_q11 d_q11)
 {f_q55:Addr} {d_q55:FuncData} (h_q55:FH K "climb" mE f_q55 d_q55)
 {f_q15:Addr} {d_q15:FuncData} (h_q15:FH K "way_between" nD f_q15 d_q15)
 {f_q53:Addr} {d_q53:FuncData} (h_q53:FH K "way_of" nE f_q53 d_q53)
 {f_q12:Addr} {d_q12:FuncData} (h_q12:FH K "look_at_keep" nI f_q12 d_q12)
 {f_q28:Addr} {d_q28:FuncData} (h_q28:FH K "is_price" oK f_q28 d_q28)
 {f_q4:Addr} {d_q4:FuncData} (h_q4:FH K "look_at_prices" s_q4 f_q4 d_q4)
 {f_q34:Addr} {d_q34:FuncData} (h_q34:FH K "spare_of" nG f_q34 d_q34)
 {f_q51:Addr} {d_q51:FuncData} (h_q51:FH K "spares" lV f_q51 d_q51)
 {f_q25:Addr} {d_q25:FuncData} (h_q25:FH K "bound_of" lP f_q25 d_q25)
 {f_q18:Addr} {d_q18:FuncData} (h_q18:FH K "is_change" mT f_q18 d_q18)
 {f_q9:Addr} {d_q9:FuncData} (h_q9:FH K "changed_tree" s_q9 f_q9 d_q9)
 {f_q8:Addr} {d_q8:FuncData} (h_q8:FH K "changed_asks" s_q8 f_q8 d_q8)
 {f_q38:Addr} {d_q38:FuncData} (h_q38:FH K "changed" nR f_q38 d_q38)
 {f_q3:Addr} {d_q3:FuncData} (h_q3:FH K "look_at_change" s_q3 f_q3 d_q3)
 {f_q7:Addr} {d_q7:FuncData} (h_q7:FH K "carried_keep" s_q7 f_q7 d_q7)
 {f_q1:Addr} {d_q1:FuncData} (h_q1:FH K "carried_prices" s_q1 f_q1 d_q1)
 {f_q6:Addr} {d_q6:FuncData} (h_q6:FH K "bound_turned" s_q6 f_q6 d_q6)
 {f_q49:Addr} {d_q49:FuncData} (h_q49:FH K "_law_pool" oy f_q49 d_q49)
 {f_q50:Addr} {d_q50:FuncData} (h_q50:FH K "_law_take" mG f_q50 d_q50)
 {f_q33:Addr} {d_q33:FuncData} (h_q33:FH K "_law_number" nK f_q33 d_q33)
 {f_q19:Addr} {d_q19:FuncData} (h_q19:FH K "_law_parents" oW f_q19 d_q19)
 {f_q40:Addr} {d_q40:FuncData} (h_q40:FH K "_law_rooms" nN f_q40 d_q40)
 {f_q48:Addr} {d_q48:FuncData} (h_q48:FH K "_law_ends" ny f_q48 d_q48)
 {f_q32:Addr} {d_q32:FuncData} (h_q32:FH K "_law_change" oX f_q32 d_q32)
 {f_q31:Addr} {d_q31:FuncData} (h_q31:FH K "_law_can_be" nB f_q31 d_q31)
 {f_q30:Addr} {d_q30:FuncData} (h_q30:FH K "_law_behind" oE f_q30 d_q30)
 {f_q2:Addr} {d_q2:FuncData} (h_q2:FH K "_law_is_no_change" s_q2 f_q2 d_q2)
 {f_q39:Addr} {d_q39:FuncData} (h_q39:FH K "_law_right" mR f_q39 d_q39)
 {f_law:Addr} {d_law:FuncData} (h_law:FH K "law" ng f_law d_law)
 {t_MOST_TIES:Tok} (c_MOST_TIES:PySem.W.nsIn K mainGlobals "MOST_TIES" = some (some (.int 23 t_MOST_TIES)))
 {t_MOST_ROOM:Tok} (c_MOST_ROOM:PySem.W.nsIn K mainGlobals "MOST_ROOM" = some (some (.int 1000000 t_MOST_ROOM)))
 {t_MOST_ASKS:Tok} (c_MOST_ASKS:PySem.W.nsIn K mainGlobals "MOST_ASKS" = some (some (.int 30 t_MOST_ASKS)))
 {t_MOST_SIZE:Tok} (c_MOST_SIZE:PySem.W.nsIn K mainGlobals "MOST_SIZE" = some (some (.int 1000000 t_MOST_SIZE)))
 {t_MOST_WORTH:Tok} (c_MOST_WORTH:PySem.W.nsIn K mainGlobals "MOST_WORTH" = some (some (.int 1000000000000 t_MOST_WORTH)))
 {g_LENGTHS:Addr} {gn_LENGTHS:Nat} {gh_LENGTHS_0 gh_LENGTHS_1 gh_LENGTHS_2 gh_LENGTHS_3 gh_LENGTHS_4:Int} {gt_LENGTHS_0 gu_LENGTHS_0 gt_LENGTHS_1 gu_LENGTHS_1 gt_LENGTHS_2 gu_LENGTHS_2 gt_LENGTHS_3 gu_LENGTHS_3 gt_LENGTHS_4 gu_LENGTHS_4:Tok} (a_LENGTHS:PySem.W.nsIn K mainGlobals "LENGTHS" = some (some (.ref g_LENGTHS))) (l_LENGTHS:K.lookup g_LENGTHS=some ⟨.type "dict",none,.dict #[⟨gh_LENGTHS_0,.str "room" gt_LENGTHS_0,.int 3 gu_LENGTHS_0⟩,⟨gh_LENGTHS_1,.str "ask" gt_LENGTHS_1,.int 3 gu_LENGTHS_1⟩,⟨gh_LENGTHS_2,.str "more" gt_LENGTHS_2,.int 2 gu_LENGTHS_2⟩,⟨gh_LENGTHS_3,.str "less" gt_LENGTHS_3,.int 2 gu_LENGTHS_3⟩,⟨gh_LENGTHS_4,.str "hang" gt_LENGTHS_4,.int 3 gu_LENGTHS_4⟩] gn_LENGTHS,#[]⟩) (n_LENGTHS:(g_LENGTHS == sysModules)=false)
 (z_ValueError:PySem.W.nsIn K mainGlobals "ValueError" = some none)
 (z_bool:PySem.W.nsIn K mainGlobals "bool" = some none)
 (z_enumerate:PySem.W.nsIn K mainGlobals "enumerate" = some none)
 (z_int:PySem.W.nsIn K mainGlobals "int" = some none)
 (z_isinstance:PySem.W.nsIn K mainGlobals "isinstance" = some none)
 (z_len:PySem.W.nsIn K mainGlobals "len" = some none)
 (z_list:PySem.W.nsIn K mainGlobals "list" = some none)
 (z_max:PySem.W.nsIn K mainGlobals "max" = some none)
 (z_min:PySem.W.nsIn K mainGlobals "min" = some none)
 (z_range:PySem.W.nsIn K mainGlobals "range" = some none)
 (z_sorted:PySem.W.nsIn K mainGlobals "sorted" = some none)
 (z_str:PySem.W.nsIn K mainGlobals "str" = some none)
 (z_sum:PySem.W.nsIn K mainGlobals "sum" = some none)
 (z_tuple:PySem.W.nsIn K mainGlobals "tuple" = some none)
 (z_zip:PySem.W.nsIn K mainGlobals "zip" = some none)
 {c_q20 ns_q20:Addr} (l_q20:CF K "AskError" c_q20 bmV ns_q20)
 {c_q41 ns_q41:Addr} (l_q41:CF K "NoAsks" c_q41 ([.ref c_q20]++bmV) ns_q41)
 {c_q21 ns_q21:Addr} (l_q21:CF K "NoChange" c_q21 ([.ref c_q20]++bmV) ns_q21)
 {c_q42 ns_q42:Addr} (l_q42:CF K "NoKeep" c_q42 ([.ref c_q20]++bmV) ns_q42)
 {c_q43 ns_q43:Addr} (l_q43:CF K "NoName" c_q43 ([.ref c_q20]++bmV) ns_q43)
 {c_q22 ns_q22:Addr} (l_q22:CF K "NoNumber" c_q22 ([.ref c_q20]++bmV) ns_q22)
 {c_q35 ns_q35:Addr} (l_q35:CF K "NoPlace" c_q35 ([.ref c_q20]++bmV) ns_q35)
 {c_q16 ns_q16:Addr} (l_q16:CF K "NoPointing" c_q16 ([.ref c_q20]++bmV) ns_q16)
 {c_q23 ns_q23:Addr} (l_q23:CF K "NoPrices" c_q23 ([.ref c_q20]++bmV) ns_q23)
 {c_q54 ns_q54:Addr} (l_q54:CF K "NoRow" c_q54 ([.ref c_q20]++bmV) ns_q54)
 {c_q36 ns_q36:Addr} (l_q36:CF K "NoShare" c_q36 ([.ref c_q20]++bmV) ns_q36)
 {c_q44 ns_q44:Addr} (l_q44:CF K "NoText" c_q44 ([.ref c_q20]++bmV) ns_q44)
 {c_q45 ns_q45:Addr} (l_q45:CF K "NoTree" c_q45 ([.ref c_q20]++bmV) ns_q45)
 {c_q37 ns_q37:Addr} (l_q37:CF K "TooMany" c_q37 ([.ref c_q20]++bmV) ns_q37)
  (n_q20':PySem.W.nsOkIn K ns_q20=true)
  (t_q20:PySem.W.nsIn K ns_q20 "__init__" = some none)
  (n_q41':PySem.W.nsOkIn K ns_q41=true)
 {n_q41:Addr} (t_q41:PySem.W.nsIn K ns_q41 "__init__" = some (some (.ref n_q41)))
  (n_q21':PySem.W.nsOkIn K ns_q21=true)
  (t_q21:PySem.W.nsIn K ns_q21 "__init__" = some none)
  (n_q42':PySem.W.nsOkIn K ns_q42=true)
 {n_q42:Addr} (t_q42:PySem.W.nsIn K ns_q42 "__init__" = some (some (.ref n_q42)))
  (n_q22':PySem.W.nsOkIn K ns_q22=true)
  (t_q22:PySem.W.nsIn K ns_q22 "__init__" = some none)
  (n_q35':PySem.W.nsOkIn K ns_q35=true)
  (t_q35:PySem.W.nsIn K ns_q35 "__init__" = some none)
  (n_q23':PySem.W.nsOkIn K ns_q23=true)
 {n_q23:Addr} (t_q23:PySem.W.nsIn K ns_q23 "__init__" = some (some (.ref n_q23)))
  (n_q45':PySem.W.nsOkIn K ns_q45=true)
 {n_q45:Addr} (t_q45:PySem.W.nsIn K ns_q45 "__init__" = some (some (.ref n_q45)))
  (o_q41:b_ K c_q41=true)
  (sv_q41:PySem.W.subIn K (.ref c_q41) (.type "ValueError")=some true)
  (s_q41_NoChange:SNo K c_q41 c_q21)
  (s_q41_NoKeep:SNo K c_q41 c_q42)
  (s_q41_NoName:SNo K c_q41 c_q43)
  (s_q41_NoNumber:SNo K c_q41 c_q22)
  (s_q41_NoPlace:SNo K c_q41 c_q35)
  (s_q41_NoPointing:SNo K c_q41 c_q16)
  (s_q41_NoPrices:SNo K c_q41 c_q23)
  (s_q41_NoRow:SNo K c_q41 c_q54)
  (s_q41_NoShare:SNo K c_q41 c_q36)
  (s_q41_NoText:SNo K c_q41 c_q44)
  (s_q41_NoTree:SNo K c_q41 c_q45)
  (s_q41_TooMany:SNo K c_q41 c_q37)
  (o_q21:b_ K c_q21=true)
  (sv_q21:PySem.W.subIn K (.ref c_q21) (.type "ValueError")=some true)
  (s_q21_NoAsks:SNo K c_q21 c_q41)
  (s_q21_NoKeep:SNo K c_q21 c_q42)
  (s_q21_NoName:SNo K c_q21 c_q43)
  (s_q21_NoNumber:SNo K c_q21 c_q22)
  (s_q21_NoPlace:SNo K c_q21 c_q35)
  (s_q21_NoPointing:SNo K c_q21 c_q16)
  (s_q21_NoPrices:SNo K c_q21 c_q23)
  (s_q21_NoRow:SNo K c_q21 c_q54)
  (s_q21_NoShare:SNo K c_q21 c_q36)
  (s_q21_NoText:SNo K c_q21 c_q44)
  (s_q21_NoTree:SNo K c_q21 c_q45)
  (s_q21_TooMany:SNo K c_q21 c_q37)
  (o_q42:b_ K c_q42=true)
  (sv_q42:PySem.W.subIn K (.ref c_q42) (.type "ValueError")=some true)
  (s_q42_NoAsks:SNo K c_q42 c_q41)
  (s_q42_NoChange:SNo K c_q42 c_q21)
  (s_q42_NoName:SNo K c_q42 c_q43)
  (s_q42_NoNumber:SNo K c_q42 c_q22)
  (s_q42_NoPlace:SNo K c_q42 c_q35)
  (s_q42_NoPointing:SNo K c_q42 c_q16)
  (s_q42_NoPrices:SNo K c_q42 c_q23)
  (s_q42_NoRow:SNo K c_q42 c_q54)
  (s_q42_NoShare:SNo K c_q42 c_q36)
  (s_q42_NoText:SNo K c_q42 c_q44)
  (s_q42_NoTree:SNo K c_q42 c_q45)
  (s_q42_TooMany:SNo K c_q42 c_q37)
  (o_q22:b_ K c_q22=true)
  (sv_q22:PySem.W.subIn K (.ref c_q22) (.type "ValueError")=some true)
  (s_q22_NoAsks:SNo K c_q22 c_q41)
  (s_q22_NoChange:SNo K c_q22 c_q21)
  (s_q22_NoKeep:SNo K c_q22 c_q42)
  (s_q22_NoName:SNo K c_q22 c_q43)
  (s_q22_NoPlace:SNo K c_q22 c_q35)
  (s_q22_NoPointing:SNo K c_q22 c_q16)
  (s_q22_NoPrices:SNo K c_q22 c_q23)
  (s_q22_NoRow:SNo K c_q22 c_q54)
  (s_q22_NoShare:SNo K c_q22 c_q36)
  (s_q22_NoText:SNo K c_q22 c_q44)
  (s_q22_NoTree:SNo K c_q22 c_q45)
  (s_q22_TooMany:SNo K c_q22 c_q37)
  (o_q35:b_ K c_q35=true)
  (sv_q35:PySem.W.subIn K (.ref c_q35) (.type "ValueError")=some true)
  (s_q35_NoAsks:SNo K c_q35 c_q41)
  (s_q35_NoChange:SNo K c_q35 c_q21)
  (s_q35_NoKeep:SNo K c_q35 c_q42)
  (s_q35_NoName:SNo K c_q35 c_q43)
  (s_q35_NoNumber:SNo K c_q35 c_q22)
  (s_q35_NoPointing:SNo K c_q35 c_q16)
  (s_q35_NoPrices:SNo K c_q35 c_q23)
  (s_q35_NoRow:SNo K c_q35 c_q54)
  (s_q35_NoShare:SNo K c_q35 c_q36)
  (s_q35_NoText:SNo K c_q35 c_q44)
  (s_q35_NoTree:SNo K c_q35 c_q45)
  (s_q35_TooMany:SNo K c_q35 c_q37)
  (o_q23:b_ K c_q23=true)
  (sv_q23:PySem.W.subIn K (.ref c_q23) (.type "ValueError")=some true)
  (s_q23_NoAsks:SNo K c_q23 c_q41)
  (s_q23_NoChange:SNo K c_q23 c_q21)
  (s_q23_NoKeep:SNo K c_q23 c_q42)
  (s_q23_NoName:SNo K c_q23 c_q43)
  (s_q23_NoNumber:SNo K c_q23 c_q22)
  (s_q23_NoPlace:SNo K c_q23 c_q35)
  (s_q23_NoPointing:SNo K c_q23 c_q16)
  (s_q23_NoRow:SNo K c_q23 c_q54)
  (s_q23_NoShare:SNo K c_q23 c_q36)
  (s_q23_NoText:SNo K c_q23 c_q44)
  (s_q23_NoTree:SNo K c_q23 c_q45)
  (s_q23_TooMany:SNo K c_q23 c_q37)
  (o_q45:b_ K c_q45=true)
  (sv_q45:PySem.W.subIn K (.ref c_q45) (.type "ValueError")=some true)
  (s_q45_NoAsks:SNo K c_q45 c_q41)
  (s_q45_NoChange:SNo K c_q45 c_q21)
  (s_q45_NoKeep:SNo K c_q45 c_q42)
  (s_q45_NoName:SNo K c_q45 c_q43)
  (s_q45_NoNumber:SNo K c_q45 c_q22)
  (s_q45_NoPlace:SNo K c_q45 c_q35)
  (s_q45_NoPointing:SNo K c_q45 c_q16)
  (s_q45_NoPrices:SNo K c_q45 c_q23)
  (s_q45_NoRow:SNo K c_q45 c_q54)
  (s_q45_NoShare:SNo K c_q45 c_q36)
  (s_q45_NoText:SNo K c_q45 c_q44)
  (s_q45_TooMany:SNo K c_q45 c_q37)
 {nd_q41:FuncData} (I_q41:Fun K "__init__" "NoAsks.__init__" (bH (top 3) 0) n_q41 nd_q41)
  (fi_q41:PySem.W.typeIn K (.ref n_q41)=some (.type "function"))
  (kc_q41:PySem.W.keepIn K (.ref c_q41)=true)
  (sa_q41:PySem.W.findIn K (.ref c_q41) "__setattr__" = some (some (.builtin "object.__setattr__")))
  (at_q41_number:PySem.W.findIn K (.ref c_q41) "number" = some none)
 {nd_q42:FuncData} (I_q42:Fun K "__init__" "NoKeep.__init__" (bH (top 4) 0) n_q42 nd_q42)
  (fi_q42:PySem.W.typeIn K (.ref n_q42)=some (.type "function"))
  (kc_q42:PySem.W.keepIn K (.ref c_q42)=true)
  (sa_q42:PySem.W.findIn K (.ref c_q42) "__setattr__" = some (some (.builtin "object.__setattr__")))
  (at_q42_number:PySem.W.findIn K (.ref c_q42) "number" = some none)
 {nd_q23:FuncData} (I_q23:Fun K "__init__" "NoPrices.__init__" (bH (top 5) 0) n_q23 nd_q23)
  (fi_q23:PySem.W.typeIn K (.ref n_q23)=some (.type "function"))
  (kc_q23:PySem.W.keepIn K (.ref c_q23)=true)
  (sa_q23:PySem.W.findIn K (.ref c_q23) "__setattr__" = some (some (.builtin "object.__setattr__")))
  (at_q23_number:PySem.W.findIn K (.ref c_q23) "number" = some none)
 {nd_q45:FuncData} (I_q45:Fun K "__init__" "NoTree.__init__" (bH (top 2) 0) n_q45 nd_q45)
  (fi_q45:PySem.W.typeIn K (.ref n_q45)=some (.type "function"))
  (kc_q45:PySem.W.keepIn K (.ref c_q45)=true)
  (sa_q45:PySem.W.findIn K (.ref c_q45) "__setattr__" = some (some (.builtin "object.__setattr__")))
  (at_q45_part:PySem.W.findIn K (.ref c_q45) "part" = some none)
  (at_q45_number:PySem.W.findIn K (.ref c_q45) "number" = some none)
  (rb_q20:BaseIn K c_q20)
   :∃ fd:FuncData,(∀ (s:Shared) (v:Value),BindsTo s fd ⟨[v],[]⟩ [("_law_script",v)])∧∀ base:Heap,K.In base→base.Ns mainGlobals mg→FnOk l.prog w K mg base CX0 14 fa fd ["_law_script"] (kF K):=by
 have e:=hfa.symm.trans (PySem.W.mg_of X G h_law.a)
 cases e
 have bi_q41:=I_q41.binds (ps:=["self","number"]) fun _ _ _ _ _ _=>us2 fun _ _=>rfl
 have bi_q42:=I_q42.binds (ps:=["self","number"]) fun _ _ _ _ _ _=>us2 fun _ _=>rfl
 have bi_q23:=I_q23.binds (ps:=["self","number"]) fun _ _ _ _ _ _=>us2 fun _ _=>rfl
 have bi_q45:=I_q45.binds (ps:=["self","part","number"]) fun _ _ _ _ _ _=>us3 fun _ _ _=>rfl
 have T:Txt K mg ⟨f_q29,_,f_q17,_,f_q0,_,f_q14,_,f_q5,_,f_q13,_,f_q27,_,f_q47,_,f_q24,_,f_q46,_,f_q10,_,f_q26,_,f_q56,_,f_q57,_,f_q52,_,f_q58,_,f_q11,_,f_q55,_,f_q15,_,f_q53,_,f_q12,_,f_q28,_,f_q4,_,f_q34,_,f_q51,_,f_q25,_,f_q18,_,f_q9,_,f_q8,_,f_q38,_,f_q3,_,f_q7,_,f_q1,_,f_q6,_,f_q49,_,f_q50,_,f_q33,_,f_q19,_,f_q40,_,f_q48,_,f_q32,_,f_q31,_,f_q30,_,f_q2,_,f_q39,_,fa,_,g_LENGTHS,c_q20,c_q41,c_q21,c_q42,c_q43,c_q22,c_q35,c_q16,c_q23,c_q54,c_q36,c_q44,c_q45,c_q37,n_q41,n_q42,n_q23,n_q45,_,_,_,_⟩:=⟨h_q29.ft X G fun _ _ _ _ _ _=>us1 fun _=>rfl,h_q17.ft X G fun _ _ _ _ _ _=>us3 fun _ _ _=>rfl,h_q0.ft X G fun _ _ _ _ _ _=>us2 fun _ _=>rfl,h_q14.ft X G fun _ _ _ _ _ _=>us1 fun _=>rfl,h_q5.ft X G fun _ _ _ _ _ _=>us1 fun _=>rfl,h_q13.ft X G fun _ _ _ _ _ _=>us1 fun _=>rfl,h_q27.ft X G fun _ _ _ _ _ _=>us2 fun _ _=>rfl,h_q47.ft X G fun _ _ _ _ _ _=>us2 fun _ _=>rfl,h_q24.ft X G fun _ _ _ _ _ _=>us3 fun _ _ _=>rfl,h_q46.ft X G fun _ _ _ _ _ _=>us2 fun _ _=>rfl,h_q10.ft X G fun _ _ _ _ _ _=>us2 fun _ _=>rfl,h_q26.ft X G fun _ _ _ _ _ _=>us2 fun _ _=>rfl,h_q56.ft X G fun _ _ _ _ _ _=>us2 fun _ _=>rfl,h_q57.ft X G fun _ _ _ _ _ _=>us2 fun _ _=>rfl,h_q52.ft X G fun _ _ _ _ _ _=>us1 fun _=>rfl,h_q58.ft X G fun _ _ _ _ _ _=>us2 fun _ _=>rfl,h_q11.ft X G fun _ _ _ _ _ _=>us3 fun _ _ _=>rfl,h_q55.ft X G fun _ _ _ _ _ _=>us3 fun _ _ _=>rfl,h_q15.ft X G fun _ _ _ _ _ _=>us3 fun _ _ _=>rfl,h_q53.ft X G fun _ _ _ _ _ _=>us2 fun _ _=>rfl,h_q12.ft X G fun _ _ _ _ _ _=>us3 fun _ _ _=>rfl,h_q28.ft X G fun _ _ _ _ _ _=>us1 fun _=>rfl,h_q4.ft X G fun _ _ _ _ _ _=>us2 fun _ _=>rfl,h_q34.ft X G fun _ _ _ _ _ _=>us4 fun _ _ _ _=>rfl,h_q51.ft X G fun _ _ _ _ _ _=>us3 fun _ _ _=>rfl,h_q25.ft X G fun _ _ _ _ _ _=>us3 fun _ _ _=>rfl,h_q18.ft X G fun _ _ _ _ _ _=>us3 fun _ _ _=>rfl,h_q9.ft X G fun _ _ _ _ _ _=>us2 fun _ _=>rfl,h_q8.ft X G fun _ _ _ _ _ _=>us2 fun _ _=>rfl,h_q38.ft X G fun _ _ _ _ _ _=>us3 fun _ _ _=>rfl,h_q3.ft X G fun _ _ _ _ _ _=>us3 fun _ _ _=>rfl,h_q7.ft X G fun _ _ _ _ _ _=>us4 fun _ _ _ _=>rfl,h_q1.ft X G fun _ _ _ _ _ _=>us4 fun _ _ _ _=>rfl,h_q6.ft X G fun _ _ _ _ _ _=>us4 fun _ _ _ _=>rfl,h_q49.ft X G fun _ _ _ _ _ _=>us2 fun _ _=>rfl,h_q50.ft X G fun _ _ _ _ _ _=>us2 fun _ _=>rfl,h_q33.ft X G fun _ _ _ _ _ _=>us2 fun _ _=>rfl,h_q19.ft X G fun _ _ _ _ _ _=>us2 fun _ _=>rfl,h_q40.ft X G fun _ _ _ _ _ _=>us3 fun _ _ _=>rfl,h_q48.ft X G fun _ _ _ _ _ _=>us2 fun _ _=>rfl,h_q32.ft X G fun _ _ _ _ _ _=>us3 fun _ _ _=>rfl,h_q31.ft X G fun _ _ _ _ _ _=>us3 fun _ _ _=>rfl,h_q30.ft X G fun _ _ _ _ _ _=>us3 fun _ _ _=>rfl,h_q2.ft X G fun _ _ _ _ _ _=>us4 fun _ _ _ _=>rfl,h_q39.ft X G fun _ _ _ _ _ _=>us3 fun _ _ _=>rfl,h_law.ft X G fun _ _ _ _ _ _=>us1 fun _=>rfl,PySem.W.mg_none_of X G z_ValueError,PySem.W.mg_none_of X G z_bool,PySem.W.mg_none_of X G z_enumerate,PySem.W.mg_none_of X G z_int,PySem.W.mg_none_of X G z_isinstance,PySem.W.mg_none_of X G z_len,PySem.W.mg_none_of X G z_list,PySem.W.mg_none_of X G z_max,PySem.W.mg_none_of X G z_min,PySem.W.mg_none_of X G z_range,PySem.W.mg_none_of X G z_sorted,PySem.W.mg_none_of X G z_str,PySem.W.mg_none_of X G z_sum,PySem.W.mg_none_of X G z_tuple,PySem.W.mg_none_of X G z_zip,⟨_,PySem.W.mg_of X G c_MOST_TIES⟩,⟨_,PySem.W.mg_of X G c_MOST_ROOM⟩,⟨_,PySem.W.mg_of X G c_MOST_ASKS⟩,⟨_,PySem.W.mg_of X G c_MOST_SIZE⟩,⟨_,PySem.W.mg_of X G c_MOST_WORTH⟩,PySem.W.mg_of X G a_LENGTHS,⟨n_LENGTHS,_,_,_,l_LENGTHS,⟨rfl,rfl,rfl⟩,rfl,.cons rfl ⟨_,rfl⟩ (.cons rfl ⟨_,rfl⟩ (.cons rfl ⟨_,rfl⟩ (.cons rfl ⟨_,rfl⟩ (.cons rfl ⟨_,rfl⟩ (.nil)))))⟩,PySem.W.mg_of X G l_q20.e,PySem.W.mg_of X G l_q41.e,PySem.W.mg_of X G l_q21.e,PySem.W.mg_of X G l_q42.e,PySem.W.mg_of X G l_q43.e,PySem.W.mg_of X G l_q22.e,PySem.W.mg_of X G l_q35.e,PySem.W.mg_of X G l_q16.e,PySem.W.mg_of X G l_q23.e,PySem.W.mg_of X G l_q54.e,PySem.W.mg_of X G l_q36.e,PySem.W.mg_of X G l_q44.e,PySem.W.mg_of X G l_q45.e,PySem.W.mg_of X G l_q37.e,(l_q20.xc n_q20' t_q20 cK),(l_q41.xc n_q41' t_q41 (l_q20.tail n_q20' t_q20 cK)),(l_q21.xc n_q21' t_q21 (l_q20.tail n_q20' t_q20 cK)),(l_q42.xc n_q42' t_q42 (l_q20.tail n_q20' t_q20 cK)),(l_q22.xc n_q22' t_q22 (l_q20.tail n_q20' t_q20 cK)),(l_q35.xc n_q35' t_q35 (l_q20.tail n_q20' t_q20 cK)),(l_q23.xc n_q23' t_q23 (l_q20.tail n_q20' t_q20 cK)),(l_q45.xc n_q45' t_q45 (l_q20.tail n_q20' t_q20 cK)),o_q41,(dt sv_q41),(l_q21.nope s_q41_NoChange),(l_q42.nope s_q41_NoKeep),(l_q43.nope s_q41_NoName),(l_q22.nope s_q41_NoNumber),(l_q35.nope s_q41_NoPlace),(l_q16.nope s_q41_NoPointing),(l_q23.nope s_q41_NoPrices),(l_q54.nope s_q41_NoRow),(l_q36.nope s_q41_NoShare),(l_q44.nope s_q41_NoText),(l_q45.nope s_q41_NoTree),(l_q37.nope s_q41_TooMany),o_q21,(dt sv_q21),(l_q41.nope s_q21_NoAsks),(l_q42.nope s_q21_NoKeep),(l_q43.nope s_q21_NoName),(l_q22.nope s_q21_NoNumber),(l_q35.nope s_q21_NoPlace),(l_q16.nope s_q21_NoPointing),(l_q23.nope s_q21_NoPrices),(l_q54.nope s_q21_NoRow),(l_q36.nope s_q21_NoShare),(l_q44.nope s_q21_NoText),(l_q45.nope s_q21_NoTree),(l_q37.nope s_q21_TooMany),o_q42,(dt sv_q42),(l_q41.nope s_q42_NoAsks),(l_q21.nope s_q42_NoChange),(l_q43.nope s_q42_NoName),(l_q22.nope s_q42_NoNumber),(l_q35.nope s_q42_NoPlace),(l_q16.nope s_q42_NoPointing),(l_q23.nope s_q42_NoPrices),(l_q54.nope s_q42_NoRow),(l_q36.nope s_q42_NoShare),(l_q44.nope s_q42_NoText),(l_q45.nope s_q42_NoTree),(l_q37.nope s_q42_TooMany),o_q22,(dt sv_q22),(l_q41.nope s_q22_NoAsks),(l_q21.nope s_q22_NoChange),(l_q42.nope s_q22_NoKeep),(l_q43.nope s_q22_NoName),(l_q35.nope s_q22_NoPlace),(l_q16.nope s_q22_NoPointing),(l_q23.nope s_q22_NoPrices),(l_q54.nope s_q22_NoRow),(l_q36.nope s_q22_NoShare),(l_q44.nope s_q22_NoText),(l_q45.nope s_q22_NoTree),(l_q37.nope s_q22_TooMany),o_q35,(dt sv_q35),(l_q41.nope s_q35_NoAsks),(l_q21.nope s_q35_NoChange),(l_q42.nope s_q35_NoKeep),(l_q43.nope s_q35_NoName),(l_q22.nope s_q35_NoNumber),(l_q16.nope s_q35_NoPointing),(l_q23.nope s_q35_NoPrices),(l_q54.nope s_q35_NoRow),(l_q36.nope s_q35_NoShare),(l_q44.nope s_q35_NoText),(l_q45.nope s_q35_NoTree),(l_q37.nope s_q35_TooMany),o_q23,(dt sv_q23),(l_q41.nope s_q23_NoAsks),(l_q21.nope s_q23_NoChange),(l_q42.nope s_q23_NoKeep),(l_q43.nope s_q23_NoName),(l_q22.nope s_q23_NoNumber),(l_q35.nope s_q23_NoPlace),(l_q16.nope s_q23_NoPointing),(l_q54.nope s_q23_NoRow),(l_q36.nope s_q23_NoShare),(l_q44.nope s_q23_NoText),(l_q45.nope s_q23_NoTree),(l_q37.nope s_q23_TooMany),o_q45,(dt sv_q45),(l_q41.nope s_q45_NoAsks),(l_q21.nope s_q45_NoChange),(l_q42.nope s_q45_NoKeep),(l_q43.nope s_q45_NoName),(l_q22.nope s_q45_NoNumber),(l_q35.nope s_q45_NoPlace),(l_q16.nope s_q45_NoPointing),(l_q23.nope s_q45_NoPrices),(l_q54.nope s_q45_NoRow),(l_q36.nope s_q45_NoShare),(l_q44.nope s_q45_NoText),(l_q37.nope s_q45_TooMany),I_q41,bi_q41,fi_q41,kc_q41,⟨sa_q41,at_q41_number⟩,I_q42,bi_q42,fi_q42,kc_q42,⟨sa_q42,at_q42_number⟩,I_q23,bi_q23,fi_q23,kc_q23,⟨sa_q23,at_q23_number⟩,I_q45,bi_q45,fi_q45,kc_q45,⟨sa_q45,at_q45_part⟩,⟨sa_q45,at_q45_number⟩,rb_q20⟩
 obtain ⟨_,_,_,_,_,_,_,_,_,rfl,_,_⟩:=h_law.F.ex
 exact ⟨_,fun s v=>.of_eq rfl,fun base _ _=>(rB T).imp fun _ _ _ _ h=>lR h⟩
theorem walk {l:PySem.W.OpenLaw} {q:Program} {loose:List Str} {XP:(Str→Option Value)→Heap→Prop} {YP:World→Heap→Prop} {d:DefRec} {K:Params→PySem.W.Frag} (hn:l.most=some 63) (hdf:d.params.defaults=[])
 (hY:∀ (w:World) (h:Heap),YP w h→(K w.params).In h)
 (F:∀ (w:World) (mg:Str→Option Value) (fa:Addr) (h:Heap),(K w.params).In h→h.Ns mainGlobals mg→mg d.name=some (.ref fa) →
  ∃ fd:FuncData,(∀ (s:Shared) (u:Value),BindsTo s fd ⟨[u],[]⟩ [("_law_script",u)])∧∀ base:Heap,(K w.params).In base→base.Ns mainGlobals mg→FnOk l.prog w (K w.params) mg base CX0 14 fa fd ["_law_script"] (kF (K w.params))) :
 PySem.W.WalkO q loose XP YP l.row.toRowW d [] (fun f vs=>PySem.call f vs) :=
 L2.pQ (n:=63) (k:=14) (x:="_law_script") (CX:=fun _=>CX0) (sp:=fun w=>kF (K w.params)) hn (by decide) hdf ⟨rfl,by decide,by decide,rfl⟩ hY F (fun _ _ a ns hl hO hS=>⟨a,ns,rfl,hO,hS,hl,fun _=>rfl⟩) fun _ _ _ _ _ z=>z
end K72
open PySem PySem.W PyProof.Rows
set_option maxRecDepth 100000 in
theorem PySem.Challenge.cw_treeasks_k72_changes_made_holds : PySem.Challenge.rw_treeasks_k72_changes_made.Holds := by
 w_on; o_law; k_head; (case hw=>w_witness2)
 k_fill
 refine K72.walk (l:=PySem.Challenge.rw_treeasks_k72_changes_made) rfl rfl (fun w h Y=>PySem.W.kIn_of Y) ?F
 case F =>
  intro w mg fa h KX G hmg
  refine' K72.all_mk KX G hmg (L2.aQ ?_ ?_ ?_ ?_) (L2.aQ ?_ ?_ ?_ ?_) (L2.aQ ?_ ?_ ?_ ?_) (L2.aQ ?_ ?_ ?_ ?_) (L2.aQ ?_ ?_ ?_ ?_) (L2.aQ ?_ ?_ ?_ ?_) (L2.aQ ?_ ?_ ?_ ?_) (L2.aQ ?_ ?_ ?_ ?_) (L2.aQ ?_ ?_ ?_ ?_) (L2.aQ ?_ ?_ ?_ ?_) (L2.aQ ?_ ?_ ?_ ?_) (L2.aQ ?_ ?_ ?_ ?_) (L2.aQ ?_ ?_ ?_ ?_) (L2.aQ ?_ ?_ ?_ ?_) (L2.aQ ?_ ?_ ?_ ?_) (L2.aQ ?_ ?_ ?_ ?_) (L2.aQ ?_ ?_ ?_ ?_) (L2.aQ ?_ ?_ ?_ ?_) (L2.aQ ?_ ?_ ?_ ?_) (L2.aQ ?_ ?_ ?_ ?_) (L2.aQ ?_ ?_ ?_ ?_) (L2.aQ ?_ ?_ ?_ ?_) (L2.aQ ?_ ?_ ?_ ?_) (L2.aQ ?_ ?_ ?_ ?_) (L2.aQ ?_ ?_ ?_ ?_) (L2.aQ ?_ ?_ ?_ ?_) (L2.aQ ?_ ?_ ?_ ?_) (L2.aQ ?_ ?_ ?_ ?_) (L2.aQ ?_ ?_ ?_ ?_) (L2.aQ ?_ ?_ ?_ ?_) (L2.aQ ?_ ?_ ?_ ?_) (L2.aQ ?_ ?_ ?_ ?_) (L2.aQ ?_ ?_ ?_ ?_) (L2.aQ ?_ ?_ ?_ ?_) (L2.aQ ?_ ?_ ?_ ?_) (L2.aQ ?_ ?_ ?_ ?_) (L2.aQ ?_ ?_ ?_ ?_) (L2.aQ ?_ ?_ ?_ ?_) (L2.aQ ?_ ?_ ?_ ?_) (L2.aQ ?_ ?_ ?_ ?_) (L2.aQ ?_ ?_ ?_ ?_) (L2.aQ ?_ ?_ ?_ ?_) (L2.aQ ?_ ?_ ?_ ?_) (L2.aQ ?_ ?_ ?_ ?_) (L2.aQ ?_ ?_ ?_ ?_) (L2.aQ ?_ ?_ ?_ ?_) ?_ ?_ ?_ ?_ ?_ ?_ ?_ ?_ ?_ ?_ ?_ ?_ ?_ ?_ ?_ ?_ ?_ ?_ ?_ ?_ ?_ ?_ ?_ (L2.cI ?_ ?_ ?_) (L2.cI ?_ ?_ ?_) (L2.cI ?_ ?_ ?_) (L2.cI ?_ ?_ ?_) (L2.cI ?_ ?_ ?_) (L2.cI ?_ ?_ ?_) (L2.cI ?_ ?_ ?_) (L2.cI ?_ ?_ ?_) (L2.cI ?_ ?_ ?_) (L2.cI ?_ ?_ ?_) (L2.cI ?_ ?_ ?_) (L2.cI ?_ ?_ ?_) (L2.cI ?_ ?_ ?_) (L2.cI ?_ ?_ ?_) (L2.cF ?_ ?_) ?_ (L2.cF ?_ ?_) ?_ (L2.cF ?_ ?_) ?_ (L2.cF ?_ ?_) ?_ (L2.cF ?_ ?_) ?_ (L2.cF ?_ ?_) ?_ (L2.cF ?_ ?_) ?_ (L2.cF ?_ ?_) ?_ (L2.dq ?_ ?_ ?_ ?_ ?_ ?_ ?_) ?_ ⟨?_,?_⟩ ⟨?_,?_⟩ ⟨?_,?_⟩ ⟨?_,?_⟩ ⟨?_,?_⟩ ⟨?_,?_⟩ ⟨?_,?_⟩ ⟨?_,?_⟩ ⟨?_,?_⟩ ⟨?_,?_⟩ ⟨?_,?_⟩ ⟨?_,?_⟩ (L2.dq ?_ ?_ ?_ ?_ ?_ ?_ ?_) ?_ ⟨?_,?_⟩ ⟨?_,?_⟩ ⟨?_,?_⟩ ⟨?_,?_⟩ ⟨?_,?_⟩ ⟨?_,?_⟩ ⟨?_,?_⟩ ⟨?_,?_⟩ ⟨?_,?_⟩ ⟨?_,?_⟩ ⟨?_,?_⟩ ⟨?_,?_⟩ (L2.dq ?_ ?_ ?_ ?_ ?_ ?_ ?_) ?_ ⟨?_,?_⟩ ⟨?_,?_⟩ ⟨?_,?_⟩ ⟨?_,?_⟩ ⟨?_,?_⟩ ⟨?_,?_⟩ ⟨?_,?_⟩ ⟨?_,?_⟩ ⟨?_,?_⟩ ⟨?_,?_⟩ ⟨?_,?_⟩ ⟨?_,?_⟩ (L2.dq ?_ ?_ ?_ ?_ ?_ ?_ ?_) ?_ ⟨?_,?_⟩ ⟨?_,?_⟩ ⟨?_,?_⟩ ⟨?_,?_⟩ ⟨?_,?_⟩ ⟨?_,?_⟩ ⟨?_,?_⟩ ⟨?_,?_⟩ ⟨?_,?_⟩ ⟨?_,?_⟩ ⟨?_,?_⟩ ⟨?_,?_⟩ (L2.dq ?_ ?_ ?_ ?_ ?_ ?_ ?_) ?_ ⟨?_,?_⟩ ⟨?_,?_⟩ ⟨?_,?_⟩ ⟨?_,?_⟩ ⟨?_,?_⟩ ⟨?_,?_⟩ ⟨?_,?_⟩ ⟨?_,?_⟩ ⟨?_,?_⟩ ⟨?_,?_⟩ ⟨?_,?_⟩ ⟨?_,?_⟩ (L2.dq ?_ ?_ ?_ ?_ ?_ ?_ ?_) ?_ ⟨?_,?_⟩ ⟨?_,?_⟩ ⟨?_,?_⟩ ⟨?_,?_⟩ ⟨?_,?_⟩ ⟨?_,?_⟩ ⟨?_,?_⟩ ⟨?_,?_⟩ ⟨?_,?_⟩ ⟨?_,?_⟩ ⟨?_,?_⟩ ⟨?_,?_⟩ (L2.dq ?_ ?_ ?_ ?_ ?_ ?_ ?_) ?_ ⟨?_,?_⟩ ⟨?_,?_⟩ ⟨?_,?_⟩ ⟨?_,?_⟩ ⟨?_,?_⟩ ⟨?_,?_⟩ ⟨?_,?_⟩ ⟨?_,?_⟩ ⟨?_,?_⟩ ⟨?_,?_⟩ ⟨?_,?_⟩ ⟨?_,?_⟩ (L2.f7 ?_ ?_ ?_) ?_ ?_ ?_ ?_ (L2.f7 ?_ ?_ ?_) ?_ ?_ ?_ ?_ (L2.f7 ?_ ?_ ?_) ?_ ?_ ?_ ?_ (L2.f7 ?_ ?_ ?_) ?_ ?_ ?_ ?_ ?_ ⟨?_,?_,?_⟩
  all_goals try k_is
  all_goals first | rfl | (rw [← Array.all_toList]; rfl)
end
