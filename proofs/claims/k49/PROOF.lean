import PyProof.Rows.All
import Wide.All
import OpenK.AllK
import Wide.FinOn
import Lean
import PyProof.EqAt
import PyProof.EqKinds
import PyProof.TupleCall
import PyProof.Rows.ListRangeD
import KE.LcSums
import KE.KRevSl
import PyProof.Rows.SetFrom
import PyProof.Rows.ListMulArg
import PySem.Challenge.RW_treeasks_k49_pointings_refused
set_option Elab.async false
set_option linter.all false
set_option maxRecDepth 100000
set_option genSizeOf false
set_option maxHeartbeats 4000000
set_option exponentiation.threshold 9000
noncomputable section
set_option hygiene false
local macro_rules|`('a')=>`(by omega)|`('b')=>`(model X.prog X.w)|`('c')=>`(Or.inl rfl)|`('d')=>`(x == ("__debug__":Str))|`('e')=>`(({ PySem.Challenge.pw_treeasks_k49_pointings_refused with main:={ PySem.Challenge.pw_treeasks_k49_pointings_refused.main with body:=(PySem.Challenge.pw_treeasks_k49_pointings_refused.main.body.drop 1).take 14++(PySem.Challenge.pw_treeasks_k49_pointings_refused.main.body.drop 16).take 2++(PySem.Challenge.pw_treeasks_k49_pointings_refused.main.body.drop 19).take 7++(PySem.Challenge.pw_treeasks_k49_pointings_refused.main.body.drop 27).take 5++(PySem.Challenge.pw_treeasks_k49_pointings_refused.main.body.drop 33).take 7++(PySem.Challenge.pw_treeasks_k49_pointings_refused.main.body.drop 41).take 5++(PySem.Challenge.pw_treeasks_k49_pointings_refused.main.body.drop 47).take 13++(PySem.Challenge.pw_treeasks_k49_pointings_refused.main.body.drop 61).take 12 } }:PySem.Program))|`('f')=>`(fun _ _=>rfl)|`('g')=>`(L2.aW ?_ ?_ ?_ ?_)|`('h')=>`(Addr×Obj)|`('i')=>`(bv X scope cl (cJ X own js) C s₀ H₀ ex)|`('j')=>`(.ListComp elt [⟨tg,iter,ifs,0⟩] scope pos)|`('k')=>`(by decide)|`('l')=>`(Nat.le_refl _)|`('m')=>`(backTo pos (starEach es X.env))|`('n')=>`((false,eval e X.env))|`('o')=>`(fun C s₀ H₀ ex=>⟨(inner C s₀ H₀ ex).pg,(inner C s₀ H₀ ex).qi.can,(inner C s₀ H₀ ex).qe.can⟩)|`('p')=>`(.lst xs)|`('q')=>`(by decide +kernel)|`('r')=>`(fun _ _ z=>z)|`('s')=>`(model prog w)|`('t')=>`(aJ aA dIx (ad 0) ae 'f')
set_option hygiene true
theorem PySem.W.Fast.te2087008297955757404:True:=trivial
def PySem.W.Fast.tw2087008297955757404:Nat:=0
theorem PySem.W.Fast.te14916793392410516859:True:=trivial
def PySem.W.Fast.tw14916793392410516859:Nat:=0
def PySem.W.Fast.tw17403015545158848491:PySem.Program:=PySem.Challenge.pw_treeasks_k49_pointings_refused
theorem PySem.W.Fast.te17403015545158848491:PySem.Challenge.pw_treeasks_k49_pointings_refused=PySem.W.Fast.tw17403015545158848491:=rfl
def PySem.W.Fast.tw4503128170523146521:List PySem.Stmt:=((PySem.Challenge.pw_treeasks_k49_pointings_refused.main.body.drop 39).take 16)
theorem PySem.W.Fast.te4503128170523146521:((PySem.Challenge.pw_treeasks_k49_pointings_refused.main.body.drop 39).take 16)=PySem.W.Fast.tw4503128170523146521:=rfl
def PySem.W.Fast.tw10570688854023960210:List PySem.Stmt:=((PySem.Challenge.pw_treeasks_k49_pointings_refused.main.body.drop 0).take 2)
theorem PySem.W.Fast.te10570688854023960210:((PySem.Challenge.pw_treeasks_k49_pointings_refused.main.body.drop 0).take 2)=PySem.W.Fast.tw10570688854023960210:=rfl
def PySem.W.Fast.tw16335377948176676566:PySem.Program:='e'
theorem PySem.W.Fast.te16335377948176676566:'e'=PySem.W.Fast.tw16335377948176676566:=rfl
def PySem.W.Fast.tw1477645845178763243:List PySem.Stmt:=((PySem.Challenge.pw_treeasks_k49_pointings_refused.main.body.drop 14).take 9)
theorem PySem.W.Fast.te1477645845178763243:((PySem.Challenge.pw_treeasks_k49_pointings_refused.main.body.drop 14).take 9)=PySem.W.Fast.tw1477645845178763243:=rfl
def PySem.W.Fast.tw8954349835879345935:List PySem.Stmt:=((PySem.Challenge.pw_treeasks_k49_pointings_refused.main.body.drop 13).take 1)
theorem PySem.W.Fast.te8954349835879345935:((PySem.Challenge.pw_treeasks_k49_pointings_refused.main.body.drop 13).take 1)=PySem.W.Fast.tw8954349835879345935:=rfl
def PySem.W.Fast.tw12672304792448474302:List PySem.Stmt:=((PySem.Challenge.pw_treeasks_k49_pointings_refused.main.body.drop 4).take 1)
theorem PySem.W.Fast.te12672304792448474302:((PySem.Challenge.pw_treeasks_k49_pointings_refused.main.body.drop 4).take 1)=PySem.W.Fast.tw12672304792448474302:=rfl
def PySem.W.Fast.tw14245802322864016402:List PySem.Stmt:=((PySem.Challenge.pw_treeasks_k49_pointings_refused.main.body.drop 69).take 4)
theorem PySem.W.Fast.te14245802322864016402:((PySem.Challenge.pw_treeasks_k49_pointings_refused.main.body.drop 69).take 4)=PySem.W.Fast.tw14245802322864016402:=rfl
def PySem.W.Fast.tw15648065368212744764:List PySem.Stmt:=((PySem.Challenge.pw_treeasks_k49_pointings_refused.main.body.drop 9).take 1)
theorem PySem.W.Fast.te15648065368212744764:((PySem.Challenge.pw_treeasks_k49_pointings_refused.main.body.drop 9).take 1)=PySem.W.Fast.tw15648065368212744764:=rfl
def PySem.W.Fast.tw17350743849313143923:List PySem.Stmt:=((PySem.Challenge.pw_treeasks_k49_pointings_refused.main.body.drop 6).take 1)
theorem PySem.W.Fast.te17350743849313143923:((PySem.Challenge.pw_treeasks_k49_pointings_refused.main.body.drop 6).take 1)=PySem.W.Fast.tw17350743849313143923:=rfl
def PySem.W.Fast.tw1180034587591352773:List PySem.Stmt:=((PySem.Challenge.pw_treeasks_k49_pointings_refused.main.body.drop 7).take 1)
theorem PySem.W.Fast.te1180034587591352773:((PySem.Challenge.pw_treeasks_k49_pointings_refused.main.body.drop 7).take 1)=PySem.W.Fast.tw1180034587591352773:=rfl
def PySem.W.Fast.tw15277855486894946185:List PySem.Stmt:=((PySem.Challenge.pw_treeasks_k49_pointings_refused.main.body.drop 12).take 1)
theorem PySem.W.Fast.te15277855486894946185:((PySem.Challenge.pw_treeasks_k49_pointings_refused.main.body.drop 12).take 1)=PySem.W.Fast.tw15277855486894946185:=rfl
def PySem.W.Fast.tw5860512272177482079:List PySem.Stmt:=((PySem.Challenge.pw_treeasks_k49_pointings_refused.main.body.drop 10).take 1)
theorem PySem.W.Fast.te5860512272177482079:((PySem.Challenge.pw_treeasks_k49_pointings_refused.main.body.drop 10).take 1)=PySem.W.Fast.tw5860512272177482079:=rfl
def PySem.W.Fast.tw7805623333587518123:List PySem.Stmt:=((PySem.Challenge.pw_treeasks_k49_pointings_refused.main.body.drop 2).take 1)
theorem PySem.W.Fast.te7805623333587518123:((PySem.Challenge.pw_treeasks_k49_pointings_refused.main.body.drop 2).take 1)=PySem.W.Fast.tw7805623333587518123:=rfl
def PySem.W.Fast.tw9237781211610184507:List PySem.Stmt:=((PySem.Challenge.pw_treeasks_k49_pointings_refused.main.body.drop 5).take 1)
theorem PySem.W.Fast.te9237781211610184507:((PySem.Challenge.pw_treeasks_k49_pointings_refused.main.body.drop 5).take 1)=PySem.W.Fast.tw9237781211610184507:=rfl
def PySem.W.Fast.tw14388762191392992392:List PySem.Stmt:=((PySem.Challenge.pw_treeasks_k49_pointings_refused.main.body.drop 23).take 16)
theorem PySem.W.Fast.te14388762191392992392:((PySem.Challenge.pw_treeasks_k49_pointings_refused.main.body.drop 23).take 16)=PySem.W.Fast.tw14388762191392992392:=rfl
def PySem.W.Fast.tw16162345844396540913:List PySem.Stmt:=((PySem.Challenge.pw_treeasks_k49_pointings_refused.main.body.drop 8).take 1)
theorem PySem.W.Fast.te16162345844396540913:((PySem.Challenge.pw_treeasks_k49_pointings_refused.main.body.drop 8).take 1)=PySem.W.Fast.tw16162345844396540913:=rfl
def PySem.W.Fast.tw7828169294592979031:List PySem.Stmt:=((PySem.Challenge.pw_treeasks_k49_pointings_refused.main.body.drop 3).take 1)
theorem PySem.W.Fast.te7828169294592979031:((PySem.Challenge.pw_treeasks_k49_pointings_refused.main.body.drop 3).take 1)=PySem.W.Fast.tw7828169294592979031:=rfl
def PySem.W.Fast.tw14986938108788218017:List PySem.Stmt:=((PySem.Challenge.pw_treeasks_k49_pointings_refused.main.body.drop 55).take 14)
theorem PySem.W.Fast.te14986938108788218017:((PySem.Challenge.pw_treeasks_k49_pointings_refused.main.body.drop 55).take 14)=PySem.W.Fast.tw14986938108788218017:=rfl
def PySem.W.Fast.tw11724479656440047440:List PySem.Stmt:=((PySem.Challenge.pw_treeasks_k49_pointings_refused.main.body.drop 11).take 1)
theorem PySem.W.Fast.te11724479656440047440:((PySem.Challenge.pw_treeasks_k49_pointings_refused.main.body.drop 11).take 1)=PySem.W.Fast.tw11724479656440047440:=rfl
namespace Ob
noncomputable section
open PySem
open PySem.Str renaming ofString → S
open PySem.Value renaming str → v, ref → r, int → i, none → n
abbrev F := Params → Obj
noncomputable def d (P : Params) (s : Str) (t : Tok) (w : Value) : DictEntry := ⟨PyData.keyHash P s, .str s t, w⟩
noncomputable def g (k : Nat) (q : Str → Str) : FuncData := match PySem.Challenge.pw_treeasks_k49_pointings_refused.main.body[k]? with
  | some (.FunctionDef a b c _ _ _ s _ _ _) => ⟨a,q a,b,.stmts c,s,0,[],n,n,n,n,none,n,n,0⟩
  | some (.ClassDef _ _ _ (.FunctionDef a b c _ _ _ s _ _ _ :: _) _ _ _ _ _ _ _) => ⟨a,q a,b,.stmts c,s,0,[],n,n,n,n,none,n,n,0⟩
  | _ => default
noncomputable def x (k : Nat) : F := fun _ => ⟨n,none,.func (g k id),#[]⟩
noncomputable def X (k : Nat) (q : Str) : F := fun _ => ⟨n,none,.func (g k fun _ => q),#[]⟩
noncomputable def y (k : Nat) (m c : Value) : F := fun _ => ⟨.type "function",none,.func { g k id with globals := 3, pyModule := m, code := c },#[]⟩
noncomputable def Y (k : Nat) (q : Str) (m c : Value) : F := fun _ => ⟨.type "function",none,.func { g k (fun _ => q) with globals := 3, pyModule := m, code := c },#[]⟩
noncomputable def u (l : List Value) : F := fun _ => ⟨.type "tuple",none,.seq l.toArray 0,#[]⟩
noncomputable def z (l : List Value) : F := fun _ => ⟨n,none,.fields l.toArray,#[]⟩
noncomputable def V (s : String) (t : Tok) : Value := v (S s) t
noncomputable def q (s : String) (t1 t2 t3 : Tok) (l a b c e : Int) (r1 : Addr) (m : Int) (r2 r3 r4 r5 : Addr) (t : Int) (t4 : Tok) : F := fun _ => ⟨.type "code",none,.fields #[v (S s) t1,v (S s) t2,v (S "/claim/cut.py") t3,i l 0,i a 0,i b 0,i c 0,i e 0,r r1,.bool true,i m 0,r r2,n,r r3,r r4,r r5,i t 0,i l 0,v (S "/claim/cut.py") t4],#[]⟩
noncomputable def k (l : List Value) : F := fun _ => ⟨.type "code",none,.fields l.toArray,#[]⟩
noncomputable def w (f : F) (a b : Params → W.BT) : Params → W.BT := fun P => .node (f P) (a P) (b P)
noncomputable def e : Params → W.BT := fun _ => .nil
noncomputable def o (f : F) : Params → W.BT := w f e e
noncomputable def ha(p0:String)(p1:Nat)(p2:Int)(p3:Nat)(p4:Int):F:=k [(V p0 p1),(V p0 (p1+1)),(V "/claim/cut.py" (p1+2)),(i p2 0),(i 0 0),(i 0 0),(i 0 0),(i 0 0),(r p3),(.bool .false),(i 181 0),(r (p3+1)),n,n,n,n,(i p4 0),(i p2 0),(V "/claim/cut.py" (p1+4))]
noncomputable def hb(p0:Nat)(p1:Nat)(p2:String)(p3:Nat):F:=fun P=>⟨(.type "frame"),none,.plain,#[(some (r p0)),(some (r 3)),(some (r p1)),none,(some (V p2 p3)),none,(some (r 0))]⟩
noncomputable def hc(p0:Nat):F:=fun P=>⟨(.type "super"),none,(.fields #[(r p0),(r p0),(r p0)]),#[]⟩
noncomputable def hd(p0:Nat):F:=fun P=>⟨(.type "builtin_function_or_method"),none,(.fields #[(.builtin "object.__init_subclass__"),(r p0)]),#[]⟩
noncomputable def he(p0:String)(p1:Nat)(p2:String):F:=u [(V p0 p1),(V p2 (p1+1))]
noncomputable def hf(p0:String)(p1:Nat)(p2:Nat)(p3:Nat)(p4:Nat):F:=fun P=>⟨(.type "type"),none,(.cls ⟨(S p0),[(r 24)],[(r p1),(r 24),(.type "ValueError"),(.type "Exception"),(.type "BaseException"),(.type "object")],p2,(S p0),.true,[],[],.false,none,.false⟩),#[(some (r p3)),none,(some (V p0 p4)),(some (V p0 (p4+8))),(some (.builtin "ValueError.__new__")),(some (.bool .true))]⟩
noncomputable def hg(p0:String)(p1:Nat)(p2:Int)(p3:Int)(p4:Nat)(p5:Int):F:=k [(V p0 p1),(V p0 (p1+1)),(V "/claim/cut.py" (p1+2)),(i p2 0),(i p3 0),(i 0 0),(i 0 0),(i 3 0),(r p4),(.bool .true),(i 181 0),(r (p4+1)),n,n,n,(r (p4+2)),(i p5 0),(i p2 0),(V "/claim/cut.py" (p1+4))]
noncomputable def hh(p0:Nat)(p1:Int)(p2:String)(p3:Nat)(p4:Nat)(p5:String)(p6:Nat)(p7:Nat)(p8:Nat):F:=fun P=>⟨(.type "dict"),none,(.dict #[(d P (S "__module__") p0 (v (S "treeasks.errors") 187)),(d P (S "__firstlineno__") (p0+4) (i p1 (p0+3))),(d P (S p2) p3 (r p4)),(d P (S p5) p6 (r p7)),(d P (S "__doc__") (p6+1) n)] p8),#[]⟩
noncomputable def hi(p0:Int)(p1:Nat):F:=z [(i p0 0),(i 4 0),(r p1)]
noncomputable def hj(p0:Nat)(p1:String)(p2:Nat):F:=Y p0 (S p1) (V "treeasks.errors" 187) (r p2)
noncomputable def hk(p0:Nat)(p1:String)(p2:Int)(p3:Int)(p4:Nat)(p5:Int)(p6:Nat):F:=k [(V "__init__" p0),(V p1 (p0+1)),(V "/claim/cut.py" (p0+2)),(i p2 0),(i p3 0),(i 0 0),(i 0 0),(i 3 0),(r p4),(.bool .true),(i 181 0),(r (p4+1)),n,(r (p4+2)),(r (p4+3)),(r (p4+4)),(i p5 0),(i p2 0),(V "/claim/cut.py" p6)]
noncomputable def hl(p0:Nat)(p1:String)(p2:Int)(p3:Nat)(p4:Nat)(p5:Nat):F:=fun P=>⟨(.type "dict"),none,(.dict #[(d P (S "__module__") p0 (v (S "treeasks.errors") 187)),(d P (S "__qualname__") (p0+2) (v (S p1) (p0+1))),(d P (S "__firstlineno__") (p0+4) (i p2 (p0+3))),(d P (S "__init__") p3 (r p4)),(d P (S "__static_attributes__") p5 (r (p4+1)))] 5),#[]⟩
noncomputable def hm(p0:Nat)(p1:String)(p2:Int)(p3:Nat):F:=fun P=>⟨(.type "dict"),none,(.dict #[(d P (S "__module__") p0 (v (S "treeasks.errors") 187)),(d P (S "__qualname__") (p0+2) (v (S p1) (p0+1))),(d P (S "__firstlineno__") (p0+4) (i p2 (p0+3))),(d P (S "__static_attributes__") (p0+5) (r p3))] 4),#[]⟩
noncomputable def hn(p0:String)(p1:Nat)(p2:String)(p3:String):F:=u [(V p0 p1),(V p2 (p1+1)),(V p3 (p1+2))]
noncomputable def ho(p0:Nat)(p1:Int)(p2:Nat):F:=fun P=>⟨(.type "dict"),none,(.dict #[(d P (S "__module__") p0 (v (S "treeasks.errors") 187)),(d P (S "__firstlineno__") (p0+4) (i p1 (p0+3))),(d P (S "__static_attributes__") (p0+5) (r p2)),(d P (S "__doc__") (p0+6) n)] 2),#[]⟩
noncomputable def hp(p0:String)(p1:Nat)(p2:String)(p3:String)(p4:String):F:=u [(V p0 p1),(V p2 (p1+1)),(V p3 (p1+2)),(V p4 (p1+3))]
noncomputable def zl:List (Nat×Nat×Nat)→List Value
  | []=>[]
  | (a,b,c)::t=>i (Int.ofNat a) 0::i (Int.ofNat b) 0::r c::zl t
def zz:List Value:=zl [(2,0,20),(4,0,33),(10,0,52),(15,0,71),(20,0,90),(25,0,109),(30,0,128),(35,0,147),(40,0,166),(42,0,178),(44,0,190),(46,0,202),(48,0,214),(50,0,226),(53,0,238),(55,0,245),(60,0,252),(67,0,259),(77,0,266),(79,0,273),(81,0,280),(87,0,287),(92,0,294),(100,0,301),(104,0,308),(111,0,315),(115,0,322),(117,0,329),(121,0,336),(124,0,343),(134,0,351),(136,0,356),(139,0,363),(142,0,368),(152,0,375),(154,0,382),(158,0,389),(161,0,394),(174,0,399),(182,0,406),(191,0,413),(198,0,418),(201,0,423),(208,0,430),(214,0,435),(229,0,442),(233,0,449),(239,0,456),(250,0,461),(258,0,468),(263,0,475),(274,0,482),(279,0,487)]
def A196:F:=fun P=>⟨(.type "dict"),none,(.dict #[(d P (S "__name__") 165 (v (S "treeasks.errors") 187)),(d P (S "__doc__") 166 n),(d P (S "__package__") 167 n),(d P (S "__loader__") 168 (.builtin "__main__.__loader__#opaque")),(d P (S "__spec__") 169 n),(d P (S "__annotations__") 170 (r 6)),(d P (S "__builtins__") 171 (r 4)),(d P (S "__file__") 173 (v (S "/claim/cut.py") 172)),(d P (S "__cached__") 174 n),(d P (S "AskError") 206 (r 24)),(d P (S "NoTree") 233 (r 44)),(d P (S "NoAsks") 258 (r 63)),(d P (S "NoKeep") 283 (r 82)),(d P (S "NoPrices") 308 (r 101)),(d P (S "NoShare") 333 (r 120)),(d P (S "NoPointing") 358 (r 139)),(d P (S "NoText") 383 (r 158))] 17),#[]⟩
def a2d:F:=fun P=>⟨(.type "type"),none,(.cls ⟨(S "AskError"),[(.type "ValueError")],[(r 24),(.type "ValueError"),(.type "Exception"),(.type "BaseException"),(.type "object")],23,(S "AskError"),.true,[],[(r 44),(r 63),(r 82),(r 101),(r 120),(r 139),(r 158)],.false,none,.false⟩),#[(some (r 15)),none,(some (V "AskError" 189)),(some (V "AskError" 197)),(some (.builtin "ValueError.__new__")),(some (.bool .true))]⟩
def a2m:F:=z [(i 2 0),(i 0 0),(r 20),(i 4 0),(i 0 0),(r 33),(i 10 0),(i 0 0),(r 52),(i 15 0),(i 0 0),(r 71),(i 20 0),(i 0 0),(r 90),(i 25 0),(i 0 0),(r 109),(i 30 0),(i 0 0),(r 128),(i 35 0),(i 0 0),(r 147)]
def A218:F:=fun P=>⟨(.type "dict"),none,(.dict #[(d P (S "__name__") 165 (v (S "treeasks.errors") 187)),(d P (S "__doc__") 166 n),(d P (S "__package__") 167 n),(d P (S "__loader__") 168 (.builtin "__main__.__loader__#opaque")),(d P (S "__spec__") 169 n),(d P (S "__annotations__") 170 (r 6)),(d P (S "__builtins__") 171 (r 4)),(d P (S "__file__") 173 (v (S "/claim/cut.py") 172)),(d P (S "__cached__") 174 n),(d P (S "AskError") 206 (r 24)),(d P (S "NoTree") 233 (r 44)),(d P (S "NoAsks") 258 (r 63)),(d P (S "NoKeep") 283 (r 82)),(d P (S "NoPrices") 308 (r 101)),(d P (S "NoShare") 333 (r 120)),(d P (S "NoPointing") 358 (r 139)),(d P (S "NoText") 383 (r 158)),(d P (S "NoNumber") 399 (r 170))] 18),#[]⟩
def a4c:F:=fun P=>⟨(.type "type"),none,(.cls ⟨(S "AskError"),[(.type "ValueError")],[(r 24),(.type "ValueError"),(.type "Exception"),(.type "BaseException"),(.type "object")],23,(S "AskError"),.true,[],[(r 44),(r 63),(r 82),(r 101),(r 120),(r 139),(r 158),(r 170)],.false,none,.false⟩),#[(some (r 15)),none,(some (V "AskError" 189)),(some (V "AskError" 197)),(some (.builtin "ValueError.__new__")),(some (.bool .true))]⟩
def a4e:F:=z [(i 2 0),(i 0 0),(r 20),(i 4 0),(i 0 0),(r 33),(i 10 0),(i 0 0),(r 52),(i 15 0),(i 0 0),(r 71),(i 20 0),(i 0 0),(r 90),(i 25 0),(i 0 0),(r 109),(i 30 0),(i 0 0),(r 128),(i 35 0),(i 0 0),(r 147),(i 40 0),(i 0 0),(r 166)]
def A233:F:=fun P=>⟨(.type "dict"),none,(.dict #[(d P (S "__name__") 165 (v (S "treeasks.errors") 187)),(d P (S "__doc__") 166 n),(d P (S "__package__") 167 n),(d P (S "__loader__") 168 (.builtin "__main__.__loader__#opaque")),(d P (S "__spec__") 169 n),(d P (S "__annotations__") 170 (r 6)),(d P (S "__builtins__") 171 (r 4)),(d P (S "__file__") 173 (v (S "/claim/cut.py") 172)),(d P (S "__cached__") 174 n),(d P (S "AskError") 206 (r 24)),(d P (S "NoTree") 233 (r 44)),(d P (S "NoAsks") 258 (r 63)),(d P (S "NoKeep") 283 (r 82)),(d P (S "NoPrices") 308 (r 101)),(d P (S "NoShare") 333 (r 120)),(d P (S "NoPointing") 358 (r 139)),(d P (S "NoText") 383 (r 158)),(d P (S "NoNumber") 399 (r 170)),(d P (S "NoPlace") 415 (r 182))] 19),#[]⟩
def a4r:F:=fun P=>⟨(.type "type"),none,(.cls ⟨(S "AskError"),[(.type "ValueError")],[(r 24),(.type "ValueError"),(.type "Exception"),(.type "BaseException"),(.type "object")],23,(S "AskError"),.true,[],[(r 44),(r 63),(r 82),(r 101),(r 120),(r 139),(r 158),(r 170),(r 182)],.false,none,.false⟩),#[(some (r 15)),none,(some (V "AskError" 189)),(some (V "AskError" 197)),(some (.builtin "ValueError.__new__")),(some (.bool .true))]⟩
def a4t:F:=z [(i 2 0),(i 0 0),(r 20),(i 4 0),(i 0 0),(r 33),(i 10 0),(i 0 0),(r 52),(i 15 0),(i 0 0),(r 71),(i 20 0),(i 0 0),(r 90),(i 25 0),(i 0 0),(r 109),(i 30 0),(i 0 0),(r 128),(i 35 0),(i 0 0),(r 147),(i 40 0),(i 0 0),(r 166),(i 42 0),(i 0 0),(r 178)]
def A248:F:=fun P=>⟨(.type "dict"),none,(.dict #[(d P (S "__name__") 165 (v (S "treeasks.errors") 187)),(d P (S "__doc__") 166 n),(d P (S "__package__") 167 n),(d P (S "__loader__") 168 (.builtin "__main__.__loader__#opaque")),(d P (S "__spec__") 169 n),(d P (S "__annotations__") 170 (r 6)),(d P (S "__builtins__") 171 (r 4)),(d P (S "__file__") 173 (v (S "/claim/cut.py") 172)),(d P (S "__cached__") 174 n),(d P (S "AskError") 206 (r 24)),(d P (S "NoTree") 233 (r 44)),(d P (S "NoAsks") 258 (r 63)),(d P (S "NoKeep") 283 (r 82)),(d P (S "NoPrices") 308 (r 101)),(d P (S "NoShare") 333 (r 120)),(d P (S "NoPointing") 358 (r 139)),(d P (S "NoText") 383 (r 158)),(d P (S "NoNumber") 399 (r 170)),(d P (S "NoPlace") 415 (r 182)),(d P (S "NoChange") 431 (r 194))] 20),#[]⟩
def a55:F:=fun P=>⟨(.type "type"),none,(.cls ⟨(S "AskError"),[(.type "ValueError")],[(r 24),(.type "ValueError"),(.type "Exception"),(.type "BaseException"),(.type "object")],23,(S "AskError"),.true,[],[(r 44),(r 63),(r 82),(r 101),(r 120),(r 139),(r 158),(r 170),(r 182),(r 194)],.false,none,.false⟩),#[(some (r 15)),none,(some (V "AskError" 189)),(some (V "AskError" 197)),(some (.builtin "ValueError.__new__")),(some (.bool .true))]⟩
def a56:F:=z [(i 2 0),(i 0 0),(r 20),(i 4 0),(i 0 0),(r 33),(i 10 0),(i 0 0),(r 52),(i 15 0),(i 0 0),(r 71),(i 20 0),(i 0 0),(r 90),(i 25 0),(i 0 0),(r 109),(i 30 0),(i 0 0),(r 128),(i 35 0),(i 0 0),(r 147),(i 40 0),(i 0 0),(r 166),(i 42 0),(i 0 0),(r 178),(i 44 0),(i 0 0),(r 190)]
def A263:F:=fun P=>⟨(.type "dict"),none,(.dict #[(d P (S "__name__") 165 (v (S "treeasks.errors") 187)),(d P (S "__doc__") 166 n),(d P (S "__package__") 167 n),(d P (S "__loader__") 168 (.builtin "__main__.__loader__#opaque")),(d P (S "__spec__") 169 n),(d P (S "__annotations__") 170 (r 6)),(d P (S "__builtins__") 171 (r 4)),(d P (S "__file__") 173 (v (S "/claim/cut.py") 172)),(d P (S "__cached__") 174 n),(d P (S "AskError") 206 (r 24)),(d P (S "NoTree") 233 (r 44)),(d P (S "NoAsks") 258 (r 63)),(d P (S "NoKeep") 283 (r 82)),(d P (S "NoPrices") 308 (r 101)),(d P (S "NoShare") 333 (r 120)),(d P (S "NoPointing") 358 (r 139)),(d P (S "NoText") 383 (r 158)),(d P (S "NoNumber") 399 (r 170)),(d P (S "NoPlace") 415 (r 182)),(d P (S "NoChange") 431 (r 194)),(d P (S "TooMany") 447 (r 206))] 21),#[]⟩
def a5j:F:=fun P=>⟨(.type "type"),none,(.cls ⟨(S "AskError"),[(.type "ValueError")],[(r 24),(.type "ValueError"),(.type "Exception"),(.type "BaseException"),(.type "object")],23,(S "AskError"),.true,[],[(r 44),(r 63),(r 82),(r 101),(r 120),(r 139),(r 158),(r 170),(r 182),(r 194),(r 206)],.false,none,.false⟩),#[(some (r 15)),none,(some (V "AskError" 189)),(some (V "AskError" 197)),(some (.builtin "ValueError.__new__")),(some (.bool .true))]⟩
def a5l:F:=z (zz.take 36)
def A278:F:=fun P=>⟨(.type "dict"),none,(.dict #[(d P (S "__name__") 165 (v (S "treeasks.errors") 187)),(d P (S "__doc__") 166 n),(d P (S "__package__") 167 n),(d P (S "__loader__") 168 (.builtin "__main__.__loader__#opaque")),(d P (S "__spec__") 169 n),(d P (S "__annotations__") 170 (r 6)),(d P (S "__builtins__") 171 (r 4)),(d P (S "__file__") 173 (v (S "/claim/cut.py") 172)),(d P (S "__cached__") 174 n),(d P (S "AskError") 206 (r 24)),(d P (S "NoTree") 233 (r 44)),(d P (S "NoAsks") 258 (r 63)),(d P (S "NoKeep") 283 (r 82)),(d P (S "NoPrices") 308 (r 101)),(d P (S "NoShare") 333 (r 120)),(d P (S "NoPointing") 358 (r 139)),(d P (S "NoText") 383 (r 158)),(d P (S "NoNumber") 399 (r 170)),(d P (S "NoPlace") 415 (r 182)),(d P (S "NoChange") 431 (r 194)),(d P (S "TooMany") 447 (r 206)),(d P (S "NoRow") 463 (r 218))] 22),#[]⟩
def a5w:F:=fun P=>⟨(.type "type"),none,(.cls ⟨(S "AskError"),[(.type "ValueError")],[(r 24),(.type "ValueError"),(.type "Exception"),(.type "BaseException"),(.type "object")],23,(S "AskError"),.true,[],[(r 44),(r 63),(r 82),(r 101),(r 120),(r 139),(r 158),(r 170),(r 182),(r 194),(r 206),(r 218)],.false,none,.false⟩),#[(some (r 15)),none,(some (V "AskError" 189)),(some (V "AskError" 197)),(some (.builtin "ValueError.__new__")),(some (.bool .true))]⟩
def a5y:F:=z (zz.take 39)
def A293:F:=fun P=>⟨(.type "dict"),none,(.dict #[(d P (S "__name__") 165 (v (S "treeasks.trees") 498)),(d P (S "__doc__") 166 n),(d P (S "__package__") 167 n),(d P (S "__loader__") 168 (.builtin "__main__.__loader__#opaque")),(d P (S "__spec__") 169 n),(d P (S "__annotations__") 170 (r 6)),(d P (S "__builtins__") 171 (r 4)),(d P (S "__file__") 173 (v (S "/claim/cut.py") 172)),(d P (S "__cached__") 174 n),(d P (S "AskError") 206 (r 24)),(d P (S "NoTree") 233 (r 44)),(d P (S "NoAsks") 258 (r 63)),(d P (S "NoKeep") 283 (r 82)),(d P (S "NoPrices") 308 (r 101)),(d P (S "NoShare") 333 (r 120)),(d P (S "NoPointing") 358 (r 139)),(d P (S "NoText") 383 (r 158)),(d P (S "NoNumber") 399 (r 170)),(d P (S "NoPlace") 415 (r 182)),(d P (S "NoChange") 431 (r 194)),(d P (S "TooMany") 447 (r 206)),(d P (S "NoRow") 463 (r 218)),(d P (S "NoName") 479 (r 230)),(d P (S "is_whole") 488 (r 239)),(d P (S "is_between") 497 (r 246)),(d P (S "MOST_TIES") 501 (i 23 500)),(d P (S "MOST_ROOM") 503 (i 1000000 502)),(d P (S "has_two_lists") 512 (r 253)),(d P (S "look_at_tree") 524 (r 260))] 29),#[]⟩
def a6r:F:=fun P=>⟨(.type "type"),none,(.cls ⟨(S "AskError"),[(.type "ValueError")],[(r 24),(.type "ValueError"),(.type "Exception"),(.type "BaseException"),(.type "object")],23,(S "AskError"),.true,[],[(r 44),(r 63),(r 82),(r 101),(r 120),(r 139),(r 158),(r 170),(r 182),(r 194),(r 206),(r 218),(r 230)],.false,none,.false⟩),#[(some (r 15)),none,(some (V "AskError" 189)),(some (V "AskError" 197)),(some (.builtin "ValueError.__new__")),(some (.bool .true))]⟩
def a6u:F:=z (zz.take 54)
def A336:F:=fun P=>⟨(.type "dict"),none,(.dict #[(d P (S "__name__") 165 (v (S "treeasks.ways") 580)),(d P (S "__doc__") 166 n),(d P (S "__package__") 167 n),(d P (S "__loader__") 168 (.builtin "__main__.__loader__#opaque")),(d P (S "__spec__") 169 n),(d P (S "__annotations__") 170 (r 6)),(d P (S "__builtins__") 171 (r 4)),(d P (S "__file__") 173 (v (S "/claim/cut.py") 172)),(d P (S "__cached__") 174 n),(d P (S "AskError") 206 (r 24)),(d P (S "NoTree") 233 (r 44)),(d P (S "NoAsks") 258 (r 63)),(d P (S "NoKeep") 283 (r 82)),(d P (S "NoPrices") 308 (r 101)),(d P (S "NoShare") 333 (r 120)),(d P (S "NoPointing") 358 (r 139)),(d P (S "NoText") 383 (r 158)),(d P (S "NoNumber") 399 (r 170)),(d P (S "NoPlace") 415 (r 182)),(d P (S "NoChange") 431 (r 194)),(d P (S "TooMany") 447 (r 206)),(d P (S "NoRow") 463 (r 218)),(d P (S "NoName") 479 (r 230)),(d P (S "is_whole") 488 (r 239)),(d P (S "is_between") 497 (r 246)),(d P (S "MOST_TIES") 501 (i 23 500)),(d P (S "MOST_ROOM") 503 (i 1000000 502)),(d P (S "has_two_lists") 512 (r 253)),(d P (S "look_at_tree") 524 (r 260)),(d P (S "is_place") 532 (r 267)),(d P (S "is_tie") 540 (r 274)),(d P (S "are_ends") 549 (r 281)),(d P (S "MOST_ASKS") 553 (i 30 552)),(d P (S "MOST_SIZE") 555 (i 1000000 554)),(d P (S "MOST_WORTH") 557 (i 1000000000000 556)),(d P (S "is_ask") 569 (r 288)),(d P (S "look_at_asks") 579 (r 295)),(d P (S "look_at_ends") 590 (r 302)),(d P (S "climb") 601 (r 309)),(d P (S "way_between") 612 (r 316)),(d P (S "way_of") 620 (r 323)),(d P (S "meeting_of") 631 (r 330)),(d P (S "climbed_between") 641 (r 337))] 43),#[]⟩
def a8n:F:=z (zz.take 87)
def A415:F:=fun P=>⟨(.type "dict"),none,(.dict #[(d P (S "__name__") 165 (v (S "treeasks.rings") 686)),(d P (S "__doc__") 166 n),(d P (S "__package__") 167 n),(d P (S "__loader__") 168 (.builtin "__main__.__loader__#opaque")),(d P (S "__spec__") 169 n),(d P (S "__annotations__") 170 (r 6)),(d P (S "__builtins__") 171 (r 4)),(d P (S "__file__") 173 (v (S "/claim/cut.py") 172)),(d P (S "__cached__") 174 n),(d P (S "AskError") 206 (r 24)),(d P (S "NoTree") 233 (r 44)),(d P (S "NoAsks") 258 (r 63)),(d P (S "NoKeep") 283 (r 82)),(d P (S "NoPrices") 308 (r 101)),(d P (S "NoShare") 333 (r 120)),(d P (S "NoPointing") 358 (r 139)),(d P (S "NoText") 383 (r 158)),(d P (S "NoNumber") 399 (r 170)),(d P (S "NoPlace") 415 (r 182)),(d P (S "NoChange") 431 (r 194)),(d P (S "TooMany") 447 (r 206)),(d P (S "NoRow") 463 (r 218)),(d P (S "NoName") 479 (r 230)),(d P (S "is_whole") 488 (r 239)),(d P (S "is_between") 497 (r 246)),(d P (S "MOST_TIES") 501 (i 23 500)),(d P (S "MOST_ROOM") 503 (i 1000000 502)),(d P (S "has_two_lists") 512 (r 253)),(d P (S "look_at_tree") 524 (r 260)),(d P (S "is_place") 532 (r 267)),(d P (S "is_tie") 540 (r 274)),(d P (S "are_ends") 549 (r 281)),(d P (S "MOST_ASKS") 553 (i 30 552)),(d P (S "MOST_SIZE") 555 (i 1000000 554)),(d P (S "MOST_WORTH") 557 (i 1000000000000 556)),(d P (S "is_ask") 569 (r 288)),(d P (S "look_at_asks") 579 (r 295)),(d P (S "look_at_ends") 590 (r 302)),(d P (S "climb") 601 (r 309)),(d P (S "way_between") 612 (r 316)),(d P (S "way_of") 620 (r 323)),(d P (S "meeting_of") 631 (r 330)),(d P (S "climbed_between") 641 (r 337)),(d P (S "is_beneath") 651 (r 344)),(d P (S "TEXTS") 656 (r 345)),(d P (S "is_text") 663 (r 352)),(d P (S "along") 669 (r 357)),(d P (S "runs_one_way") 679 (r 364)),(d P (S "is_pointing") 685 (r 369)),(d P (S "LEAST_RING") 689 (i 3 688)),(d P (S "MOST_RING") 691 (i 61 690)),(d P (S "are_apart") 700 (r 376)),(d P (S "is_link") 709 (r 383)),(d P (S "are_joined") 721 (r 390)),(d P (S "is_ring") 727 (r 395)),(d P (S "links_of") 733 (r 400)),(d P (S "reach_from") 746 (r 407))] 57),#[]⟩
def aan:F:=z (zz.take 120)
def A487:F:=fun P=>⟨(.type "dict"),none,(.dict #[(d P (S "__name__") 165 (v (S "law_treeasks_k49_pointings_refused") 789)),(d P (S "__doc__") 166 n),(d P (S "__package__") 167 n),(d P (S "__loader__") 168 (.builtin "__main__.__loader__#opaque")),(d P (S "__spec__") 169 n),(d P (S "__annotations__") 170 (r 6)),(d P (S "__builtins__") 171 (r 4)),(d P (S "__file__") 173 (v (S "/claim/cut.py") 172)),(d P (S "__cached__") 174 n),(d P (S "AskError") 206 (r 24)),(d P (S "NoTree") 233 (r 44)),(d P (S "NoAsks") 258 (r 63)),(d P (S "NoKeep") 283 (r 82)),(d P (S "NoPrices") 308 (r 101)),(d P (S "NoShare") 333 (r 120)),(d P (S "NoPointing") 358 (r 139)),(d P (S "NoText") 383 (r 158)),(d P (S "NoNumber") 399 (r 170)),(d P (S "NoPlace") 415 (r 182)),(d P (S "NoChange") 431 (r 194)),(d P (S "TooMany") 447 (r 206)),(d P (S "NoRow") 463 (r 218)),(d P (S "NoName") 479 (r 230)),(d P (S "is_whole") 488 (r 239)),(d P (S "is_between") 497 (r 246)),(d P (S "MOST_TIES") 501 (i 23 500)),(d P (S "MOST_ROOM") 503 (i 1000000 502)),(d P (S "has_two_lists") 512 (r 253)),(d P (S "look_at_tree") 524 (r 260)),(d P (S "is_place") 532 (r 267)),(d P (S "is_tie") 540 (r 274)),(d P (S "are_ends") 549 (r 281)),(d P (S "MOST_ASKS") 553 (i 30 552)),(d P (S "MOST_SIZE") 555 (i 1000000 554)),(d P (S "MOST_WORTH") 557 (i 1000000000000 556)),(d P (S "is_ask") 569 (r 288)),(d P (S "look_at_asks") 579 (r 295)),(d P (S "look_at_ends") 590 (r 302)),(d P (S "climb") 601 (r 309)),(d P (S "way_between") 612 (r 316)),(d P (S "way_of") 620 (r 323)),(d P (S "meeting_of") 631 (r 330)),(d P (S "climbed_between") 641 (r 337)),(d P (S "is_beneath") 651 (r 344)),(d P (S "TEXTS") 656 (r 345)),(d P (S "is_text") 663 (r 352)),(d P (S "along") 669 (r 357)),(d P (S "runs_one_way") 679 (r 364)),(d P (S "is_pointing") 685 (r 369)),(d P (S "LEAST_RING") 689 (i 3 688)),(d P (S "MOST_RING") 691 (i 61 690)),(d P (S "are_apart") 700 (r 376)),(d P (S "is_link") 709 (r 383)),(d P (S "are_joined") 721 (r 390)),(d P (S "is_ring") 727 (r 395)),(d P (S "links_of") 733 (r 400)),(d P (S "reach_from") 746 (r 407)),(d P (S "path_back") 757 (r 414)),(d P (S "text_of") 763 (r 419)),(d P (S "ring_through") 769 (r 424)),(d P (S "first_clash") 782 (r 431)),(d P (S "pointed") 788 (r 436)),(d P (S "_law_cell") 798 (r 443)),(d P (S "_law_source") 808 (r 450)),(d P (S "_law_draw") 818 (r 457)),(d P (S "_law_tree") 824 (r 462)),(d P (S "_law_ask") 837 (r 469)),(d P (S "_law_kind") 845 (r 476)),(d P (S "_law_bad_tree") 853 (r 483)),(d P (S "_law_bad_asks") 859 (r 488))] 70),#[]⟩
def acu:F:=z (zz.take 159)
lay_quick Ob.A196
noncomputable def od : List F → List F
  | a::_::l=>a::od l
  | l=>l
noncomputable def ev : List F → List F
  | _::b::l=>b::ev l
  | _=>[]
noncomputable def bt : Nat → List F → Params → W.BT
  | k+1,f::l=>w f (bt k (od l)) (bt k (ev l))
  | _,_=>e
open W in
def lL (Q P0 P1:F):List F:=[boot_o_0,boot_o_1,boot_o_2,Q,boot_o_4,boot_o_5,boot_o_6,boot_o_7,boot_o_8,boot_o_9,boot_o_10,u [],P0,ha "<module>" 182 1 11 185,hb 13 3 "__main__" 164,u [(.type "ValueError")],(fun P=>⟨(.type "builtin_function_or_method"),none,(.fields #[(.builtin "type.__prepare__"),(.type "type")]),#[]⟩),hm 196 "AskError" 2 22,u [],z [],ha "AskError" 191 2 18 194,hb 20 17 "treeasks.errors" 187,u [],hh 196 2 "__static_attributes__" 201 22 "__weakref__" 203 25 3,P1,(fun P=>⟨(.type "getset_descriptor"),none,(.fields #[(V "__weakref__" 202),(r 24),(.builtin "ExceptionGroup.__weakref__"),n]),#[]⟩),hc 24,hd 24,u [(r 24)],(fun P=>⟨(.type "builtin_function_or_method"),none,(.fields #[(.builtin "type.__prepare__"),(.type "type")]),#[]⟩),hl 214 "NoTree" 4 227 41 230,u [],hi 6 40,ha "NoTree" 209 4 31 212,hb 33 30 "treeasks.errors" 187,u [],z [],hn "self" 222 "part" "number",u [],X 2 (S "NoTree.__init__"),hk 219 "NoTree.__init__" 6 3 35 225 226,hj 2 "NoTree.__init__" 40,he "number" 228 "part",hh 214 4 "__init__" 227 41 "__static_attributes__" 230 42 2,hf "NoTree" 44 43 28 207,hc 44,hd 44,u [(r 24)],(fun P=>⟨(.type "builtin_function_or_method"),none,(.fields #[(.builtin "type.__prepare__"),(.type "type")]),#[]⟩),hl 241 "NoAsks" 10 253 60 255,u [],hi 12 59,ha "NoAsks" 236 10 50 239,hb 52 49 "treeasks.errors" 187,u [],z [],he "self" 249 "number",u [],X 3 (S "NoAsks.__init__"),hk 246 "NoAsks.__init__" 12 2 54 251 252,hj 3 "NoAsks.__init__" 59,u [(V "number" 254)],hh 241 10 "__init__" 253 60 "__static_attributes__" 255 61 2,hf "NoAsks" 63 62 47 234,hc 63,hd 63,u [(r 24)],(fun P=>⟨(.type "builtin_function_or_method"),none,(.fields #[(.builtin "type.__prepare__"),(.type "type")]),#[]⟩),hl 266 "NoKeep" 15 278 79 280,u [],hi 17 78,ha "NoKeep" 261 15 69 264,hb 71 68 "treeasks.errors" 187,u [],z [],he "self" 274 "number",u [],X 4 (S "NoKeep.__init__"),hk 271 "NoKeep.__init__" 17 2 73 276 277,hj 4 "NoKeep.__init__" 78,u [(V "number" 279)],hh 266 15 "__init__" 278 79 "__static_attributes__" 280 80 2,hf "NoKeep" 82 81 66 259,hc 82,hd 82,u [(r 24)],(fun P=>⟨(.type "builtin_function_or_method"),none,(.fields #[(.builtin "type.__prepare__"),(.type "type")]),#[]⟩),hl 291 "NoPrices" 20 303 98 305,u [],hi 22 97,ha "NoPrices" 286 20 88 289,hb 90 87 "treeasks.errors" 187,u [],z [],he "self" 299 "number",u [],X 5 (S "NoPrices.__init__"),hk 296 "NoPrices.__init__" 22 2 92 301 302,hj 5 "NoPrices.__init__" 97,u [(V "number" 304)],hh 291 20 "__init__" 303 98 "__static_attributes__" 305 99 2,hf "NoPrices" 101 100 85 284,hc 101,hd 101,u [(r 24)],(fun P=>⟨(.type "builtin_function_or_method"),none,(.fields #[(.builtin "type.__prepare__"),(.type "type")]),#[]⟩),hl 316 "NoShare" 25 328 117 330,u [],hi 27 116,ha "NoShare" 311 25 107 314,hb 109 106 "treeasks.errors" 187,u [],z [],he "self" 324 "number",u [],X 6 (S "NoShare.__init__"),hk 321 "NoShare.__init__" 27 2 111 326 327,hj 6 "NoShare.__init__" 116,u [(V "number" 329)],hh 316 25 "__init__" 328 117 "__static_attributes__" 330 118 2,hf "NoShare" 120 119 104 309,hc 120,hd 120,u [(r 24)],(fun P=>⟨(.type "builtin_function_or_method"),none,(.fields #[(.builtin "type.__prepare__"),(.type "type")]),#[]⟩),hl 341 "NoPointing" 30 353 136 355,u [],hi 32 135,ha "NoPointing" 336 30 126 339,hb 128 125 "treeasks.errors" 187,u [],z [],he "self" 349 "ring",u [],X 7 (S "NoPointing.__init__"),hk 346 "NoPointing.__init__" 32 2 130 351 352,hj 7 "NoPointing.__init__" 135,u [(V "ring" 354)],hh 341 30 "__init__" 353 136 "__static_attributes__" 355 137 2,hf "NoPointing" 139 138 123 334,hc 139,hd 139,u [(r 24)],(fun P=>⟨(.type "builtin_function_or_method"),none,(.fields #[(.builtin "type.__prepare__"),(.type "type")]),#[]⟩),hl 366 "NoText" 35 378 155 380,u [],hi 37 154,ha "NoText" 361 35 145 364,hb 147 144 "treeasks.errors" 187,u [],z [],he "self" 374 "row",u [],X 8 (S "NoText.__init__"),hk 371 "NoText.__init__" 37 2 149 376 377,hj 8 "NoText.__init__" 154,u [(V "row" 379)],hh 366 35 "__init__" 378 155 "__static_attributes__" 380 156 2,hf "NoText" 158 157 142 359,hc 158,hd 158,u [(r 24)],(fun P=>⟨(.type "builtin_function_or_method"),none,(.fields #[(.builtin "type.__prepare__"),(.type "type")]),#[]⟩),hm 391 "NoNumber" 40 168,u [],z [],ha "NoNumber" 386 40 164 389,hb 166 163 "treeasks.errors" 187,u [],ho 391 40 168,hf "NoNumber" 170 169 161 384,hc 170,hd 170,u [(r 24)],(fun P=>⟨(.type "builtin_function_or_method"),none,(.fields #[(.builtin "type.__prepare__"),(.type "type")]),#[]⟩),hm 407 "NoPlace" 42 180,u [],z [],ha "NoPlace" 402 42 176 405,hb 178 175 "treeasks.errors" 187,u [],ho 407 42 180,hf "NoPlace" 182 181 173 400,hc 182,hd 182,u [(r 24)],(fun P=>⟨(.type "builtin_function_or_method"),none,(.fields #[(.builtin "type.__prepare__"),(.type "type")]),#[]⟩),hm 423 "NoChange" 44 192,u [],z [],ha "NoChange" 418 44 188 421,hb 190 187 "treeasks.errors" 187,u [],ho 423 44 192,hf "NoChange" 194 193 185 416,hc 194,hd 194,u [(r 24)],(fun P=>⟨(.type "builtin_function_or_method"),none,(.fields #[(.builtin "type.__prepare__"),(.type "type")]),#[]⟩),hm 439 "TooMany" 46 204,u [],z [],ha "TooMany" 434 46 200 437,hb 202 199 "treeasks.errors" 187,u [],ho 439 46 204,hf "TooMany" 206 205 197 432,hc 206,hd 206,u [(r 24)],(fun P=>⟨(.type "builtin_function_or_method"),none,(.fields #[(.builtin "type.__prepare__"),(.type "type")]),#[]⟩),hm 455 "NoRow" 48 216,u [],z [],ha "NoRow" 450 48 212 453,hb 214 211 "treeasks.errors" 187,u [],ho 455 48 216,hf "NoRow" 218 217 209 448,hc 218,hd 218,u [(r 24)],(fun P=>⟨(.type "builtin_function_or_method"),none,(.fields #[(.builtin "type.__prepare__"),(.type "type")]),#[]⟩),hm 471 "NoName" 50 228,u [],z [],ha "NoName" 466 50 224 469,hb 226 223 "treeasks.errors" 187,u [],ho 471 50 228,hf "NoName" 230 229 221 464,hc 230,hd 230,u [],z [],u [(V "thing" 485)],u [],x 16,q "is_whole" 482 483 484 53 1 0 0 3 233 181 234 235 236 237 486 487,y 16 (V "treeasks.numbers" 480) (r 238),u [],z [],hn "thing" 492 "least" "most",u [],x 17,q "is_between" 489 490 491 55 3 0 0 3 240 181 241 242 243 244 495 496,y 17 (V "treeasks.numbers" 480) (r 245),u [],z [],hn "thing" 507 "parents" "rooms",u [],x 21,q "has_two_lists" 504 505 506 60 1 0 0 3 247 181 248 249 250 251 510 511,y 21 (V "treeasks.trees" 498) (r 252),u [],z [],u [(V "thing" 516),(V "parents" 517),(V "rooms" 518),(V "number" 519),(V "parent" 520),(V "room" 521)],u [],x 22,q "look_at_tree" 513 514 515 67 1 0 0 3 254 181 255 256 257 258 522 523,y 22 (V "treeasks.trees" 498) (r 259),u [],z [],he "tree" 528 "thing",u [],x 23,q "is_place" 525 526 527 77 2 0 0 3 261 181 262 263 264 265 530 531,y 23 (V "treeasks.trees" 498) (r 266),u [],z [],he "tree" 536 "thing",u [],x 24,q "is_tie" 533 534 535 79 2 0 0 3 268 181 269 270 271 272 538 539,y 24 (V "treeasks.trees" 498) (r 273),u [],z [],hn "tree" 544 "one" "other",u [],x 25,q "are_ends" 541 542 543 81 3 0 0 3 275 181 276 277 278 279 547 548,y 25 (V "treeasks.trees" 498) (r 280),u [],z [],u [(V "tree" 561),(V "thing" 562),(V "one" 563),(V "other" 564),(V "size" 565),(V "worth" 566)],u [],x 30,q "is_ask" 558 559 560 87 2 0 0 3 282 181 283 284 285 286 567 568,y 30 (V "treeasks.asks" 550) (r 287),u [],z [],hp "tree" 573 "thing" "number" "ask",u [],x 31,q "look_at_asks" 570 571 572 92 2 0 0 3 289 181 290 291 292 293 577 578,y 31 (V "treeasks.asks" 550) (r 294),u [],z [],hn "tree" 585 "one" "other",u [],x 33,q "look_at_ends" 582 583 584 100 3 0 0 3 296 181 297 298 299 300 588 589,y 33 (V "treeasks.ways" 580) (r 301),u [],z [],u [(V "tree" 594),(V "one" 595),(V "other" 596),(V "way" 597),(V "low" 598)],u [],x 34,q "climb" 591 592 593 104 3 0 0 3 303 181 304 305 306 307 599 600,y 34 (V "treeasks.ways" 580) (r 308),u [],z [],u [(V "tree" 605),(V "one" 606),(V "other" 607),(V "way" 608),(V "meeting" 609)],u [],x 35,q "way_between" 602 603 604 111 3 0 0 3 310 181 311 312 313 314 610 611,y 35 (V "treeasks.ways" 580) (r 315),u [],z [],he "tree" 616 "ask",u [],x 36,q "way_of" 613 614 615 115 2 0 0 3 317 181 318 319 320 321 618 619,y 36 (V "treeasks.ways" 580) (r 322),u [],z [],u [(V "tree" 624),(V "one" 625),(V "other" 626),(V "way" 627),(V "meeting" 628)],u [],x 37,q "meeting_of" 621 622 623 117 3 0 0 3 324 181 325 326 327 328 629 630,y 37 (V "treeasks.ways" 580) (r 329),u [],z [],hp "tree" 635 "one" "other" "meeting",u [],x 38,q "climbed_between" 632 633 634 121 3 0 0 3 331 181 332 333 334 335 639 640,y 38 (V "treeasks.ways" 580) (r 336),u [],z [],hp "tree" 645 "one" "other" "place",u [],x 39,q "is_beneath" 642 643 644 124 3 0 0 3 338 181 339 340 341 342 649 650,y 39 (V "treeasks.ways" 580) (r 343),he "up" 654 "down",u [],z [],u [(V "thing" 660)],u [],x 42,q "is_text" 657 658 659 134 1 0 0 3 346 181 347 348 349 350 661 662,y 42 (V "treeasks.pointings" 652) (r 351),u [],z [],x 43,hg "along" 664 136 3 353 667,y 43 (V "treeasks.pointings" 652) (r 356),u [],z [],hp "tree" 673 "ask" "pointing" "found",u [],x 44,q "runs_one_way" 670 671 672 139 3 0 0 3 358 181 359 360 361 362 677 678,y 44 (V "treeasks.pointings" 652) (r 363),u [],z [],x 45,hg "is_pointing" 680 142 3 365 683,y 45 (V "treeasks.pointings" 652) (r 368),u [],z [],hn "tree" 695 "one" "other",u [],x 49,q "are_apart" 692 693 694 152 3 0 0 3 370 181 371 372 373 374 698 699,y 49 (V "treeasks.rings" 686) (r 375),u [],z [],hn "tree" 704 "asks" "thing",u [],x 50,q "is_link" 701 702 703 154 3 0 0 3 377 181 378 379 380 381 707 708,y 50 (V "treeasks.rings" 686) (r 382),u [],z [],u [(V "tree" 713),(V "asks" 714),(V "one" 715),(V "other" 716),(V "number" 717),(V "way" 718)],u [],x 51,q "are_joined" 710 711 712 158 5 0 0 3 384 181 385 386 387 388 719 720,y 51 (V "treeasks.rings" 686) (r 389),u [],z [],x 52,hg "is_ring" 722 161 3 391 725,y 52 (V "treeasks.rings" 686) (r 394),u [],z [],x 53,hg "links_of" 728 174 2 396 731,y 53 (V "treeasks.rings" 686) (r 399),u [],z [],u [(V "first" 737),(V "links" 738),(V "came" 739),(V "waiting" 740),(V "tie" 741),(V "other" 742),(V "number" 743)],u [],x 54,q "reach_from" 734 735 736 182 3 0 0 3 401 181 402 403 404 405 744 745,y 54 (V "treeasks.rings" 686) (r 406),u [],z [],u [(V "came" 750),(V "tie" 751),(V "path" 752),(V "ahead" 753),(V "number" 754)],u [],x 55,q "path_back" 747 748 749 191 2 0 0 3 408 181 409 410 411 412 755 756,y 55 (V "treeasks.rings" 686) (r 413),u [],z [],x 56,hg "text_of" 758 198 3 415 761,y 56 (V "treeasks.rings" 686) (r 418),u [],z [],x 57,hg "ring_through" 764 201 4 420 767,y 57 (V "treeasks.rings" 686) (r 423),u [],z [],u [(V "tree" 773),(V "links" 774),(V "texts" 775),(V "place" 776),(V "beside" 777),(V "other" 778),(V "number" 779)],u [],x 58,q "first_clash" 770 771 772 208 3 0 0 3 425 181 426 427 428 429 780 781,y 58 (V "treeasks.rings" 686) (r 430),u [],z [],x 59,hg "pointed" 783 214 2 432 786,y 59 (V "treeasks.rings" 686) (r 435),u [],z [],he "_law_script" 794 "_law_k",u [],x 61,q "_law_cell" 791 792 793 229 2 0 0 3 437 181 438 439 440 441 796 797,y 61 (V "law_treeasks_k49_pointings_refused" 789) (r 442),u [],z [],hp "_law_cell_here" 802 "_law_k" "_law_number" "_law_seed",u [],x 62,q "_law_source" 799 800 801 233 2 0 0 3 444 181 445 446 447 448 806 807,y 62 (V "law_treeasks_k49_pointings_refused" 789) (r 449),u [],z [],hp "_law_source_here" 812 "_law_many" "_law_digit" "_law_found",u [],x 63,q "_law_draw" 809 810 811 239 2 0 0 3 451 181 452 453 454 455 816 817,y 63 (V "law_treeasks_k49_pointings_refused" 789) (r 456),u [],z [],x 64,hg "_law_tree" 819 250 2 458 822,y 64 (V "law_treeasks_k49_pointings_refused" 789) (r 461),u [],z [],u [(V "_law_source_here" 828),(V "_law_many" 829),(V "_law_sizes" 830),(V "_law_worths" 831),(V "_law_one" 832),(V "_law_other" 833),(V "_law_size" 834)],u [],x 65,q "_law_ask" 825 826 827 258 4 0 0 3 463 181 464 465 466 467 835 836,y 65 (V "law_treeasks_k49_pointings_refused" 789) (r 468),u [],z [],he "_law_e" 841 "_law_kinds",u [],x 66,q "_law_kind" 838 839 840 263 1 0 0 3 470 181 471 472 473 474 843 844,y 66 (V "law_treeasks_k49_pointings_refused" 789) (r 475),u [],z [],he "_law_source_here" 849 "_law_some",u [],x 67,q "_law_bad_tree" 846 847 848 274 1 0 0 3 477 181 478 479 480 481 851 852,y 67 (V "law_treeasks_k49_pointings_refused" 789) (r 482),u [],z [],x 68,hg "_law_bad_asks" 854 279 3 484 857,y 68 (V "law_treeasks_k49_pointings_refused" 789) (r 487)]
def Ttree_217 (Q : F) : Params → W.BT := bt 11 ((lL Q a2m a2d).take 161)
def _root_.PySem.W.Fast.tw6868471163809578284 : Params → W.BT := Ttree_217 PySem.W.Fast.tw858713497799489546
theorem _root_.PySem.W.Fast.te6868471163809578284 : Ttree_217 Ob.A196 = PySem.W.Fast.tw6868471163809578284 := (congrArg Ttree_217 PySem.W.Fast.te858713497799489546)
lay_quick Ob.A218
def Ttree_232 (Q : F) : Params → W.BT := bt 11 ((lL Q a4e a4c).take 173)
def _root_.PySem.W.Fast.tw9516987450183020969 : Params → W.BT := Ttree_232 PySem.W.Fast.tw10596723031645028252
theorem _root_.PySem.W.Fast.te9516987450183020969 : Ttree_232 Ob.A218 = PySem.W.Fast.tw9516987450183020969 := (congrArg Ttree_232 PySem.W.Fast.te10596723031645028252)
lay_quick Ob.A233
def Ttree_247 (Q : F) : Params → W.BT := bt 11 ((lL Q a4t a4r).take 185)
def _root_.PySem.W.Fast.tw8324341523639214236 : Params → W.BT := Ttree_247 PySem.W.Fast.tw13913095129079592748
theorem _root_.PySem.W.Fast.te8324341523639214236 : Ttree_247 Ob.A233 = PySem.W.Fast.tw8324341523639214236 := (congrArg Ttree_247 PySem.W.Fast.te13913095129079592748)
lay_quick Ob.A248
def Ttree_262 (Q : F) : Params → W.BT := bt 11 ((lL Q a56 a55).take 197)
def _root_.PySem.W.Fast.tw2312564773286148932 : Params → W.BT := Ttree_262 PySem.W.Fast.tw8414283381455797104
theorem _root_.PySem.W.Fast.te2312564773286148932 : Ttree_262 Ob.A248 = PySem.W.Fast.tw2312564773286148932 := (congrArg Ttree_262 PySem.W.Fast.te8414283381455797104)
lay_quick Ob.A263
def Ttree_277 (Q : F) : Params → W.BT := bt 11 ((lL Q a5l a5j).take 209)
def _root_.PySem.W.Fast.tw18326837931251044109 : Params → W.BT := Ttree_277 PySem.W.Fast.tw9250365361016024512
theorem _root_.PySem.W.Fast.te18326837931251044109 : Ttree_277 Ob.A263 = PySem.W.Fast.tw18326837931251044109 := (congrArg Ttree_277 PySem.W.Fast.te9250365361016024512)
lay_quick Ob.A278
def Ttree_292 (Q : F) : Params → W.BT := bt 11 ((lL Q a5y a5w).take 221)
def _root_.PySem.W.Fast.tw8045446682981320129 : Params → W.BT := Ttree_292 PySem.W.Fast.tw12422453245428938170
theorem _root_.PySem.W.Fast.te8045446682981320129 : Ttree_292 Ob.A278 = PySem.W.Fast.tw8045446682981320129 := (congrArg Ttree_292 PySem.W.Fast.te12422453245428938170)
lay_quick Ob.A293
def Ttree_335 (Q : F) : Params → W.BT := bt 11 ((lL Q a6u a6r).take 261)
def _root_.PySem.W.Fast.tw13153920182676887429 : Params → W.BT := Ttree_335 PySem.W.Fast.tw18440253496614609407
theorem _root_.PySem.W.Fast.te13153920182676887429 : Ttree_335 Ob.A293 = PySem.W.Fast.tw13153920182676887429 := (congrArg Ttree_335 PySem.W.Fast.te18440253496614609407)
lay_quick Ob.A336
def Ttree_414 (Q : F) : Params → W.BT := bt 11 ((lL Q a8n a6r).take 338)
def _root_.PySem.W.Fast.tw7486852839577997447 : Params → W.BT := Ttree_414 PySem.W.Fast.tw16364656195909301128
theorem _root_.PySem.W.Fast.te7486852839577997447 : Ttree_414 Ob.A336 = PySem.W.Fast.tw7486852839577997447 := (congrArg Ttree_414 PySem.W.Fast.te16364656195909301128)
lay_quick Ob.A415
def Ttree_486 (Q : F) : Params → W.BT := bt 11 ((lL Q aan a6r).take 408)
def _root_.PySem.W.Fast.tw11584934376111526619 : Params → W.BT := Ttree_486 PySem.W.Fast.tw1709901983299457168
theorem _root_.PySem.W.Fast.te11584934376111526619 : Ttree_486 Ob.A415 = PySem.W.Fast.tw11584934376111526619 := (congrArg Ttree_486 PySem.W.Fast.te1709901983299457168)
lay_quick Ob.A487
def Ttree_569 (Q : F) : Params → W.BT := bt 11 ((lL Q acu a6r).take 489)
def _root_.PySem.W.Fast.tw17268248543335540126 : Params → W.BT := Ttree_569 PySem.W.Fast.tw15962577202132440012
theorem _root_.PySem.W.Fast.te17268248543335540126 : Ttree_569 Ob.A487 = PySem.W.Fast.tw17268248543335540126 := (congrArg Ttree_569 PySem.W.Fast.te15962577202132440012)
end
end Ob
namespace L2
open PySem PySem.Spec PyProof.Rows
abbrev Key:=Sum Int Str
def jp:Key→Value→Bool
 | .inl k,v=>Value.isInt k v
 | .inr x,v=>Value.isStrOf x v
def keyH (w:World):Key→Int
 | .inl k=>hashInt k
 | .inr x=>hashStr w x
theorem bu:∀ {k:Key} {v:Value},jp k v=true→(∃ i t,k=Sum.inl i∧v=Value.int i t)∨(∃ x t,k=Sum.inr x∧v=Value.str x t)
 | .inl i,v,h=>by
  obtain ⟨t,e⟩:=Value.isInt_shape (k:=i) (v:=v) h
  exact .inl ⟨i,t,rfl,e⟩
 | .inr x,v,h=>by
  obtain ⟨t,e⟩:=Value.isStrOf_shape (x:=x) (v:=v) h
  exact .inr ⟨x,t,rfl,e⟩
theorem pr (i:Int) (t:Tok):jp (.inl i) (.int i t)=true:=by simp [jp,Value.isInt]
theorem pJ (x:Str) (t:Tok):jp (.inr x) (.str x t)=true:=by simp [jp,Value.isStrOf]
theorem xA (a b:Int):decide ((Sum.inl a:Key)=Sum.inl b)=(a == b):=by
 by_cases e:a=b
 ·subst e; simp
 ·have h : ¬ (Sum.inl a:Key)=Sum.inl b:=fun q=>e (Sum.inl.inj q)
  rw [decide_eq_false h]
  exact (beq_eq_false_iff_ne.mpr e).symm
theorem wn (a b:Str):decide ((Sum.inr a:Key)=Sum.inr b)=decide (a=b):=by
 by_cases e:a=b
 ·subst e; simp
 ·have h : ¬ (Sum.inr a:Key)=Sum.inr b:=fun q=>e (Sum.inr.inj q)
  rw [decide_eq_false h,decide_eq_false e]
theorem wX (a:Int) (b:Str):decide ((Sum.inl a:Key)=Sum.inr b)=false:=decide_eq_false (fun q=>nomatch q)
theorem xb (a:Str) (b:Int):decide ((Sum.inr a:Key)=Sum.inl b)=false:=decide_eq_false (fun q=>nomatch q)
def bF (prog:Program) (w:World):PySem.KeyKind prog w Key where
 is:=jp
 hash:=keyH w
 inj:=fun v a b ha hb=>by
  rcases bu ha with ⟨i,t,rfl,rfl⟩ | ⟨x,t,rfl,rfl⟩
  ·rcases bu hb with ⟨j,u,rfl,e⟩ | ⟨y,u,rfl,e⟩
   ·injection e with e1 _; rw [e1]
   ·exact nomatch e
  ·rcases bu hb with ⟨j,u,rfl,e⟩ | ⟨y,u,rfl,e⟩
   ·exact nomatch e
   ·injection e with e1 _; rw [e1]
 byValue:=fun k v h=>by
  rcases bu h with ⟨i,t,rfl,rfl⟩ | ⟨x,t,rfl,rfl⟩ <;> rfl
 pyHash:=fun hv h=>by
  rcases bu hv with ⟨i,t,rfl,rfl⟩ | ⟨x,t,rfl,rfl⟩
  ·exact wpAny_pyHash_int h
  ·exact wpAny_pyHash_str h
 eqBool:=fun hu hv h=>by
  rcases bu hu with ⟨i,t,rfl,rfl⟩ | ⟨x,t,rfl,rfl⟩
  ·rcases bu hv with ⟨j,u,rfl,rfl⟩ | ⟨y,u,rfl,rfl⟩
   ·rw [xA] at h; exact wpAny_eqBool_int h
   ·rw [wX] at h; exact SeqAt.EqAt.int_str i t y u _ _ _ _ h
  ·rcases bu hv with ⟨j,u,rfl,rfl⟩ | ⟨y,u,rfl,rfl⟩
   ·rw [xb] at h; exact SeqAt.EqAt.str_int x t j u _ _ _ _ h
   ·rw [wn] at h; exact wpAny_eqBool_str h
 «strs»:=fun k x t v h=>by
  rcases bu h with ⟨i,u,rfl,e⟩ | ⟨y,u,rfl,e⟩
  ·exact nomatch e
  ·injection e with e1 _
   subst e1
   cases v <;> rfl
theorem gZ (prog:Program) (w:World) (i:Int) (t:Tok):(bF prog w).is (.inl i) (.int i t)=true:=pr i t
theorem lv (prog:Program) (w:World) (x:Str) (t:Tok):(bF prog w).is (.inr x) (.str x t)=true:=pJ x t
inductive V where
 | non | bl (b:Bool) | int (i:Int) | str (x:Str) | byt (b:Array UInt8) | flt (b:UInt64) | ref (a:Addr) | ty (n:String)
 deriving DecidableEq
def aT:V→Value→Prop
 | .non,u=>u=Value.none
 | .bl b,u=>u=Value.bool b
 | .int i,u=>∃ t,u=Value.int i t
 | .str x,u=>∃ t,u=Value.str x t
 | .byt b,u=>∃ t,u=Value.bytes b t
 | .flt b,u=>∃ t,u=Value.float b t
 | .ref a,u=>u=Value.ref a
 | .ty n,u=>u=Value.type n
abbrev aM:List V→List Value→Prop:=Paired aT
theorem aM.length {xs:List V} {us:List Value} (r:aM xs us):xs.length=us.length:=Paired.length r
theorem aM.get:∀ {xs:List V} {us:List Value} {i:Nat} {x:V},aM xs us→xs[i]? = some x→∃ u,us[i]? = some u∧aT x u
 | _,_,_,_,.nil,e=>by simp at e
 | _,_,0,_,.cons r _,e=>by simp at e; subst e; exact ⟨_,rfl,r⟩
 | _,_,i + 1,x,.cons _ t,e=>by
  obtain ⟨u,h1,h2⟩:=aM.get (i:=i) (x:=x) t (by simpa using e)
  exact ⟨u,by simpa using h1,h2⟩
theorem aM.set {x:V} {u:Value} (r:aT x u):∀ {xs:List V} {us:List Value} (i:Nat),aM xs us→aM (xs.set i x) (us.set i u)
 | _,_,_,.nil=>.nil
 | _,_,0,.cons _ t=>.cons r t
 | _,_,i + 1,.cons q t=>.cons q (aM.set r i t)
theorem aM.append:∀ {xs ys:List V} {us ws:List Value},aM xs us→aM ys ws→aM (xs++ys) (us++ws)
 | _,_,_,_,.nil,s=>s
 | _,_,_,_,.cons r t,s=>.cons r (aM.append t s)
theorem aM.take:∀ {xs:List V} {us:List Value} (n:Nat),aM xs us→aM (xs.take n) (us.take n)
 | _,_,0,_=>.nil
 | _,_,_ + 1,.nil=>.nil
 | _,_,n + 1,.cons r t=>.cons r (aM.take n t)
theorem aM.drop:∀ {xs:List V} {us:List Value} (n:Nat),aM xs us→aM (xs.drop n) (us.drop n)
 | _,_,0,r=>r
 | _,_,_ + 1,.nil=>.nil
 | _,_,n + 1,.cons _ t=>aM.drop n t
def h9:Option V→Option Value→Prop
 | some v,some u=>aT v u
 | none,none=>True
 | _,_=>False
def KV {κ:Type}:List (κ×V)→List (κ×Value)→Prop:=Paired fun (p : κ×V) (q : κ×Value)=>p.1=q.1∧aT p.2 q.2
def kV:Key→V
 | .inl i=>.int i
 | .inr x=>.str x
inductive HO where

 | lst (xs:List V)

 | tup (xs:List V)

 | dK (kvs:List (Key×V)) | dT (kvs:List (List Key×V))

 | set (S:Int→Bool) (n:Nat)

 | ins (C dx:Addr) (fs:List (Str×V))

 | own (x:Addr)

 | xd (fs:List (Str×V))

 | met (f x:Addr)

 | rng (lo hi:Int)

 | frz (o:Obj) (u:HO)

 | tbl (ps:Array Value)

 | ext (φ:Heap→Prop)
abbrev Hp:=Addr→Option HO
def upd (H:Hp) (a:Addr) (o:HO):Hp:=fun b=>if b=a then some o else H b
theorem ao {H:Hp} {a:Addr} {o:HO}:upd H a o a=some o:=by unfold upd; rw [if_pos rfl]
theorem ah {H:Hp} {a b:Addr} {o:HO} (h:b≠a):upd H a o b=H b:=by unfold upd; rw [if_neg h]
theorem iu {H:Hp} {a:Addr} {o u:HO}:upd (upd H a o) a u=upd H a u:=by
 funext b; unfold upd; split <;> rfl
theorem ne_of {H:Hp} {a b:Addr} {o u:HO} (h:H a=some o) (h':H b=some u) (d:o≠u):a≠b:=by
 intro e; subst e; rw [h] at h'; exact d (Option.some.inj h')
theorem ar {H:Hp} {a b:Addr} {o:HO} (h:H a=some o) (h':H b=none):a≠b:=by
 intro e; subst e; rw [h] at h'; cases h'
section
variable (P:Program) (w:World)
def aP (H:Hp) (h:Heap) (a:Addr):HO→Prop
 | .lst xs=>xs.length≤sizeLine∧∃ (its:List Value) (n:Nat),aM xs its∧h.get? a=some { cls:=.type "list",data:=.seq its.toArray n }
 | .tup xs=>xs.length≤sizeLine∧∃ its:List Value,aM xs its∧IsTup h a its.toArray
 | .dK kvs=>kvs.length≤sizeLine∧(a == sysModules)=false∧∃ vs,KV kvs vs∧h.DictOf (bF P w) a vs
 | .dT kvs=>kvs.length≤sizeLine∧(a == sysModules)=false∧∃ xs:List (List Key×Addr×Value),
  Paired (fun (p:List Key×V) (q:List Key×Addr×Value)=>p.1=q.1∧H q.2.1=some (.tup (p.1.map kV))∧aT p.2 q.2.2) kvs xs ∧
  ∃ o es ep,h.get? a=some o∧o.ExactDict∧o.data = .dict es ep∧es.toList=xs.map (entryOfKey (tupleKind (bF P w)))∧(xs.map (·.1)).Nodup
 | .set S n=>h.SetOf (intKind P w) a S n
 | .ins C dx fs=>H dx=some (.own a)∧fs.length≤1000∧dx≠a∧h.get? a=some (PySem.W.instObj C dx) ∧
  ∃ mA,h.Ns1 dx mA∧(∀ f,h9 (fs.lookup f) (mA f))∧PySem.Within mA (fs.map (·.1))
 | .own _=>∃ o,h.get? a=some o
 | .xd fs=>∃ mA,h.Ns1 a mA∧∀ f,h9 (fs.lookup f) (mA f)
 | .rng lo hi=>∃ t u v,h.get? a=some { cls:=.type "range",data:=.fields #[.int lo t,.int hi u,.int 1 v] }
 | .frz o u=>h.get? a=some o∧aP H h a u
 | .tbl ps=>h.get? a=some { cls:=.none,data:=.fields ps }
 | .met f x=>h.get? a=some (PySem.W.methodObj (.ref f) (.ref x))
 | .ext φ=>φ h∧(∃ o,h.get? a=some o)∧∀ h1 h2:Heap,φ h1→(∀ o,h1.get? a=some o→h2.get? a=some o)→φ h2
def HOk (H:Hp) (h:Heap):Prop:=∀ a o,H a=some o→aP P w H h a o
end
section
variable {P:Program} {w:World} {H H':Hp} {h h':Heap} {a:Addr} {o:HO}
theorem aP.lt (x:aP P w H h a o):a<h.objs.size:=by
 cases o with
 | lst xs=>obtain ⟨_,_,_,_,e⟩:=x; exact Heap.lt_size e
 | tup xs=>obtain ⟨_,_,_,p⟩:=x; exact p.lt
 | dK kvs=>obtain ⟨_,_,_,_,o,_,_,e,_⟩:=x; exact Heap.lt_size e
 | dT kvs=>obtain ⟨_,_,_,_,o,_,_,e,_⟩:=x; exact Heap.lt_size e
 | set S n=>obtain ⟨o,_,_,_,e,_⟩:=x; exact Heap.lt_size e
 | ins C dx fs=>obtain ⟨_,_,_,e,_⟩:=x; exact Heap.lt_size e
 | own y=>obtain ⟨_,e⟩:=x; exact Heap.lt_size e
 | xd fs=>obtain ⟨_,⟨_,_,_,e,_⟩,_⟩:=x; exact Heap.lt_size e
 | rng lo hi=>obtain ⟨_,_,_,e⟩:=x; exact Heap.lt_size e
 | frz ob u=>obtain ⟨e,_⟩:=x; exact Heap.lt_size e
 | tbl ps=>exact Heap.lt_size (show h.get? a=some _ from x)
 | met f y=>exact Heap.lt_size (show h.get? a=some _ from x)
 | ext φ=>obtain ⟨_,⟨_,e⟩,_⟩:=x; exact Heap.lt_size e
theorem Paired.mapP {α β:Type} {F G : α→β→Prop}:∀ {l₁:List α} {l₂:List β},Paired F l₁ l₂→(∀ a b,F a b→G a b)→Paired G l₁ l₂
 | _,_,.nil,_=>.nil
 | _,_,.cons r t,f=>.cons (f _ _ r) (Paired.mapP t f)
theorem aP.stay (x:aP P w H h a o) (k:∀ b u,(b=a∨H b=some (.own a))→h.get? b=some u→h'.get? b=some u)
 (ho:∀ b,H b=some (.own a)→H' b=some (.own a)) (ht:∀ b xs,H b=some (.tup xs)→H' b=some (.tup xs)):aP P w H' h' a o:=by
 induction o with
 | lst xs=>obtain ⟨z,its,n,r,e⟩:=x; exact ⟨z,its,n,r,k _ _ (.inl rfl) e⟩
 | tup xs=>obtain ⟨z,its,r,ob,e,c⟩:=x; exact ⟨z,its,r,ob,k _ _ (.inl rfl) e,c⟩
 | dK kvs=>obtain ⟨z,y,vs,r,ob,es,ep,e,c⟩:=x; exact ⟨z,y,vs,r,ob,es,ep,k _ _ (.inl rfl) e,c⟩
 | dT kvs =>
  obtain ⟨z,y,xs,r,ob,es,ep,e,c⟩:=x
  exact ⟨z,y,xs,Paired.mapP r fun p q z=>⟨z.1,ht _ _ z.2.1,z.2.2⟩,ob,es,ep,k _ _ (.inl rfl) e,c⟩
 | set S n=>obtain ⟨ob,es,ep,t,e,c⟩:=x; exact ⟨ob,es,ep,t,k _ _ (.inl rfl) e,c⟩
 | ins C dx fs =>
  obtain ⟨d,z,ne,e,mA,⟨od,es,ep,e2,c⟩,r⟩:=x
  exact ⟨ho _ d,z,ne,k _ _ (.inl rfl) e,mA,⟨od,es,ep,k _ _ (.inr d) e2,c⟩,r⟩
 | own y=>obtain ⟨ob,e⟩:=x; exact ⟨ob,k _ _ (.inl rfl) e⟩
 | xd fs=>obtain ⟨mA,⟨od,es,ep,e,c⟩,r⟩:=x; exact ⟨mA,⟨od,es,ep,k _ _ (.inl rfl) e,c⟩,r⟩
 | rng lo hi=>obtain ⟨t,u,v,e⟩:=x; exact ⟨t,u,v,k _ _ (.inl rfl) e⟩
 | frz ob u ih=>obtain ⟨e,q⟩:=x; exact ⟨k _ _ (.inl rfl) e,ih q⟩
 | tbl ps =>
  have e:h.get? a=some { cls:=.none,data:=.fields ps }:=x
  show h'.get? a=some { cls:=.none,data:=.fields ps }
  exact k a _ (.inl rfl) e
 | met f y =>
  have e:h.get? a=some (PySem.W.methodObj (.ref f) (.ref y)):=x
  show h'.get? a=some (PySem.W.methodObj (.ref f) (.ref y))
  exact k a _ (.inl rfl) e
 | ext φ=>obtain ⟨p,⟨o,e⟩,st⟩:=x; exact ⟨st _ _ p fun o q=>k _ _ (.inl rfl) q,⟨o,k _ _ (.inl rfl) e⟩,st⟩
theorem HOk.lt (x:HOk P w H h) (e:H a=some o):a<h.objs.size:=(x a o e).lt
theorem HOk.fresh (x:HOk P w H h) (e:h.objs.size≤a):H a=none:=by
 cases q:H a with
 | none=>rfl
 | some u=>exact absurd (Nat.lt_of_lt_of_le (x.lt q) e) (Nat.lt_irrefl _)
theorem HOk.kept (x:HOk P w H h) (k:∀ b u,h.get? b=some u→h'.get? b=some u):HOk P w H h':=fun a o e =>
 (x a o e).stay (fun b u _ q=>k b u q) (fun _ q=>q) fun _ _ q=>q
theorem HOk.laid (x:HOk P w H h) (k:∀ b u,h.get? b=some u→h'.get? b=some u) (hp:h.objs.size≤a) (new:aP P w (upd H a o) h' a o):HOk P w (upd H a o) h':=fun b u e=>by
 have hn:=x.fresh hp
 by_cases hb:b=a
 ·subst hb; rw [ao] at e; cases e; exact new
 ·rw [ah hb] at e
  exact (x b u e).stay (fun c v _ q=>k c v q) (fun c q=>by rw [ah (ar q hn)]; exact q) fun c xs q=>by rw [ah (ar q hn)]; exact q
end
def Rd (H:Hp) (a:Addr) (u:HO):Prop:=H a=some u∨∃ o,H a=some (.frz o u)
theorem Rd.ok {P:Program} {w:World} {H:Hp} {h:Heap} {a:Addr} {u:HO} (r:Rd H a u) (x:HOk P w H h):aP P w H h a u:=by
 rcases r with r | ⟨o,r⟩
 ·exact x a u r
 ·obtain ⟨_,q⟩:=x a _ r
  exact q
def Mut:Option HO→Prop
 | some (.lst _)=>True
 | some (.dK _)=>True
 | some (.dT _)=>True
 | some (.set _ _)=>True
 | some (.ins _ _ _)=>True
 | some (.ext _)=>True
 | _=>False
section
variable {P:Program} {w:World} {H:Hp} {h h':Heap} {x e:Addr} {o':HO}
theorem HOk.write (ok:HOk P w H h) (mu:Mut (H x)) (he:e=x∨H e=some (.own x)) (k:∀ b u,b≠e→h.get? b=some u→h'.get? b=some u) (heo:∃ u,h'.get? e=some u)
 (new:aP P w (upd H x o') h' x o'):HOk P w (upd H x o') h':=fun b u q=>by
 have nown:∀ c y,H c=some (.own y)→c≠x:=fun c y r z=>by subst z; rw [r] at mu; exact mu
 have ntup:∀ c xs,H c=some (.tup xs)→c≠x:=fun c xs r z=>by subst z; rw [r] at mu; exact mu
 by_cases hb:b=x
 ·subst hb; rw [ao] at q; cases q; exact new
 ·rw [ah hb] at q
  by_cases hbe:b=e
  ·have q':H b=some (.own x):=by
    rcases he with z | z
    ·exact absurd (hbe.trans z) hb
    ·rw [hbe]; exact z
   rw [q] at q'; cases q'
   obtain ⟨v,hv⟩:=heo
   exact ⟨v,by rw [hbe]; exact hv⟩
  ·refine (ok b u q).stay (fun c v hc r=>k c v ?_ r) (fun c r=>by rw [ah (nown c b r)]; exact r) fun c xs r=>by rw [ah (ntup c xs r)]; exact r
   rcases hc with rfl | hc
   ·exact hbe
   ·rintro rfl
    rcases he with z | z
    ·exact nown c b hc z
    ·rw [hc] at z; cases z; exact hb rfl
end
structure Un (fs ex:List Addr) (H H':Hp) (h h':Heap):Prop where
 keep:∀ b o,h.get? b=some o→H b=none→b ∉ fs→b ∉ ex→h'.get? b=some o
 slot:∀ b o,h.get? b=some o→H b=none→b∈fs→b ∉ ex→∃ sl,h'.get? b=some { o with slots:=sl }
 free:∀ b o,h.get? b=some o→H b=none→b ∉ ex→H' b=none
 there:∀ b o,h.get? b=some o→b ∉ ex→∃ o',h'.get? b=some o'
 tups:∀ b xs,H b=some (.tup xs)→H' b=some (.tup xs)
 frzs:∀ b o u,H b=some (.frz o u)→H' b=some (.frz o u)
 tbls:∀ b ps,H b=some (.tbl ps)→∃ more,H' b=some (.tbl (ps++more))
section
variable {fs fs' ex ex':List Addr} {H H1 H2:Hp} {h h1 h2 h':Heap} {a x e:Addr} {o:HO}
theorem Un.any (u:Un fs ex H H1 h h1) {b:Addr} {ob:Obj} (q:h.get? b=some ob) (n:H b=none) (hx:b ∉ ex):∃ sl,h1.get? b=some { ob with slots:=sl }:=by
 by_cases hb:b∈fs
 ·exact u.slot b ob q n hb hx
 ·exact ⟨ob.slots,u.keep b ob q n hb hx⟩
theorem Un.kept (k:∀ b u,h.get? b=some u→h'.get? b=some u):Un fs ex H H h h' :=
 ⟨fun b ob q _ _ _=>k b ob q,fun b ob q _ _ _=>⟨ob.slots,k b ob q⟩,fun _ _ _ n _=>n,fun b ob q _=>⟨ob,k b ob q⟩,fun _ _ q=>q,fun _ _ _ q=>q,fun _ ps q=>⟨#[],by rw [q]; simp⟩⟩
theorem Un.refl:Un fs ex H H h h:=Un.kept fun _ _ q=>q
theorem Un.laid (k:∀ b u,h.get? b=some u→h'.get? b=some u) (hp:h.objs.size≤a) (hn:H a=none):Un fs ex H (upd H a o) h h' where
 keep:=fun b u q _ _ _=>k b u q
 slot:=fun b u q _ _ _=>⟨u.slots,k b u q⟩
 free:=fun b u q n _=>by rw [ah (Nat.ne_of_lt (Nat.lt_of_lt_of_le (Heap.lt_size q) hp))]; exact n
 there:=fun b u q _=>⟨u,k b u q⟩
 tups:=fun b xs q=>by rw [ah (ar q hn)]; exact q
 frzs:=fun b u xs q=>by rw [ah (ar q hn)]; exact q
 tbls:=fun b ps q=>⟨#[],by rw [ah (ar q hn),q]; simp⟩
theorem Un.write (mu:Mut (H x)) (he:e=x∨H e=some (.own x)) (k:∀ b u,b≠e→h.get? b=some u→h'.get? b=some u) (heo:∃ u,h'.get? e=some u):Un fs ex H (upd H x o) h h':=by
 have hx:∀ b,H b=none→b≠x:=fun b n z=>by subst z; rw [n] at mu; exact mu
 have hb:∀ b,H b=none→b≠e:=fun b n z=>by
  subst z
  rcases he with r | r
  ·exact hx b n r
  ·rw [n] at r; cases r
 have hm:∀ b u,H b=some u→¬ Mut (some u)→b≠x:=fun b u q nm z=>by subst z; rw [q] at mu; exact nm mu
 refine ⟨fun b u q n _ _=>k b u (hb b n) q,fun b u q n _ _=>⟨u.slots,k b u (hb b n) q⟩,fun b u q n _=>by rw [ah (hx b n)]; exact n,fun b u q _=>?_,
  fun b xs q=>by rw [ah (hm b _ q fun z=>z)]; exact q,fun b u xs q=>by rw [ah (hm b _ q fun z=>z)]; exact q,fun b ps q=>⟨#[],by rw [ah (hm b _ q fun z=>z),q]; simp⟩⟩
 by_cases hbe:b=e
 ·subst hbe; exact heo
 ·exact ⟨u,k b u hbe q⟩
theorem Un.mono (u:Un fs ex H H1 h h1) (hs:∀ b∈fs,b∈fs') (hx:∀ b∈ex,b∈ex'):Un fs' ex' H H1 h h1 :=
 ⟨fun b ob q n hb he=>u.keep b ob q n (fun z=>hb (hs b z)) fun z=>he (hx b z),fun _ _ q n _ he=>u.any q n fun z=>he (hx _ z),fun b ob q n he=>u.free b ob q n fun z=>he (hx b z),fun b ob q he=>u.there b ob q fun z=>he (hx b z),u.tups,u.frzs,u.tbls⟩
end
def trk (h:Heap) (H:Hp):List Addr:=(List.range h.objs.size).filter fun a=>(H a).isSome
def kH (h:Heap) (H:Hp):Heap:=PySem.W.hideAll h (trk h H)
theorem ph (h:Heap) (H:Hp):(kH h H).objs.size=h.objs.size:=PySem.W.hideAll_size _ _
theorem rm {h:Heap} {H:Hp} {b:Addr} {o:Obj} (e:h.get? b=some o) (n:H b=none):(kH h H).get? b=some o :=
 PySem.W.hideAll_get _ e fun hm=>by
  have q:(H b).isSome=true:=(List.mem_filter.mp hm).2
  rw [n] at q; simp at q
theorem uh {h:Heap} {H:Hp} {b:Addr} {o:Obj} (e:(kH h H).get? b=some o):h.get? b=some o∧H b=none:=by
 have e':h.get? b=some o:=PySem.W.of_hideAll (trk h H) e
 refine ⟨e',?_⟩
 cases q:H b with
 | none=>rfl
 | some x =>
  have hm:b∈trk h H:=List.mem_filter.mpr ⟨List.mem_range.mpr (Heap.lt_size e'),by simp [q]⟩
  have z:(kH h H).get? b=none:=PySem.W.hideAll_none (trk h H) hm
  rw [z] at e; cases e
structure Mod (K:PySem.W.Frag) (mg:Str→Option Value) (base:Heap):Prop where
 kin:K.In base
 glob:base.Ns mainGlobals mg
 blt:∃ mb,base.Ns builtinsNs mb∧∀ x:Str,x ≠ "__name__" → mb x=bootBuiltins x
 nolimit:base.NoLimit
structure Cx where
 prog:Program
 w:World
 K:PySem.W.Frag
 mg:Str→Option Value
 base:Heap
 A:Around
 N:List Str
 s₀:Shared
 H₀:Hp
 env:Env
 outer:List Env
 stack:List Env
 ex:List Addr
 fn:Str→Bool
 calm:Bool
 pn:List 'h'
 xe:Value→Shared→Prop
def frs (l:List Env):List Addr:=l.filterMap (·.frame)
abbrev Cx.fs (X:Cx):List Addr:=frs X.outer
def Vis (sc:Scope) (x:Str):Prop:=sc.names.lookup x=some .local∨sc.names.lookup x=some .cell∨sc.names.lookup x=some .free
def Loc (sc:Scope) (x:Str):Prop:=sc.names.lookup x=some .local∨sc.names.lookup x=some .cell
def Look (env:Env) (h:Heap) (m:Str→Option Value) (x:Str) (u:Value):Prop :=
 (env.kindOf x=some .local∧m x=some u)∨((env.kindOf x=some .cell∨env.kindOf x=some .free)∧∃ c,env.cells.lookup x=some c∧h.IsCell c (some u))
structure Cx.Ok (X:Cx):Prop where
 mod:Mod X.K X.mg X.base
 kind:X.env.scope.kind = .function
 glob:X.env.globals=mainGlobals
 blt:X.env.builtins=builtinsNs
 above:X.s₀.heap.objs.size≤X.env.locals
 inj:∀ x y c,X.env.cells.lookup x=some c→X.env.cells.lookup y=some c→x=y
 has:∀ x,(X.env.kindOf x=some .cell∨X.env.kindOf x=some .free)→∃ c,X.env.cells.lookup x=some c
 cab:∀ x c,X.fn x=true→X.env.cells.lookup x=some c→X.s₀.heap.objs.size≤c
 hd:X.calm=true→X.A.handled=none
 frames:X.A.frames=some X.stack
 stk:X.stack=X.outer∨(X.stack=X.env :: X.outer∧X.env.frame=some X.env.locals)
 exf:∀ b∈X.ex,b≠X.env.locals∧∀ x c,X.env.cells.lookup x=some c→c≠b
 bs:∀ b o,X.base.get? b=some o→X.s₀.heap.get? b=some o∧X.H₀ b=none
 bsz:X.base.objs.size≤X.s₀.heap.objs.size
 noex:∀ b o,X.base.get? b=some o→b ∉ X.ex
 exfs:∀ b∈X.ex,b ∉ X.fs
 funs:X.s₀.heap.FunFrames X.base X.outer
 frf:∀ b∈X.fs,X.H₀ b=none
structure Inv (X:Cx) (pins:List 'h') (σ:List (Option V)) (H:Hp) (s:Shared):Prop where
 ok:X.Ok
 os:s.os=X.s₀.os
 bare:AllBare s.gens
 base:Un X.fs X.ex X.H₀ H X.s₀.heap s.heap
 loc:∃ m,s.heap.Ns X.env.locals m∧∀ (i:Nat) (x:Str) (v:V),X.N[i]? = some x→σ[i]? = some (some v)→Vis X.env.scope x→∃ u,aT v u∧Look X.env s.heap m x u
 cell:∀ x c,X.env.cells.lookup x=some c→∃ v,s.heap.IsCell c v
 free:H X.env.locals=none
 freeC:∀ x c,X.env.cells.lookup x=some c→H c=none
 pin:∀ p∈X.pn++pins,s.heap.get? p.1=some p.2∧H p.1=none∧p.1≠X.env.locals∧p.1 ∉ X.fs∧∀ v,p.2.data≠.cell v
 hok:HOk X.prog X.w H s.heap
 len : σ.length=X.N.length
section
variable {X:Cx} {pins:List (Addr×Obj)} {σ:List (Option V)} {H H':Hp} {s:Shared} {h':Heap}
theorem Cx.Ok.nofr (ok:X.Ok) {b:Addr} {o:Obj} (e:X.base.get? b=some o):b ∉ X.fs:=fun hb=>by
 have:=(ok.funs.mem hb).1
 rw [e] at this; cases this
theorem Inv.bs (I:Inv X pins σ H s):∀ b o,X.base.get? b=some o→s.heap.get? b=some o∧H b=none:=fun b o e =>
 ⟨I.base.keep b o (I.ok.bs b o e).1 (I.ok.bs b o e).2 (I.ok.nofr e) (I.ok.noex b o e),I.base.free b o (I.ok.bs b o e).1 (I.ok.bs b o e).2 (I.ok.noex b o e)⟩
theorem Inv.bk (I:Inv X pins σ H s):∀ b o,X.base.get? b=some o→s.heap.get? b=some o:=fun b o e=>(I.bs b o e).1
theorem Inv.mod (I:Inv X pins σ H s):Mod X.K X.mg X.base:=I.ok.mod
theorem Inv.kIn (I:Inv X pins σ H s):X.K.In s.heap:=I.ok.mod.kin.keeps I.bk
theorem Inv.fr (I:Inv X pins σ H s):∃ m,Fr X.base X.env.locals s.heap m :=
 let ⟨m,hn,_⟩:=I.loc
 ⟨m,hn,I.bk,Nat.le_trans I.ok.bsz I.ok.above⟩
theorem Inv.lt (I:Inv X pins σ H s):X.env.locals<s.heap.objs.size:=let ⟨_,hn,_⟩:=I.loc; hn.lt
theorem Inv.sz (I:Inv X pins σ H s):X.s₀.heap.objs.size≤s.heap.objs.size:=Nat.le_trans I.ok.above (Nat.le_of_lt I.lt)
theorem Inv.nofs (I:Inv X pins σ H s) {a:Addr} (h:s.heap.objs.size≤a):a ∉ X.fs:=fun hb=>by
 obtain ⟨_,o,ho,_⟩:=I.ok.funs.mem hb
 exact absurd (Nat.lt_of_lt_of_le (Heap.lt_size ho) (Nat.le_trans I.sz h)) (Nat.lt_irrefl _)
theorem Inv.cne (I:Inv X pins σ H s):∀ x c,X.env.cells.lookup x=some c→c≠X.env.locals:=fun x c e z=>by
 obtain ⟨v,o,ho,hd⟩:=I.cell x c e
 obtain ⟨m,⟨o',es,ep,ho',hd',_⟩,_⟩:=I.loc
 rw [z,ho'] at ho; cases ho; rw [hd'] at hd; cases hd
theorem Inv.funs (I:Inv X pins σ H s):s.heap.FunFrames X.base X.outer:=by
 have all:∀ (l:List Env),(∀ b∈frs l,b∈X.fs)→X.s₀.heap.FunFrames X.base l→s.heap.FunFrames X.base l:=by
  intro l
  induction l with
  | nil=>intro _ _; trivial
  | cons env r ih =>
   intro hs hl
   obtain ⟨hk,⟨L,o,hf,hn,ho,hd⟩,hr⟩:=hl
   have hL:L∈X.fs:=hs L (by unfold frs; rw [List.filterMap_cons,hf]; exact List.mem_cons_self)
   obtain ⟨sl,e⟩:=I.base.slot L o ho (I.ok.frf L hL) hL fun z=>I.ok.exfs L z hL
   exact ⟨hk,⟨L,_,hf,hn,e,hd⟩,ih (fun b hb=>hs b (by unfold frs; rw [List.filterMap_cons,hf]; exact List.mem_cons_of_mem _ hb)) hr⟩
 exact all X.outer (fun _ hb=>hb) I.ok.funs
theorem Inv.stack (I:Inv X pins σ H s):s.heap.FunFrames X.base X.stack:=by
 rcases I.ok.stk with e | ⟨e,hf⟩
 ·rw [e]; exact I.funs
 ·rw [e]
  obtain ⟨m,hn,_⟩:=I.loc
  refine .cons (by rw [I.ok.kind]; decide) hf hn ?_ I.funs
  exact Heap.get?_none_of_le (Nat.le_trans I.ok.bsz I.ok.above)
theorem Inv.stkSub (I:Inv X pins σ H s):∀ b∈frs X.stack,b∈X.env.locals :: X.fs:=fun b hb=>by
 rcases I.ok.stk with e | ⟨e,hf⟩
 ·rw [e] at hb; exact List.mem_cons_of_mem _ hb
 ·rw [e] at hb
  unfold frs at hb
  rw [List.filterMap_cons,hf] at hb
  exact hb
theorem Inv.stkFree (I:Inv X pins σ H s):∀ b∈frs X.stack,H b=none:=fun b hb=>by
 rcases List.mem_cons.mp (I.stkSub b hb) with e | hb
 ·rw [e]; exact I.free
 ·obtain ⟨_,o,ho,_⟩:=I.ok.funs.mem hb
  exact I.base.free b o ho (I.ok.frf b hb) fun z=>I.ok.exfs b z hb
theorem Inv.step {g':Array GenState} {t':Nat} {d':Drawn} {ch:List Addr} (I:Inv X pins σ H s)
 (hch:∀ b∈ch,(b∈X.ex∨X.s₀.heap.objs.size≤b)∧b≠X.env.locals∧(∀ x c,X.env.cells.lookup x=some c→c≠b)∧∀ p∈X.pn++pins,p.1≠b)
 (keep:∀ b o,b≠X.env.locals→b ∉ X.fs→b ∉ ch→s.heap.get? b=some o→H b=none→h'.get? b=some o)
 (slot:∀ b o,b≠X.env.locals→b∈X.fs→b ∉ ch→s.heap.get? b=some o→H b=none→∃ sl,h'.get? b=some { o with slots:=sl }) (free:∀ b o,b ∉ ch→s.heap.get? b=some o→H b=none→H' b=none)
 (there:∀ b o,b ∉ ch→s.heap.get? b=some o→∃ o',h'.get? b=some o')
 (tups:∀ b xs,H b=some (.tup xs)→H' b=some (.tup xs)) (frzs:∀ b o u,H b=some (.frz o u)→H' b=some (.frz o u)) (tbls:∀ b ps,H b=some (.tbl ps)→∃ more,H' b=some (.tbl (ps++more)))
 (ns:∀ m,s.heap.Ns X.env.locals m→h'.Ns X.env.locals m) (hok:HOk X.prog X.w H' h') (hg:AllBare g') :
 Inv X pins σ H' { s with heap:=h',gens:=g',drawn:=d',toks:=t' }:=by
 have neL:∀ b o,X.s₀.heap.get? b=some o→b≠X.env.locals:=fun b o e=>Nat.ne_of_lt (Nat.lt_of_lt_of_le (Heap.lt_size e) I.ok.above)
 have neC:∀ b o,X.s₀.heap.get? b=some o→b ∉ X.ex→b ∉ ch:=fun b o e hx hb=>by
  rcases (hch b hb).1 with z | z
  ·exact hx z
  ·exact absurd (Nat.lt_of_lt_of_le (Heap.lt_size e) z) (Nat.lt_irrefl _)
 have cellK:∀ x c,X.env.cells.lookup x=some c→∀ v,s.heap.IsCell c v→h'.IsCell c v:=fun x c e v ⟨o,ho,hd⟩=>by
  have nch:c ∉ ch:=fun z=>(hch c z).2.2.1 x c e rfl
  by_cases hc:c∈X.fs
  ·obtain ⟨sl,q⟩:=slot c o (I.cne x c e) hc nch ho (I.freeC x c e)
   exact ⟨_,q,hd⟩
  ·exact ⟨o,keep c o (I.cne x c e) hc nch ho (I.freeC x c e),hd⟩
 refine ⟨I.ok,I.os,hg,⟨fun b o e n hb hx=>?_,fun b o e n hb hx=>?_,fun b o e n hx=>?_,fun b o e hx=>?_,fun b xs e=>tups b xs (I.base.tups b xs e),fun b o xs e=>frzs b o xs (I.base.frzs b o xs e),fun b ps e=>?_⟩,?_,fun x c e=>?_,?_,fun x c e=>?_,fun p hp=>?_,hok,I.len⟩
 ·exact keep b o (neL b o e) hb (neC b o e hx) (I.base.keep b o e n hb hx) (I.base.free b o e n hx)
 ·obtain ⟨sl,e1⟩:=I.base.slot b o e n hb hx
  obtain ⟨sl',e2⟩:=slot b _ (neL b o e) hb (neC b o e hx) e1 (I.base.free b o e n hx)
  exact ⟨sl',e2⟩
 ·obtain ⟨o',e1⟩:=I.base.there b o e hx
  exact free b o' (neC b o e hx) e1 (I.base.free b o e n hx)
 ·obtain ⟨o',e1⟩:=I.base.there b o e hx
  exact there b o' (neC b o e hx) e1
 ·obtain ⟨m1,e1⟩:=I.base.tbls b ps e
  obtain ⟨m2,e2⟩:=tbls b _ e1
  exact ⟨m1++m2,by rw [e2,Array.append_assoc]⟩
 ·obtain ⟨m,hn,hl⟩:=I.loc
  refine ⟨m,ns m hn,fun i x v e1 e2 e3=>?_⟩
  obtain ⟨u,r,l⟩:=hl i x v e1 e2 e3
  refine ⟨u,r,?_⟩
  rcases l with l | ⟨k,c,e,z⟩
  ·exact .inl l
  ·exact .inr ⟨k,c,e,cellK x c e _ z⟩
 ·obtain ⟨v,z⟩:=I.cell x c e
  exact ⟨v,cellK x c e v z⟩
 ·obtain ⟨m,⟨o,_,_,ho,_⟩,_⟩:=I.loc
  exact free _ o (fun z=>(hch _ z).2.1 rfl) ho I.free
 ·obtain ⟨v,o,ho,hd⟩:=I.cell x c e
  exact free c o (fun z=>(hch c z).2.2.1 x c e rfl) ho (I.freeC x c e)
 ·obtain ⟨e,n,ne,nf,d⟩:=I.pin p hp
  have nch:p.1 ∉ ch:=fun z=>(hch p.1 z).2.2.2 p hp rfl
  exact ⟨keep p.1 p.2 ne nf nch e n,free p.1 p.2 nch e n,ne,nf,d⟩
theorem Inv.un {t':Nat} (I:Inv X pins σ H s) (u:Un X.fs [] H H' s.heap h') (hok:HOk X.prog X.w H' h'):Inv X pins σ H' { s with heap:=h',toks:=t' }:=by
 obtain ⟨m,⟨o,es,ep,ho,r⟩,_⟩:=id I.loc
 obtain ⟨sl,hL⟩:=u.any ho I.free (by simp)
 exact I.step (g':=s.gens) (d':=s.drawn) (ch:=[]) (fun _ z=>nomatch z) (fun b o _ hb _ e n=>u.keep b o e n hb (by simp)) (fun b o _ hb _ e n=>u.slot b o e n hb (by simp)) (fun b o _ e n=>u.free b o e n (by simp)) (fun b o _ e=>u.there b o e (by simp)) u.tups u.frzs u.tbls (fun m' hm=>by
  obtain ⟨o',es',ep',ho',r'⟩:=hm
  rw [ho] at ho'; cases ho'
  exact ⟨_,es',ep',hL,r'⟩) hok I.bare
theorem Inv.call {g':Array GenState} {t':Nat} {d':Drawn} {ch:List Addr} (I:Inv X pins σ H s) (u:Un (frs X.stack) ch H H' s.heap h') (hok:HOk X.prog X.w H' h') (hg:AllBare g')
 (hch:∀ b∈ch,(b∈X.ex∨X.s₀.heap.objs.size≤b)∧b≠X.env.locals∧(∀ x c,X.env.cells.lookup x=some c→c≠b)∧∀ p∈X.pn++pins,p.1≠b) :
 Inv X pins σ H' { s with heap:=h',gens:=g',drawn:=d',toks:=t' }:=by
 obtain ⟨m,⟨o,es,ep,ho,r⟩,_⟩:=id I.loc
 obtain ⟨sl,hL⟩:=u.any ho I.free fun z=>(hch _ z).2.1 rfl
 exact I.step (ch:=ch) hch (fun b o hL hb hc e n=>u.keep b o e n (fun z=>(List.mem_cons.mp (I.stkSub b z)).elim hL hb) hc) (fun b o _ _ hc e n=>u.any e n hc) (fun b o hc e n=>u.free b o e n hc) (fun b o hc e=>u.there b o e hc) u.tups u.frzs u.tbls (fun m' hm=>by
  obtain ⟨o',es',ep',ho',r'⟩:=hm
  rw [ho] at ho'; cases ho'
  exact ⟨_,es',ep',hL,r'⟩) hok hg
theorem Inv.turned {t':Nat} {it:Addr} (I:Inv X pins σ H s) (k:∀ b o,b≠it→s.heap.get? b=some o→h'.get? b=some o) (hn:H it=none) (hL:it≠X.env.locals)
 (h1:it∈X.ex∨X.s₀.heap.objs.size≤it) (h2:∀ x c,X.env.cells.lookup x=some c→c≠it) (h3:∀ p∈X.pn++pins,p.1≠it):Inv X pins σ H { s with heap:=h',toks:=t' }:=by
 have nit:∀ b u,H b=some u→b≠it:=fun b u e z=>by rw [z,hn] at e; cases e
 refine I.step (g':=s.gens) (d':=s.drawn) (ch:=[it]) (fun b hb=>?_) (fun b o _ _ hc e _=>k b o (fun z=>hc (by simp [z])) e) (fun b o _ _ hc e _=>⟨o.slots,k b o (fun z=>hc (by simp [z])) e⟩) (fun _ _ _ _ n=>n)
  (fun b o hc e=>⟨o,k b o (fun z=>hc (by simp [z])) e⟩) (fun _ _ e=>e) (fun _ _ _ e=>e) (fun b ps e=>⟨#[],by rw [e]; simp⟩) (fun m hm=>?_) (fun b u e=>?_) I.bare
 ·have e:b=it:=by simpa using hb
  subst e
  exact ⟨h1,hL,h2,h3⟩
 ·obtain ⟨o,es,ep,ho,r⟩:=hm
  exact ⟨o,es,ep,k _ o (Ne.symm hL) ho,r⟩
 ·refine (I.hok b u e).stay (fun c v hc q=>k c v ?_ q) (fun _ q=>q) fun _ _ q=>q
  rcases hc with z | z
  ·rw [z]; exact nit b u e
  ·exact nit c _ z
theorem Inv.tok (I:Inv X pins σ H s) (t:Nat):Inv X pins σ H { s with toks:=t }:=I.un (h':=s.heap) (t':=t) Un.refl I.hok
theorem Inv.kept {t':Nat} (I:Inv X pins σ H s) (k:∀ b u,s.heap.get? b=some u→h'.get? b=some u):Inv X pins σ H { s with heap:=h',toks:=t' }:=I.un (Un.kept k) (I.hok.kept k)
theorem Inv.laid {a:Addr} {o:HO} {t':Nat} (I:Inv X pins σ H s) (k:∀ b u,s.heap.get? b=some u→h'.get? b=some u) (hp:s.heap.objs.size≤a) (new:aP X.prog X.w (upd H a o) h' a o) :
 Inv X pins σ (upd H a o) { s with heap:=h',toks:=t' }:=I.un (Un.laid k hp (I.hok.fresh hp)) (I.hok.laid k hp new)
theorem Inv.write {x e:Addr} {o:HO} {t':Nat} (I:Inv X pins σ H s) (mu:Mut (H x)) (he:e=x∨H e=some (.own x)) (k:∀ b u,b≠e→s.heap.get? b=some u→h'.get? b=some u) (heo:∃ u,h'.get? e=some u)
 (new:aP X.prog X.w (upd H x o) h' x o):Inv X pins σ (upd H x o) { s with heap:=h',toks:=t' }:=I.un (Un.write mu he k heo) (I.hok.write mu he k heo new)
theorem Inv.weak {σ':List (Option V)} (I:Inv X pins σ H s) (hl : σ'.length=σ.length) (w:∀ (i:Nat) v,σ'[i]? = some (some v)→σ[i]? = some (some v)):Inv X pins σ' H s :=
 ⟨I.ok,I.os,I.bare,I.base,let ⟨m,hn,hl'⟩:=I.loc; ⟨m,hn,fun i x v e1 e2 e3=>hl' i x v e1 (w i v e2) e3⟩,I.cell,I.free,I.freeC,I.pin,I.hok,hl.trans I.len⟩
theorem Inv.pins_of {pins':List 'h'} (I:Inv X pins σ H s) (h:∀ p∈pins',s.heap.get? p.1=some p.2∧H p.1=none∧p.1≠X.env.locals∧p.1 ∉ X.fs∧∀ v,p.2.data≠.cell v):Inv X pins' σ H s :=
 ⟨I.ok,I.os,I.bare,I.base,I.loc,I.cell,I.free,I.freeC,fun p hp=>(List.mem_append.mp hp).elim (fun z=>I.pin p (List.mem_append_left _ z)) (h p),I.hok,I.len⟩
theorem i9 {N:List Str} (hN:N.Nodup) {i j:Nat} {x:Str} (a:N[i]? = some x) (b:N[j]? = some x):i=j:=by
 obtain ⟨h1,e1⟩:=List.getElem?_eq_some_iff.mp a
 obtain ⟨h2,e2⟩:=List.getElem?_eq_some_iff.mp b
 exact (List.getElem_inj hN).mp (e1.trans e2.symm)
theorem jm {M:Model} {A:Around} {E:Value→Shared→Prop} {i:Nat} {x:Str} {v:V} {u:Value} {Q:Unit→Shared→Prop} (I:Inv X pins σ H s) (hN:X.N.Nodup) (hi:X.N[i]? = some x) (hx:Loc X.env.scope x) (r:aT v u)
 (h:∀ s',Inv X pins (σ.set i (some v)) H s'→(∃ a,Heap.SameBut a s.heap s'.heap∧(a=X.env.locals∨X.env.cells.lookup x=some a))→Q () s') (hf:X.fn x=true∨X.env.scope.names.lookup x=some .local:=by first | exact .inl rfl | exact .inr rfl | assumption):wpAny M A (storeName X.env x u) Q E s:=by
 obtain ⟨m,hn,hl⟩:=id I.loc
 have hcls:(X.env.scope.kind == .class||(X.env.scope.kind == .module&&X.env.locals != X.env.globals))=false:=by rw [I.ok.kind]; rfl
 have hiσ:i<σ.length:=by rw [I.len]; exact (List.getElem?_eq_some_iff.mp hi).1
 have cne:=I.cne
 have tracked:∀ {a:Addr} {h':Heap},(∃ o,s.heap.get? a=some o∧H a=none)→Heap.SameBut a s.heap h'→HOk X.prog X.w H h':=fun {a h'} ha hs b ob e=>by
  obtain ⟨_,_,hfree⟩:=ha
  refine (I.hok b ob e).stay (fun c w' hc q=>(hs.2 c ?_).trans q) (fun _ q=>q) fun _ _ q=>q
  rintro rfl
  rcases hc with rfl | hc
  ·rw [hfree] at e; cases e
  ·rw [hfree] at hc; cases hc
 rcases hx with hk | hk
 ·refine wpAny_storeName_local hk hn (fun h' hn' hs=>?_) hcls
  obtain ⟨oL,_,_,hoL,_⟩:=id hn
  refine h _ ⟨I.ok,I.os,I.bare,⟨fun b o e n hb hx=>?_,fun b o e n hb hx=>?_,I.base.free,fun b o e hx=>?_,I.base.tups,I.base.frzs,I.base.tbls⟩,⟨_,hn',fun j y v' e1 e2 e3=>?_⟩,fun y c e=>?_,I.free,I.freeC,fun p hp=>?_,tracked ⟨oL,hoL,I.free⟩ hs,by simpa using I.len⟩ ⟨_,hs,.inl rfl⟩
  ·exact (hs.2 b (Nat.ne_of_lt (Nat.lt_of_lt_of_le (Heap.lt_size e) I.ok.above))).trans (I.base.keep b o e n hb hx)
  ·obtain ⟨sl,e1⟩:=I.base.slot b o e n hb hx
   exact ⟨sl,(hs.2 b (Nat.ne_of_lt (Nat.lt_of_lt_of_le (Heap.lt_size e) I.ok.above))).trans e1⟩
  ·obtain ⟨o',e1⟩:=I.base.there b o e hx
   exact ⟨o',(hs.2 b (Nat.ne_of_lt (Nat.lt_of_lt_of_le (Heap.lt_size e) I.ok.above))).trans e1⟩
  ·by_cases hj:j=i
   ·subst hj
    rw [hi] at e1; cases e1
    rw [List.getElem?_set_self hiσ] at e2
    cases e2
    exact ⟨u,r,.inl ⟨hk,by simp⟩⟩
   ·rw [List.getElem?_set_ne (Ne.symm hj)] at e2
    obtain ⟨u',r',q⟩:=hl j y v' e1 e2 e3
    refine ⟨u',r',?_⟩
    rcases q with ⟨k,e⟩ | ⟨k,c,e,z⟩
    ·refine .inl ⟨k,?_⟩
     have:y≠x:=fun e=>hj (i9 hN e1 (e ▸ hi))
     simp [this,e]
    ·exact .inr ⟨k,c,e,z.sameBut hs (cne y c e)⟩
  ·obtain ⟨w',z⟩:=I.cell y c e
   exact ⟨w',z.sameBut hs (cne y c e)⟩
  ·obtain ⟨e,n,ne,nf,d⟩:=I.pin p hp
   exact ⟨(hs.2 p.1 ne).trans e,n,ne,nf,d⟩
 ·have hfn:X.fn x=true:=by
   rcases hf with z | z
   ·exact z
   ·rw [z] at hk; cases hk
  obtain ⟨c,hc⟩:=I.ok.has x (.inl hk)
  obtain ⟨w',z⟩:=I.cell x c hc
  refine wpAny_storeName_cell I.ok.kind hk hc z (fun h' hc' hs=>?_)
  obtain ⟨oc,hoc,hocd⟩:=id z
  refine h { s with heap:=h' } ⟨I.ok,I.os,I.bare,⟨fun b o e n hb hx=>?_,fun b o e n hb hx=>?_,I.base.free,fun b o e hx=>?_,I.base.tups,I.base.frzs,I.base.tbls⟩,⟨m,hn.sameBut hs (Ne.symm (cne x c hc)),fun j y v' e1 e2 e3=>?_⟩,fun y c' e=>?_,I.free,I.freeC,fun p hp=>?_,tracked ⟨oc,hoc,I.freeC x c hc⟩ hs,by simpa using I.len⟩ ⟨c,hs,.inr hc⟩
  ·exact (hs.2 b (Nat.ne_of_lt (Nat.lt_of_lt_of_le (Heap.lt_size e) (I.ok.cab x c hfn hc)))).trans (I.base.keep b o e n hb hx)
  ·obtain ⟨sl,e1⟩:=I.base.slot b o e n hb hx
   exact ⟨sl,(hs.2 b (Nat.ne_of_lt (Nat.lt_of_lt_of_le (Heap.lt_size e) (I.ok.cab x c hfn hc)))).trans e1⟩
  ·obtain ⟨o',e1⟩:=I.base.there b o e hx
   exact ⟨o',(hs.2 b (Nat.ne_of_lt (Nat.lt_of_lt_of_le (Heap.lt_size e) (I.ok.cab x c hfn hc)))).trans e1⟩
  ·by_cases hj:j=i
   ·subst hj
    rw [hi] at e1; cases e1
    rw [List.getElem?_set_self hiσ] at e2
    cases e2
    exact ⟨u,r,.inr ⟨.inl hk,c,hc,hc'⟩⟩
   ·rw [List.getElem?_set_ne (Ne.symm hj)] at e2
    obtain ⟨u',r',q⟩:=hl j y v' e1 e2 e3
    refine ⟨u',r',?_⟩
    rcases q with q | ⟨k,c',e,z'⟩
    ·exact .inl q
    ·refine .inr ⟨k,c',e,z'.sameBut hs ?_⟩
     rintro rfl
     exact hj (i9 hN e1 (I.ok.inj _ _ _ e hc ▸ hi))
  ·by_cases hcc:c'=c
   ·subst hcc; exact ⟨_,hc'⟩
   ·obtain ⟨w2,z2⟩:=I.cell y c' e
    exact ⟨w2,z2.sameBut hs hcc⟩
  ·obtain ⟨e,n,ne,nf,d⟩:=I.pin p hp
   refine ⟨(hs.2 p.1 ?_).trans e,n,ne,nf,d⟩
   intro q
   rw [q,hoc] at e
   have q':oc=p.2:=Option.some.inj e
   exact d w' (by rw [← q']; exact hocd)
theorem dR {M:Model} {A:Around} {E:Value→Shared→Prop} {i:Nat} {x:Str} {v:V} {u:Value} {Q:Unit→Shared→Prop} (I:Inv X pins σ H s) (hN:X.N.Nodup) (hi:X.N[i]? = some x) (hx:Loc X.env.scope x) (r:aT v u)
 (h:∀ s',Inv X pins (σ.set i (some v)) H s'→Q () s') (hf:X.fn x=true∨X.env.scope.names.lookup x=some .local:=by first | exact .inl rfl | exact .inr rfl | assumption):wpAny M A (storeName X.env x u) Q E s :=
 jm I hN hi hx r (fun s' I' _=>h s' I') hf
theorem Inv.call' {s':Shared} {ch:List Addr} (I:Inv X pins σ H s) (ho:s'.os=s.os) (u:Un (frs X.stack) ch H H' s.heap s'.heap) (hok:HOk X.prog X.w H' s'.heap) (hg:AllBare s'.gens)
 (hch:∀ b∈ch,(b∈X.ex∨X.s₀.heap.objs.size≤b)∧b≠X.env.locals∧(∀ x c,X.env.cells.lookup x=some c→c≠b)∧∀ p∈X.pn++pins,p.1≠b):Inv X pins σ H' s':=by
 obtain ⟨h',g',d',t',o'⟩:=s'
 have e:o'=s.os:=ho
 subst e
 exact I.call (g':=g') (t':=t') (d':=d') u hok hg hch
end
abbrev XK:=Value→Option Addr→Hp→Prop
abbrev St:=List (Option V)
abbrev VK:=V→Hp→Prop
abbrev TE:=St→Hp→VK→Prop
abbrev TT:=St→Hp→(Bool→Hp→Prop)→Prop
abbrev TA:=St→Hp→(List V→Hp→Prop)→Prop
structure Ends where
 nx:St→Hp→Prop
 rt:VK
 bk:St→Hp→Prop:=fun _ _=>False
 ct:St→Hp→Prop:=fun _ _=>False
abbrev TS:=Ends→St→Hp→Prop
def EP (X:Cx) (pins:List 'h') (σ:St) (Q:VK) (u:Value) (s':Shared):Prop:=∃ v H',Inv X pins σ H' s'∧aT v u∧Q v H'
def TP (X:Cx) (pins:List 'h') (σ:St) (Q:Bool→Hp→Prop) (b:Bool) (s':Shared):Prop:=∃ H',Inv X pins σ H' s'∧Q b H'
def AP (X:Cx) (pins:List 'h') (σ:St) (Q:List V→Hp→Prop) (us:List Value) (s':Shared):Prop:=∃ vs H',Inv X pins σ H' s'∧aM vs us∧Q vs H'
def SP (X:Cx) (pins:List 'h') (D:Ends) (f:Flow) (s':Shared):Prop :=
 match f with
 | .next=>∃ σ' H',Inv X pins σ' H' s'∧D.nx σ' H'
 | .brk=>∃ σ' H',Inv X pins σ' H' s'∧D.bk σ' H'
 | .cont=>∃ σ' H',Inv X pins σ' H' s'∧D.ct σ' H'
 | .ret u=>∃ v σ' H',Inv X pins σ' H' s'∧aT v u∧D.rt v H'
structure PE (X:Cx) (e:Expr) (t:TE):Prop where
 go:∀ (pins:List 'h') (s:Shared) (σ:St) (H:Hp) (Q:VK),Inv X pins σ H s→t σ H Q→wpAny 'b' X.A (eval e X.env) (EP X pins σ Q) X.xe s
instance {X:Cx} {e:Expr} {t:TE}:CoeFun (PE X e t) fun _=>∀ (pins:List 'h') (s:Shared) (σ:St) (H:Hp) (Q:VK),Inv X pins σ H s→t σ H Q→wpAny 'b' X.A (eval e X.env) (EP X pins σ Q) X.xe s:=⟨fun h=>h.go⟩
structure PT (X:Cx) (e:Expr) (t:TT):Prop where
 go:∀ (pins:List 'h') (s:Shared) (σ:St) (H:Hp) (Q:Bool→Hp→Prop),Inv X pins σ H s→t σ H Q→wpAny 'b' X.A (isTrue e X.env (eval e X.env)) (TP X pins σ Q) X.xe s
instance {X:Cx} {e:Expr} {t:TT}:CoeFun (PT X e t) fun _=>∀ (pins:List 'h') (s:Shared) (σ:St) (H:Hp) (Q:Bool→Hp→Prop),Inv X pins σ H s→t σ H Q→wpAny 'b' X.A (isTrue e X.env (eval e X.env)) (TP X pins σ Q) X.xe s:=⟨fun h=>h.go⟩
structure PW (X:Cx) (e:Expr) (t:TT):Prop where
 go:∀ (whole:Sem Value) (pins:List 'h') (s:Shared) (σ:St) (H:Hp) (Q:Bool→Hp→Prop),Inv X pins σ H s→t σ H Q→wpAny 'b' X.A (isTrue e X.env whole) (TP X pins σ Q) X.xe s
instance {X:Cx} {e:Expr} {t:TT}:CoeFun (PW X e t) fun _=>∀ (whole:Sem Value) (pins:List 'h') (s:Shared) (σ:St) (H:Hp) (Q:Bool→Hp→Prop),Inv X pins σ H s→t σ H Q→wpAny 'b' X.A (isTrue e X.env whole) (TP X pins σ Q) X.xe s:=⟨fun h=>h.go⟩
theorem PW.pt {X:Cx} {e:Expr} {t:TT} (h:PW X e t):PT X e t:=⟨h.go _⟩
structure PA (X:Cx) (es:List Expr) (t:TA):Prop where
 go:∀ (pos:Pos) (pins:List 'h') (s:Shared) (σ:St) (H:Hp) (Q:List V→Hp→Prop),Inv X pins σ H s→t σ H Q→wpAny 'b' X.A (spliced 'm') (AP X pins σ Q) X.xe s
instance {X:Cx} {es:List Expr} {t:TA}:CoeFun (PA X es t) fun _=>∀ (pos:Pos) (pins:List 'h') (s:Shared) (σ:St) (H:Hp) (Q:List V→Hp→Prop),Inv X pins σ H s→t σ H Q→wpAny 'b' X.A (spliced 'm') (AP X pins σ Q) X.xe s:=⟨fun h=>h.go⟩
structure PS (X:Cx) (st:Stmt) (t:TS):Prop where
 go:∀ (pins:List 'h') (s:Shared) (σ:St) (H:Hp) (D:Ends),Inv X pins σ H s→t D σ H→wpAny 'b' X.A (exec st X.env) (SP X pins D) X.xe s
instance {X:Cx} {st:Stmt} {t:TS}:CoeFun (PS X st t) fun _=>∀ (pins:List 'h') (s:Shared) (σ:St) (H:Hp) (D:Ends),Inv X pins σ H s→t D σ H→wpAny 'b' X.A (exec st X.env) (SP X pins D) X.xe s:=⟨fun h=>h.go⟩
structure PSs (X:Cx) (st:List Stmt) (t:TS):Prop where
 go:∀ (pins:List 'h') (s:Shared) (σ:St) (H:Hp) (D:Ends),Inv X pins σ H s→t D σ H→wpAny 'b' X.A (execs st X.env) (SP X pins D) X.xe s
instance {X:Cx} {st:List Stmt} {t:TS}:CoeFun (PSs X st t) fun _=>∀ (pins:List 'h') (s:Shared) (σ:St) (H:Hp) (D:Ends),Inv X pins σ H s→t D σ H→wpAny 'b' X.A (execs st X.env) (SP X pins D) X.xe s:=⟨fun h=>h.go⟩
theorem thn {α:Type} {t:Sem α} {Q Q' : α→Shared→Prop} {M:Model} {A:Around} {E:Value→Shared→Prop} {s:Shared} (h:wpAny M A t Q E s) (hQ:∀ a s,Q a s→Q' a s):wpAny M A t Q' E s:=wpAny_mono h hQ fun _ _ x=>x
section
variable {X:Cx}
theorem bin {a b:Expr} {ta tb:TE} (ha:PE X a ta) (hb:PE X b tb) {pins:List 'h'} {s:Shared} {σ:St} {H:Hp} {R:V→V→Hp→Prop} (I:Inv X pins σ H s) (h:ta σ H fun x H1=>tb σ H1 fun y H2=>R x y H2)
 {α:Type} {Q : α→Shared→Prop} {f:Value→Value→Sem α}
 (hf:∀ v u s2 x y H2,Inv X pins σ H2 s2→aT x v→aT y u→R x y H2→wpAny 'b' X.A (f v u) Q X.xe s2) :
 wpAny 'b' X.A (eval a X.env) (fun v s₁=>wpAny 'b' X.A (eval b X.env) (fun u s₂=>wpAny 'b' X.A (f v u) Q X.xe s₂) X.xe s₁) X.xe s:=by
 refine thn (ha pins s σ H _ I h) fun v s1 ⟨x,H1,I1,r1,q1⟩=>?_
 refine thn (hb pins s1 σ H1 _ I1 q1) fun u s2 ⟨y,H2,I2,r2,q2⟩=>?_
 exact hf v u s2 x y H2 I2 r1 r2 q2
def tVar (i:Nat):TE:=fun σ H Q=>∃ v,σ[i]? = some (some v)∧Q v H
def tC (v:V):TE:=fun _ H Q=>Q v H
theorem dq {i:Nat} {x:Str} {pos:Pos} (hN:X.N[i]? = some x) (hv:Vis X.env.scope x) (hd:'d'=false:=by decide) (hcd:(x == ("__classdict__":Str))=false:=by decide):PE X (.Name x pos) (tVar i):=by
 (try refine ⟨?_⟩); intro pins s σ H Q I h
 obtain ⟨v,e,h⟩:=h
 obtain ⟨m,hn,hl⟩:=I.loc
 obtain ⟨u,r,l⟩:=hl i x v hN e hv
 have fin:EP X pins σ Q u s:=⟨v,H,I,r,h⟩
 rcases l with ⟨hk,hm⟩ | ⟨hk,c,hc,hcell⟩
 ·exact wpAny_Name (wpAny_loadName_local I.ok.kind hk hn hm fin) hd
 ·rcases hk with hk | hk
  ·exact wpAny_Name (wpAny_loadName_cell I.ok.kind hk hc hcell fin) hd
  ·exact wpAny_Name (wpAny_loadName_free I.ok.kind hk hc hcell fin hcd) hd
theorem jY {i j pos}:PE X (.Constant (.int i) j pos) (tC (.int i)):=⟨fun _ _ _ H _ I h=>wpAny_Constant_int ⟨.int i,H,I.tok _,⟨_,rfl⟩,h⟩⟩
theorem sC {b j pos}:PE X (.Constant (.bool b) j pos) (tC (.bl b)):=⟨fun _ _ _ H _ I h=>Constant_bool ⟨.bl b,H,I,rfl,h⟩⟩
theorem w_ {j pos}:PE X (.Constant .none j pos) (tC .non):=⟨fun _ _ _ H _ I h=>Constant_none ⟨.non,H,I,rfl,h⟩⟩
theorem rJ {x j pos}:PE X (.Constant (.str x) j pos) (tC (.str x)):=⟨fun _ _ _ H _ I h=>Calls.Constant_str ⟨.str x,H,I.tok _,⟨_,rfl⟩,h⟩⟩
def Gl (X:Cx) (x:Str):Prop:=X.env.kindOf x=some .globalImplicit
theorem fb {E:Value→Shared→Prop} {pins:List 'h'} {s:Shared} {σ:St} {H:Hp} {x:Str} {u:Value} {pos:Pos} {Q:Value→Shared→Prop} (I:Inv X pins σ H s) (hg:Gl X x) (hm:X.mg x=some u) (h:Q u s)
 (hd:'d'=false:=by decide):wpAny 'b' X.A (eval (.Name x pos) X.env) Q E s :=
 Calls.Name_function_global I.ok.kind hg (Calls.loadGlobal_global (by rw [I.ok.glob]; exact I.mod.glob.keeps I.bk) hm h) hd
theorem eT {E:Value→Shared→Prop} {pins:List 'h'} {s:Shared} {σ:St} {H:Hp} {x:Str} {u:Value} {pos:Pos} {Q:Value→Shared→Prop} (I:Inv X pins σ H s) (hg:Gl X x) (hm:X.mg x=none) (hv:bootBuiltins x=some u) (h:Q u s)
 (hn:x ≠ "__name__":=by decide) (hd:'d'=false:=by decide):wpAny 'b' X.A (eval (.Name x pos) X.env) Q E s:=by
 obtain ⟨mb,h1,h2⟩:=I.mod.blt
 exact Calls.Name_function_global I.ok.kind hg (Calls.loadGlobal_builtin (by rw [I.ok.glob]; exact I.mod.glob.keeps I.bk) hm (by rw [I.ok.blt]; exact h1.keeps I.bk) ((h2 x hn).trans hv) h) hd
theorem fX {x:Str} {v:V} {u:Value} {pos:Pos} (hg:Gl X x) (hm:X.mg x=some u) (r:aT v u) (hd:'d'=false:=by decide):PE X (.Name x pos) (tC v):=⟨fun _ _ _ H _ I h=>fb I hg hm ⟨v,H,I,r,h⟩ hd⟩
theorem bX {x:Str} {v:V} {u:Value} {pos:Pos} (hg:Gl X x) (hm:X.mg x=none) (hv:bootBuiltins x=some u) (r:aT v u) (hn:x ≠ "__name__":=by decide) (hd:'d'=false:=by decide):PE X (.Name x pos) (tC v):=⟨fun _ _ _ H _ I h=>eT I hg hm hv ⟨v,H,I,r,h⟩ hn hd⟩
variable {a b:Expr} {ta tb:TE} {pos:Pos}
def tB (t:TE):TT:=fun σ H Q=>t σ H fun x H1=>∃ c,x = .bl c∧Q c H1
theorem wa {e:Expr} {t:TE} (h:PE X e t) (he:∀ whole,isTrue e X.env whole=(do let v ← whole; standAt e.pos; holding [v] (truthy v)):=by intro _; rfl):PT X e (tB t):=by
 (try refine ⟨?_⟩); intro pins s σ H Q I hw
 refine isTrue_plain (thn (h pins s σ H _ I hw) fun v s1 ⟨x,H1,I1,r1,q1⟩=>?_) (he _)
 obtain ⟨d,rfl,q⟩:=q1
 cases r1
 exact wpAny_truthy_bool ⟨H1,I1,q⟩
variable {tA tB':TT} {rest:List Expr}
def tAnd (t u:TT):TT:=fun σ H Q=>t σ H fun c H1=>if c=true then u σ H1 Q else Q false H1
def tOr (t u:TT):TT:=fun σ H Q=>t σ H fun c H1=>if c=true then Q true H1 else u σ H1 Q
def tNot (t:TT):TT:=fun σ H Q=>t σ H fun c H1=>Q (!c) H1
theorem tT (ha:PT X a tA):PW X (.BoolOp .And [a] pos) tA:=by
 (try refine ⟨?_⟩); intro wh pins s σ H Q I h
 refine isTrue_and (thn (ha pins s σ H Q I h) fun c s1 e=>?_)
 cases c with
 | true=>exact isTrue_and_nil e
 | false=>exact e
theorem yc (ha:PT X a tA):PW X (.BoolOp .Or [a] pos) tA:=by
 (try refine ⟨?_⟩); intro wh pins s σ H Q I h
 refine isTrue_or (thn (ha pins s σ H Q I h) fun c s1 e=>?_)
 cases c with
 | false=>exact isTrue_or_nil e
 | true=>exact e
theorem x9 (ha:PT X a tA) (hb:PW X (.BoolOp .And (b :: rest) pos) tB'):PW X (.BoolOp .And (a :: b :: rest) pos) (tAnd tA tB'):=by
 (try refine ⟨?_⟩); intro wh pins s σ H Q I h
 refine isTrue_and (thn (ha pins s σ H _ I h) fun c s1 ⟨H1,I1,q1⟩=>?_)
 cases c with
 | true=>exact hb wh pins s1 σ H1 Q I1 q1
 | false=>exact ⟨H1,I1,q1⟩
theorem pw_or (ha:PT X a tA) (hb:PW X (.BoolOp .Or (b :: rest) pos) tB'):PW X (.BoolOp .Or (a :: b :: rest) pos) (tOr tA tB'):=by
 (try refine ⟨?_⟩); intro wh pins s σ H Q I h
 refine isTrue_or (thn (ha pins s σ H _ I h) fun c s1 ⟨H1,I1,q1⟩=>?_)
 cases c with
 | true=>exact ⟨H1,I1,q1⟩
 | false=>exact hb wh pins s1 σ H1 Q I1 q1
theorem wf (ha:PT X a tA):PT X (.UnaryOp .Not a pos) (tNot tA):=by
 (try refine ⟨?_⟩); intro pins s σ H Q I h
 exact isTrue_not (ha pins s σ H (fun c H1=>Q (!c) H1) I h)
def tAndV (ta tb:TE):TE:=fun σ H Q=>ta σ H fun x H1=>∃ c,x = .bl c∧if c=true then tb σ H1 Q else Q (.bl false) H1
def tNotV (ta:TE):TE:=fun σ H Q=>ta σ H fun x H1=>∃ c,x = .bl c∧Q (.bl (!c)) H1
theorem wQ {op} {t:TE} (h:PE X a t):PE X (.BoolOp op [a] pos) t:=⟨fun pins s σ H Q I hw=>BoolOp_one (h pins s σ H Q I hw)⟩
theorem wE (ha:PE X a ta) (hb:PE X (.BoolOp .And (b :: rest) pos) tb):PE X (.BoolOp .And (a :: b :: rest) pos) (tAndV ta tb):=by
 (try refine ⟨?_⟩); intro pins s σ H Q I h
 refine BoolOp_and (thn (ha pins s σ H _ I h) fun v s1 ⟨x,H1,I1,r1,q1⟩=>?_)
 obtain ⟨c,rfl,q1⟩:=q1
 cases r1
 refine wpAny_truthy_bool ?_
 cases c with
 | true=>exact hb pins s1 σ H1 Q I1 q1
 | false=>exact ⟨.bl false,H1,I1,rfl,q1⟩
theorem xB (ha:PE X a ta):PE X (.UnaryOp .Not a pos) (tNotV ta):=by
 (try refine ⟨?_⟩); intro pins s σ H Q I h
 refine UnaryOp_ (thn (ha pins s σ H _ I h) fun v s1 ⟨x,H1,I1,r1,q1⟩=>?_)
 obtain ⟨c,rfl,q1⟩:=q1
 cases r1
 exact not_of (wpAny_truthy_bool ⟨.bl (!c),H1,I1,rfl,q1⟩)
def tIf (t:TT) (ta tb:TE):TE:=fun σ H Q=>t σ H fun c H1=>if c=true then ta σ H1 Q else tb σ H1 Q
theorem rp {c:Expr} (hc:PT X c tA) (ha:PE X a ta) (hb:PE X b tb):PE X (.IfExp c a b pos) (tIf tA ta tb):=by
 (try refine ⟨?_⟩); intro pins s σ H Q I h
 refine wpAny_IfExp (thn (hc pins s σ H _ I h) fun d s1 ⟨H1,I1,q1⟩=>?_)
 cases d with
 | true=>exact ha pins s1 σ H1 Q I1 q1
 | false=>exact hb pins s1 σ H1 Q I1 q1
end
def SqL (K:PySem.W.Frag) (H:Hp) (a:Addr) (xs:List V):Prop :=
 Rd H a 'p' ∨
  ∃ (o:Obj) (its:Array Value) (n:Nat),K.lookup a=some o∧o.cls = .type "list" ∧ o.dict=none∧o.data = .seq its n∧its.size≤sizeLine∧aM xs its.toList
def SqT (K:PySem.W.Frag) (H:Hp) (a:Addr) (xs:List V):Prop :=
 Rd H a (.tup xs) ∨
  ∃ (o:Obj) (its:Array Value) (n:Nat),K.lookup a=some o∧o.cls = .type "tuple" ∧ o.data = .seq its n∧its.size≤sizeLine∧aM xs its.toList
def absV:Value→Option V
 | .none=>some .non
 | .bool b=>some (.bl b)
 | .int i _=>some (.int i)
 | .str x _=>some (.str x)
 | .bytes b _=>some (.byt b)
 | .float b _=>some (.flt b)
 | .ref a=>some (.ref a)
 | .type n=>some (.ty n)
 | _=>none
theorem aT.abs {x:V} {u:Value} (r:aT x u):absV u=some x:=by
 cases x with
 | non=>cases r; rfl
 | bl _=>cases r; rfl
 | int _=>obtain ⟨t,rfl⟩:=r; rfl
 | str _=>obtain ⟨t,rfl⟩:=r; rfl
 | byt _=>obtain ⟨t,rfl⟩:=r; rfl
 | flt _=>obtain ⟨t,rfl⟩:=r; rfl
 | ref _=>cases r; rfl
 | ty _=>cases r; rfl
theorem aT.inj {x y:V} {u:Value} (r:aT x u) (q:aT y u):x=y:=Option.some.inj (r.abs.symm.trans q.abs)
theorem aM.inj:∀ {xs ys:List V} {us:List Value},aM xs us→aM ys us→xs=ys
 | _,_,_,.nil,.nil=>rfl
 | _,_,_,.cons r t,.cons r' t'=>by rw [r.inj r',aM.inj t t']
section
variable {X:Cx} {pins:List (Addr×Obj)} {σ:St} {H:Hp} {s:Shared} {a:Addr} {xs ys:List V}
theorem SqL.of {K:PySem.W.Frag} (h:H a=some 'p'):SqL K H a xs:=.inl (.inl h)
theorem SqT.of {K:PySem.W.Frag} (h:H a=some (.tup xs)):SqT K H a xs:=.inl (.inl h)
theorem Inv.list (I:Inv X pins σ H s) (h:SqL X.K H a xs):∃ its:List Value,aM xs its∧PlainL s.heap a its.toArray∧xs.length≤sizeLine:=by
 rcases h with h | ⟨o,its,n,hk,hc,hd,hs,hz,r⟩
 ·obtain ⟨z,its,n,r,e⟩:=h.ok I.hok
  exact ⟨its,r,⟨_,n,e,rfl,rfl,rfl⟩,z⟩
 ·refine ⟨its.toList,r,⟨o,n,I.kIn a o hk,hc,hd,by simpa using hs⟩,?_⟩
  have e:=r.length
  simp only [Array.length_toList] at e
  omega
theorem Inv.tuple (I:Inv X pins σ H s) (h:SqT X.K H a xs):∃ its:List Value,aM xs its∧IsTup s.heap a its.toArray∧xs.length≤sizeLine:=by
 rcases h with h | ⟨o,its,n,hk,hc,hs,hz,r⟩
 ·obtain ⟨z,its,r,p⟩:=h.ok I.hok
  exact ⟨its,r,p,z⟩
 ·refine ⟨its.toList,r,⟨o,I.kIn a o hk,hc,n,by simpa using hs⟩,?_⟩
  have e:=r.length
  simp only [Array.length_toList] at e
  omega
theorem Inv.list_inj (I:Inv X pins σ H s) (h:SqL X.K H a xs) (h':SqL X.K H a ys):xs=ys:=by
 obtain ⟨its,r,⟨o,n,e,_,_,d⟩,_⟩:=I.list h
 obtain ⟨its',r',⟨o',n',e',_,_,d'⟩,_⟩:=I.list h'
 rw [e] at e'; cases e'
 rw [d] at d'
 injection d' with d1 _
 have:its=its':=by simpa using congrArg Array.toList d1
 subst this
 exact r.inj r'
end
abbrev Cx.wish (X:Cx) (E:Value→Shared→Prop):Cx:={ X with xe:=E }
abbrev Cx.nox (X:Cx):Cx:=X.wish fun _ _=>False
theorem Cx.Ok.wish {X:Cx} (ok:X.Ok) (E:Value→Shared→Prop):(X.wish E).Ok :=
 ⟨ok.mod,ok.kind,ok.glob,ok.blt,ok.above,ok.inj,ok.has,ok.cab,ok.hd,ok.frames,ok.stk,ok.exf,ok.bs,ok.bsz,ok.noex,ok.exfs,ok.funs,ok.frf⟩
theorem Cx.Ok.unwish {X:Cx} {E:Value→Shared→Prop} (ok:(X.wish E).Ok):X.Ok :=
 ⟨ok.mod,ok.kind,ok.glob,ok.blt,ok.above,ok.inj,ok.has,ok.cab,ok.hd,ok.frames,ok.stk,ok.exf,ok.bs,ok.bsz,ok.noex,ok.exfs,ok.funs,ok.frf⟩
section
variable {X:Cx} {pins:List (Addr×Obj)} {σ:St} {H:Hp} {s:Shared} {E:Value→Shared→Prop}
theorem Inv.wish (I:Inv X pins σ H s) (E:Value→Shared→Prop):Inv (X.wish E) pins σ H s:=⟨I.ok.wish E,I.os,I.bare,I.base,I.loc,I.cell,I.free,I.freeC,I.pin,I.hok,I.len⟩
theorem Inv.unwish (I:Inv (X.wish E) pins σ H s):Inv X pins σ H s:=⟨I.ok.unwish,I.os,I.bare,I.base,I.loc,I.cell,I.free,I.freeC,I.pin,I.hok,I.len⟩
theorem SP.unwish {D:Ends} {f:Flow} {s':Shared} (h:SP (X.wish E) pins D f s'):SP X pins D f s':=by
 cases f with
 | next=>obtain ⟨σ',H',I,q⟩:=h; exact ⟨σ',H',I.unwish,q⟩
 | brk=>obtain ⟨σ',H',I,q⟩:=h; exact ⟨σ',H',I.unwish,q⟩
 | cont=>obtain ⟨σ',H',I,q⟩:=h; exact ⟨σ',H',I.unwish,q⟩
 | ret u=>obtain ⟨v,σ',H',I,r,q⟩:=h; exact ⟨v,σ',H',I.unwish,r,q⟩
theorem PSs.nox {st:List Stmt} {t:TS} (h:PSs X.nox st t):PSs X st t:=⟨fun pins s σ H D I hw =>
 wpAny_mono (h pins s σ H D (I.wish _) hw) (fun _ _ q=>q.unwish) fun _ _ z=>False.elim z⟩
end
section
variable {X:Cx} {st:Stmt} {rest:List Stmt} {t u:TS} {e:Expr} {te:TE} {pos:Pos}
def tNext:TS:=fun D σ H=>D.nx σ H
def tSeq (t u:TS):TS:=fun D σ H=>t { D with nx:=u D } σ H
theorem jV:PSs X [] tNext:=⟨fun _ _ σ H _ I h=>wpAny_execs_nil ⟨σ,H,I,h⟩⟩
theorem cx (h1:PS X st t) (h2:PSs X rest u):PSs X (st :: rest) (tSeq t u):=by
 (try refine ⟨?_⟩); intro pins s σ H D I h
 refine wpAny_execs_cons (thn (h1 pins s σ H { D with nx:=u D } I h) fun f s1 q=>?_)
 cases f with
 | next =>
  obtain ⟨σ',H',I',q⟩:=q
  exact h2 pins s1 σ' H' D I' q
 | ret v=>exact q
 | brk=>exact q
 | cont=>exact q
theorem ij (h1:PS X st t):PSs X [st] t:=by
 (try refine ⟨?_⟩); intro pins s σ H D I h
 refine wpAny_execs_cons (thn (h1 pins s σ H D I h) fun f s1 q=>?_)
 cases f with
 | next=>exact wpAny_execs_nil q
 | ret v=>exact q
 | brk=>exact q
 | cont=>exact q
theorem Inv.quiet {pins:List 'h'} {σ:St} {H:Hp} {s:Shared} (I:Inv X pins σ H s):interactive X.env=false:=by simp [interactive,I.ok.kind]
def vE (te:TE):TS:=fun D σ H=>te σ H fun _ H1=>D.nx σ H1
theorem d4 (he:PE X e te) (hs:swapsWith e none pos.line X.env=pure false:=by rfl):PS X (.Expr e pos) (vE te):=by
 (try refine ⟨?_⟩); intro pins s σ H D I h
 exact wpAny_Expr_any (thn (he pins s σ H _ I h) fun v s1 ⟨x,H1,I1,r1,q1⟩=>⟨σ,H1,I1,q1⟩) I.quiet hs
def tRet (te:TE):TS:=fun D σ H=>te σ H D.rt
theorem mG (he:PE X e te):PS X (.Return (some e) pos) (tRet te):=by
 (try refine ⟨?_⟩); intro pins s σ H D I h
 exact wpAny_Return_some (thn (he pins s σ H _ I h) fun v s1 ⟨x,H1,I1,r1,q1⟩=>⟨x,σ,H1,I1,r1,q1⟩)
def tIfS (c:TT) (t u:TS):TS:=fun D σ H=>c σ H fun b H1=>if b=true then t D σ H1 else u D σ H1
theorem vi {c:Expr} {a b:List Stmt} {tc:TT} (hc:PT X c tc) (ha:PSs X a t) (hb:PSs X b u):PS X (.If c a b pos) (tIfS tc t u):=by
 (try refine ⟨?_⟩); intro pins s σ H D I h
 refine wpAny_If (thn (hc pins s σ H _ I h) fun d s1 ⟨H1,I1,q1⟩=>?_)
 cases d with
 | true=>exact ha pins s1 σ H1 D I1 q1
 | false=>exact hb pins s1 σ H1 D I1 q1
def yj:TS:=fun _ _ _=>False
theorem tq:PS X st yj:=⟨fun _ _ _ _ _ _ h=>h.elim⟩
end
abbrev TG:=V→St→Hp→(St→Hp→Prop)→Prop
abbrev TGs:=List V→St→Hp→(St→Hp→Prop)→Prop
structure PG (X:Cx) (target:Expr) (t:TG):Prop where
 go:∀ (pins:List 'h') (s:Shared) (σ:St) (H:Hp) (v:V) (u:Value) (Q:St→Hp→Prop),Inv X pins σ H s→aT v u→t v σ H Q →
  wpAny 'b' X.A (assign target X.env u) (fun _ s'=>∃ σ' H',Inv X pins σ' H' s'∧Q σ' H') X.xe s
instance {X:Cx} {target:Expr} {t:TG}:CoeFun (PG X target t) fun _=>∀ (pins:List 'h') (s:Shared) (σ:St) (H:Hp) (v:V) (u:Value) (Q:St→Hp→Prop),Inv X pins σ H s→aT v u→t v σ H Q →
 wpAny 'b' X.A (assign target X.env u) (fun _ s'=>∃ σ' H',Inv X pins σ' H' s'∧Q σ' H') X.xe s:=⟨fun h=>h.go⟩
structure PGs (X:Cx) (ts:List Expr) (t:TGs):Prop where
 go:∀ (pins:List 'h') (s:Shared) (σ:St) (H:Hp) (vs:List V) (us:List Value) (Q:St→Hp→Prop),Inv X pins σ H s→aM vs us→t vs σ H Q →
  wpAny 'b' X.A (assignInOrder ((assignEach ts X.env).map (·.2)) us) (fun _ s'=>∃ σ' H',Inv X pins σ' H' s'∧Q σ' H') X.xe s
instance {X:Cx} {ts:List Expr} {t:TGs}:CoeFun (PGs X ts t) fun _=>∀ (pins:List 'h') (s:Shared) (σ:St) (H:Hp) (vs:List V) (us:List Value) (Q:St→Hp→Prop),Inv X pins σ H s→aM vs us→t vs σ H Q →
 wpAny 'b' X.A (assignInOrder ((assignEach ts X.env).map (·.2)) us) (fun _ s'=>∃ σ' H',Inv X pins σ' H' s'∧Q σ' H') X.xe s:=⟨fun h=>h.go⟩
abbrev TSet:=V→V→V→Hp→(Hp→Prop)→Prop
def PSet (X:Cx) (t:TSet):Prop :=
 ∀ (pins:List 'h') (s:Shared) (σ:St) (H:Hp) (o i v:V) (ov iv u:Value) (Q:Hp→Prop),Inv X pins σ H s→aT o ov→aT i iv→aT v u→t o i v H Q →
  wpAny 'b' X.A (setItem ov iv u) (fun _ s'=>∃ H',Inv X pins σ H' s'∧Q H') X.xe s
abbrev TIp:=V→V→Hp→VK→Prop
def PIp (X:Cx) (op:Operator) (t:TIp):Prop :=
 ∀ (pins:List 'h') (s:Shared) (σ:St) (H:Hp) (x y:V) (v u:Value) (Q:VK),Inv X pins σ H s→aT x v→aT y u→t x y H Q →
  wpAny 'b' X.A (inplaceOp op v u) (EP X pins σ Q) X.xe s
section
variable {X:Cx} {pos:Pos}
def hV (i:Nat):TG:=fun v σ H Q=>Q (σ.set i (some v)) H
theorem bA {i:Nat} {x:Str} (hN:X.N.Nodup) (hi:X.N[i]? = some x) (hx:Loc X.env.scope x) (hf:X.fn x=true∨X.env.scope.names.lookup x=some .local:=by first | exact .inl rfl | exact .inr rfl | assumption):PG X (.Name x pos) (hV i):=by
 (try refine ⟨?_⟩); intro pins s σ H v u Q I r h
 exact wpAny_assign_Name (dR I hN hi hx r (fun s' I'=>⟨_,H,I',h⟩) hf)
def gNil:TGs:=fun vs σ H Q=>vs=[]∧Q σ H
def vz (t:TG) (u:TGs):TGs:=fun vs σ H Q=>∃ v r,vs=v :: r∧t v σ H fun σ' H'=>u r σ' H' Q
theorem iq:PGs X [] gNil:=by
 (try refine ⟨?_⟩); intro pins s σ H vs us Q I r h
 obtain ⟨e,h⟩:=h
 subst e
 cases r
 exact assignInOrder_nil ⟨σ,H,I,h⟩
theorem c9 {e:Expr} {es:List Expr} {t:TG} {u:TGs} (h1:PG X e t) (h2:PGs X es u)
 (hs:(assignEach (e :: es) X.env).map (·.2)=assign e X.env :: (assignEach es X.env).map (·.2):=by rfl):PGs X (e :: es) (vz t u):=by
 (try refine ⟨?_⟩); intro pins s σ H vs us Q I r h
 obtain ⟨v,vr,e1,h⟩:=h
 subst e1
 cases r with
 | cons r rr =>
  rw [hs]
  refine assignInOrder_cons (thn (h1 pins s σ H _ _ _ I r h) fun _ s1 ⟨σ1,H1,I1,q1⟩=>?_)
  exact h2 pins s1 σ1 H1 _ _ Q I1 rr q1
def gTup (K:PySem.W.Frag) (n:Nat) (t:TGs):TG:=fun v σ H Q=>∃ a xs,v = .ref a∧SqT K H a xs∧xs.length=n∧t xs σ H Q
theorem jU {es:List Expr} {k:Nat} {t:TGs} {n:Nat} (hc:X.calm=true) (h:PGs X es t)
 (hn:(assignEach es X.env).length=n:=by rfl) (hst:(assignEach es X.env).findIdx? (·.1)=none:=by rfl):PG X (.Tuple es k pos) (gTup X.K n t):=by
 (try refine ⟨?_⟩); intro pins s σ H v u Q I r hw
 obtain ⟨a,xs,e1,hq,hl,hw⟩:=hw
 subst e1
 cases r
 obtain ⟨its,rv,ht,hz⟩:=I.tuple hq
 refine assign_Tuple_tuple (I.ok.hd hc) ht (by simp [hn,← hl,rv.length]) hst fun h' hx=>?_
 have I1:Inv X pins σ H { s with heap:=h' }:=I.kept (t':=s.toks) fun b o e=>hx b o (Nat.ne_of_lt (Heap.lt_size e)) e
 exact h pins _ σ H xs _ Q I1 (by simpa using rv) hw
def gSub (to ti:TE) (t:TSet):TG:=fun v σ H Q=>to σ H fun o H1=>ti σ H1 fun i H2=>t o i v H2 fun H3=>Q σ H3
theorem wR {o i:Expr} {to ti:TE} {t:TSet} (ho:PE X o to) (hi:PE X i ti) (hs:PSet X t)
 (ha:∀ v,assign (.Subscript o i pos) X.env v=(do
  let ov ← holding [v] (eval o X.env)
  let iv ← holding [v,ov] (eval i X.env)
  standAt pos
  holding [v,ov,iv] (setItem ov iv v)
  release [v,ov,iv] []):=by intro _; rfl):PG X (.Subscript o i pos) (gSub to ti t):=by
 (try refine ⟨?_⟩); intro pins s σ H v u Q I r h
 rw [ha]
 refine wpAny_bind (wpAny_holding (thn (ho pins s σ H _ I h) fun ov s1 ⟨x,H1,I1,r1,q1⟩=>?_))
 refine wpAny_bind (wpAny_holding (thn (hi pins s1 σ H1 _ I1 q1) fun iv s2 ⟨y,H2,I2,r2,q2⟩=>?_))
 refine wpAny_bind (wpAny_standAt (wpAny_bind (wpAny_holding (thn (hs pins s2 σ H2 x y v ov iv u _ I2 r1 r2 r q2) fun _ s3 ⟨H3,I3,q3⟩=>?_))))
 exact wpAny_release ⟨σ,H3,I3,q3⟩
def p_ (te:TE) (g:TG):TS:=fun D σ H=>te σ H fun x H1=>g x σ H1 D.nx
theorem mO {tg e:Expr} {te:TE} {g:TG} (he:PE X e te) (hg:PG X tg g) (hs:swapsWithSole [tg] e pos.line X.env=pure false:=by rfl) (hw:swappedStores [tg] e X.env=pure none:=by rfl)
 (h1:(assignEach [tg] X.env).map (·.2)=[assign tg X.env]:=by rfl):PS X (.Assign [tg] e pos) (p_ te g):=by
 (try refine ⟨?_⟩); intro pins s σ H D I h
 refine wpAny_Assign_stores (thn (he pins s σ H _ I h) fun v s1 ⟨x,H1,I1,r1,q1⟩=>?_) hs hw
 rw [h1]
 exact thn (hg pins s1 σ H1 x v _ I1 r1 q1) fun _ s2 q=>q
theorem i5 {i:Nat} {x:Str} {e:Expr} {te:TE} {pos':Pos} (hN:X.N.Nodup) (hi:X.N[i]? = some x) (hx:Loc X.env.scope x) (he:PE X e te) (hs:swapsWith e (some (.Name x pos')) pos.line X.env=pure false:=by rfl) (hf:X.fn x=true∨X.env.scope.names.lookup x=some .local:=by first | exact .inl rfl | exact .inr rfl | assumption) :
 PS X (.Assign [.Name x pos'] e pos) (p_ te (hV i)):=by
 (try refine ⟨?_⟩); intro pins s σ H D I h
 refine wpAny_Assign_Name (thn (he pins s σ H _ I h) fun v s1 ⟨y,H1,I1,r1,q1⟩=>?_) hs
 exact dR I1 hN hi hx r1 (fun s2 I2=>⟨_,H1,I2,q1⟩) hf
def tPar (i j:Nat) (ta:TA):TS:=fun D σ H=>ta σ H fun vs H1=>∃ v w,vs=[v,w]∧D.nx ((σ.set i (some v)).set j (some w)) H1
theorem yt {i j:Nat} {x y:Str} {a b:Expr} {ta:TA} {px py pt:Pos} {kt k2 pt2} (hc:X.calm=true) (hN:X.N.Nodup) (hi:X.N[i]? = some x) (hj:X.N[j]? = some y) (hij:i≠j)
 (hx:X.env.scope.names.lookup x=some .local) (hy:X.env.scope.names.lookup y=some .local) (ha:PA X [a,b] ta)
 (hw:swappedStores [.Tuple [.Name x px,.Name y py] kt pt] (.Tuple [a,b] k2 pt2) X.env=pure (some [x,y]))
 (hs:swapsWithSole [.Tuple [.Name x px,.Name y py] kt pt] (.Tuple [a,b] k2 pt2) pos.line X.env=pure false:=by rfl) :
 PS X (.Assign [.Tuple [.Name x px,.Name y py] kt pt] (.Tuple [a,b] k2 pt2) pos) (tPar i j ta):=by
 (try refine ⟨?_⟩); intro pins s σ H D I h
 rw [exec_Assign_arm]
 refine wpAny_bind (wpAny_standAt ?_)
 rw [hs]
 refine wpAny_bind (wpAny_pure ?_)
 rw [if_neg 'k']
 refine wpAny_bind (Tuple_ (thn (ha _ pins s σ H _ I h) fun us s1 ⟨vs,H1,I1,r1,q1⟩=>?_))
 obtain ⟨v,w,e1,q1⟩:=q1
 subst e1
 obtain ⟨u1,u2,rfl,rv,rw'⟩:∃ u1 u2,us=[u1,u2]∧aT v u1∧aT w u2:=by
  cases r1 with
  | cons p q =>
   cases q with
   | cons p' q' =>
    cases q'
    exact ⟨_,_,rfl,p,p'⟩
 refine wpAny_newObj_type ?_ (by show 2≤sizeLine; decide)
 have I2:Inv X pins σ H1 { s1 with heap:=s1.heap.push { cls:=.type "tuple",data:=.seq [u1,u2].toArray } }:=I1.kept (t':=s1.toks) fun b o e=>Heap.get?_push_of_some _ e
 rw [hw]
 refine wpAny_bind (wpAny_pure ?_)
 show wpAny 'b' X.A (do rule "assign.swapped-stores"; let items ← unpackItems (.ref s1.heap.objs.size) 2 none; assignInOrder [fun v=>bindName X.env y v,fun v=>bindName X.env x v] items.reverse; pure Flow.next) _ _ _
 refine wpAny_bind (wpAny_rule (wpAny_bind (unpackItems_tuple (items:=#[u1,u2]) (I.ok.hd hc) (IsTup.new s1.heap _) fun h' hx'=>?_)))
 have I3:=I2.kept (h':=h') (t':=s1.toks) fun b o e=>hx' b o (Nat.ne_of_lt (Heap.lt_size e)) e
 show wpAny _ _ (assignInOrder [fun v=>bindName X.env y v,fun v=>bindName X.env x v] [u2,u1] >>= fun _=>pure Flow.next) _ _ _
 refine wpAny_bind (assignInOrder_cons (wpAny_bindName (dR I3 hN hj (.inl hy) rw' (fun s2 I4=>?_) (.inr hy))))
 refine assignInOrder_cons (wpAny_bindName (dR I4 hN hi (.inl hx) rv (fun s3 I5=>assignInOrder_nil (wpAny_pure ?_)) (.inr hx)))
 rw [List.set_comm _ _ (Ne.symm hij)] at I5
 exact ⟨_,H1,I5,q1⟩
def tAug (i:Nat) (te:TE) (ti:TIp):TS:=fun D σ H=>∃ x,σ[i]? = some (some x)∧te σ H fun y H1=>ti x y H1 fun z H2=>D.nx (σ.set i (some z)) H2
theorem xq {i:Nat} {x:Str} {e:Expr} {te:TE} {op:Operator} {ti:TIp} {pos':Pos} (hN:X.N.Nodup) (hi:X.N[i]? = some x) (hx:Loc X.env.scope x) (he:PE X e te) (ho:PIp X op ti) (hf:X.fn x=true∨X.env.scope.names.lookup x=some .local:=by first | exact .inl rfl | exact .inr rfl | assumption) :
 PS X (.AugAssign (.Name x pos') op e pos) (tAug i te ti):=by
 (try refine ⟨?_⟩); intro pins s σ H D I h
 obtain ⟨v,e1,h⟩:=h
 obtain ⟨m,hn,hl⟩:=I.loc
 have vis:Vis X.env.scope x:=by rcases hx with k | k; exact .inl k; exact .inr (.inl k)
 obtain ⟨u,r,l⟩:=hl i x v hi e1 vis
 refine wpAny_AugAssign_Name ?_
 have go:wpAny 'b' X.A (eval e X.env) (fun w s₂=>wpAny 'b' X.A (inplaceOp op u w) (fun r s₃=>wpAny 'b' X.A (storeName X.env x r) (fun _=>SP X pins D .next) X.xe s₃) X.xe s₂) X.xe s:=by
  refine thn (he pins s σ H _ I h) fun w s1 ⟨y,H1,I1,r1,q1⟩=>?_
  refine thn (ho pins s1 σ H1 v y u w _ I1 r r1 q1) fun z s2 ⟨zv,H2,I2,r2,q2⟩=>?_
  exact dR I2 hN hi hx r2 (fun s3 I3=>⟨_,H2,I3,q2⟩) hf
 rcases l with ⟨hk,hm⟩ | ⟨hk,c,hc,hcell⟩
 ·exact wpAny_loadName_local I.ok.kind hk hn hm go
 ·rcases hk with hk | hk
  ·exact wpAny_loadName_cell I.ok.kind hk hc hcell go
  ·rcases hx with k | k
   ·have:X.env.scope.names.lookup x=some .free:=hk
    rw [k] at this; cases this
   ·have:X.env.scope.names.lookup x=some .free:=hk
    rw [k] at this; cases this
def ipI (f:Int→Int→Int):TIp:=fun x y H Q=>∃ i j,x = .int i∧y = .int j∧Q (.int (f i j)) H
theorem xO:PIp X .Add (ipI fun i j=>i + j):=by
 (try refine ⟨?_⟩); intro pins s σ H x y v u Q I r1 r2 h
 obtain ⟨i,j,e1,e2,q⟩:=h
 subst e1; subst e2
 obtain ⟨t,rfl⟩:=r1
 obtain ⟨t',rfl⟩:=r2
 exact iadd_int ⟨.int _,H,I.tok _,⟨_,rfl⟩,q⟩
end
section
variable {X:Cx} {pos:Pos}
def wl (c:TT) (tb:TS):TS:=fun D σ H=>∃ W:Nat→St→Hp→Prop,(∃ m,W m σ H)∧∀ m σ H,W m σ H →
 c σ H fun b H1=>if b=true then ∃ N:St→Hp→Prop,(∀ σ' H',N σ' H'→∃ m',m'<m∧W m' σ' H')∧tb { D with nx:=N,ct:=N,bk:=D.nx } σ H1 else D.nx σ H1
theorem qg {c:Expr} {body:List Stmt} {tc:TT} {tb:TS} (hp:PassesOwn 'b' X.A X.env X.xe) (hc:PT X c tc) (hb:PSs X body tb):PS X (.While c body [] pos) (wl tc tb):=by
 (try refine ⟨?_⟩); intro pins s σ H D I h
 obtain ⟨W,⟨m0,w0⟩,turn⟩:=h
 refine wpAny_While (codeAny_whileLoop (fun n s'=>∃ σ' H',Inv X pins σ' H' s'∧W n σ' H') ?_ m0 ⟨σ,H,I,w0⟩)
 rintro n s1 ⟨σ1,H1,I1,w1⟩
 refine wpAny_passesOwn hp (thn (hc pins s1 σ1 H1 _ I1 (turn n σ1 H1 w1)) fun b s2 ⟨H2,I2,q2⟩=>?_)
 cases b with
 | true =>
  obtain ⟨N,hN,q2⟩:=q2
  rw [if_pos rfl]
  refine wpAny_passesOwn hp (thn (hb pins s2 σ1 H2 _ I2 q2) fun f s3 q3=>?_)
  cases f with
  | next =>
   obtain ⟨σ3,H3,I3,n3⟩:=q3
   obtain ⟨m',hm,w3⟩:=hN σ3 H3 n3
   exact ⟨m',hm,σ3,H3,I3,w3⟩
  | cont =>
   obtain ⟨σ3,H3,I3,n3⟩:=q3
   obtain ⟨m',hm,w3⟩:=hN σ3 H3 n3
   exact ⟨m',hm,σ3,H3,I3,w3⟩
  | brk=>exact q3
  | ret v=>exact q3
 | false =>
  rw [if_neg Bool.false_ne_true]
  exact wpAny_execs_nil ⟨σ1,H2,I2,q2⟩
end
structure It where
 go:Nat→Hp→Prop
 yld:Nat→Hp→V→Hp→Prop
 stop:Nat→Hp→Prop
def gz (X:Cx) (pins:List 'h') (H:Hp) (b:Addr):Prop :=
 H b=none∧b≠X.env.locals∧b ∉ X.fs∧(b∈X.ex∨X.s₀.heap.objs.size≤b)∧(∀ x c,X.env.cells.lookup x=some c→c≠b)∧∀ p∈X.pn++pins,p.1≠b
theorem Inv.fpOk {X:Cx} {pins:List 'h'} {σ:St} {H H':Hp} {s:Shared} {b:Addr} (I:Inv X pins σ H s) (hb:s.heap.objs.size≤b) (hn:H' b=none):gz X pins H' b:=by
 refine ⟨hn,Nat.ne_of_gt (Nat.lt_of_lt_of_le I.lt hb),I.nofs hb,.inr (Nat.le_trans I.sz hb),fun x c e z=>?_,fun p hp z=>?_⟩
 ·obtain ⟨v,q⟩:=I.cell x c e
  exact absurd (Nat.lt_of_lt_of_le q.lt (by rw [z]; exact hb)) (Nat.lt_irrefl _)
 ·exact absurd (Nat.lt_of_lt_of_le (Heap.lt_size (I.pin p hp).1) (by rw [z]; exact hb)) (Nat.lt_irrefl _)
structure Turn (P:Program) (w:World) (K:PySem.W.Frag) (tg:Expr) (J:It) (fp:List Addr) (it:Addr) (tn:Nat→Heap→Prop):Prop where
 mem:it∈fp
 obj:∀ i h,tn i h→∀ b∈fp,∃ o,h.get? b=some o∧∀ v,o.data≠.cell v
 keep:∀ i h h',tn i h→(∀ b∈fp,∀ o,h.get? b=some o→h'.get? b=some o)→tn i h'
 item:∀ (X:Cx),X.prog=P→X.w=w→X.K=K→X.calm=true→∀ (i:Nat) (pins:List 'h') (s:Shared) (σ:St) (H:Hp) (E:Value→Shared→Prop),Inv X pins σ H s→(∀ b∈fp,gz X pins H b)→tn i s.heap→J.go i H →
  wpAny (model P w) X.A (pyNext (.ref it)) (fun r s1=>∃ u,r=some u ∧
   wpAny (model P w) X.A (letOwnedTupleGo tg (.ref it) u) (fun _ s2=>∃ x H',Inv X pins σ H' s2∧aT x u∧J.yld i H x H'∧tn (i + 1) s2.heap∧∀ b∈fp,H' b=none) E s1) E s
 done:∀ (X:Cx),X.prog=P→X.w=w→X.K=K→X.calm=true→∀ (i:Nat) (pins:List 'h') (s:Shared) (σ:St) (H:Hp) (E:Value→Shared→Prop),Inv X pins σ H s→(∀ b∈fp,gz X pins H b)→tn i s.heap→J.stop i H →
  wpAny (model P w) X.A (pyNext (.ref it)) (fun r s1=>r=none∧Inv X pins σ H s1) E s
 self:∀ (A:Around) (i:Nat) (s:Shared) (Q:Value→Shared→Prop) (E:Value→Shared→Prop),tn i s.heap→Q (.ref it) s→wpAny (model P w) A (pyIter (.ref it)) Q E s
abbrev TI:=St→Hp→(It→Hp→Prop)→Prop
def PIE (X:Cx) (pins:List 'h') (σ:St) (tg:Expr) (R:It→Hp→Prop) (itv:Value) (s2:Shared):Prop :=
 ∃ (it:Addr) (fp:List Addr) (tn:Nat→Heap→Prop) (J:It) (H':Hp),itv = .ref it∧Inv X pins σ H' s2∧Turn X.prog X.w X.K tg J fp it tn∧tn 0 s2.heap∧(∀ b∈fp,gz X pins H' b)∧R J H'
structure PI (X:Cx) (tg iter:Expr) (wi:TI):Prop where
 go:∀ (pins:List 'h') (s:Shared) (σ:St) (H:Hp) (R:It→Hp→Prop),Inv X pins σ H s→wi σ H R →
  wpAny 'b' X.A (eval iter X.env) (fun v s1=>wpAny 'b' X.A (pyIter v) (PIE X pins σ tg R) X.xe s1) X.xe s
instance {X:Cx} {tg iter:Expr} {wi:TI}:CoeFun (PI X tg iter wi) fun _=>∀ (pins:List 'h') (s:Shared) (σ:St) (H:Hp) (R:It→Hp→Prop),Inv X pins σ H s→wi σ H R →
 wpAny 'b' X.A (eval iter X.env) (fun v s1=>wpAny 'b' X.A (pyIter v) (PIE X pins σ tg R) X.xe s1) X.xe s:=⟨fun h=>h.go⟩
theorem qp {M:Model} {A:Around} {E:Value→Shared→Prop} {s:Shared} {tg:Expr} {it:Addr} {u:Value} {o:Obj} {n:String} {vs:Array Value} {Q:Unit→Shared→Prop} (ho:s.heap.get? it=some o) (hc:o.cls = .type n) (hd:o.data = .fields vs)
 (hn : ["enumerate","zip","dict_itemiterator","dict_reverseitemiterator","odict_iterator","itertools.zip_longest","itertools.pairwise"].contains n=false) (hQ:Q () s):wpAny M A (letOwnedTupleGo tg (.ref it) u) Q E s:=by
 unfold letOwnedTupleGo
 cases tg <;> first
  | exact wpAny_pure hQ
  | (cases u <;> first
   | exact wpAny_pure hQ
   | (refine wpAny_bind (wpAny_load ho ?_)
      rw [hc,hd]
      show wpAny M A (if (["enumerate","zip","dict_itemiterator","dict_reverseitemiterator","odict_iterator","itertools.zip_longest","itertools.pairwise"].contains n&&vs[0]? == some (rawInt _))=true then _ else _) Q E s
      rw [if_neg (by intro h; rw [hn,Bool.false_and] at h; cases h)]
      exact wpAny_pure hQ))
def Itl (K:PySem.W.Frag) (a:Addr):It :=
 ⟨fun i H=>∃ xs x,SqL K H a xs∧xs[i]? = some x,fun i H x H'=>H'=H∧∀ xs,SqL K H a xs→xs[i]? = some x,fun i H=>∃ xs,SqL K H a xs∧xs.length≤i⟩
def Itr (lo:Int) (n:Nat):It:=⟨fun i _=>i<n,fun i H x H'=>H'=H∧x = .int (lo + i),fun i _=>n≤i⟩
theorem pO {P:Program} {w:World} {K:PySem.W.Frag} {tg:Expr} (a it:Addr):Turn P w K tg (Itl K a) [it] it (fun i h=>h.IsListIter it a i) where
 mem:=by simp
 obj:=fun i h st b hb=>by
  have e:b=it:=by simpa using hb
  subst e
  obtain ⟨o,e,c,d⟩:=st
  exact ⟨o,e,fun v z=>by rw [d] at z; cases z⟩
 keep:=fun i h h' st k=>st.at fun o e=>k it (by simp) o e
 item:=by
  intro X hP hw hK hc i pins s σ H E I hf st hg
  subst hP hw hK
  obtain ⟨xs,x,hq,hx⟩:=hg
  obtain ⟨its,rv,p,hz⟩:=I.list hq
  obtain ⟨u,hu,ru⟩:=rv.get hx
  obtain ⟨f0,f1,f2,f3,f4,f5⟩:=hf it (by simp)
  refine wpAny_pyNext_list_item st p.isList (x:=u) (by simpa using hu) fun h' st' sb=>?_
  have I1:Inv X pins σ H { s with heap:=h' }:=I.turned (t':=s.toks) (fun b o hb e=>(sb.2 b hb).trans e) f0 f1 f3 f4 f5
  obtain ⟨o,e,c,d⟩:=id st'
  exact ⟨u,rfl,qp (s:={ s with heap:=h' }) e c d 'k' ⟨x,H,I1,ru,⟨rfl,fun ys hy=>by rw [I.list_inj hy hq]; exact hx⟩,st',fun b hb=>(hf b hb).1⟩⟩
 done:=by
  intro X hP hw hK hc i pins s σ H E I hf st hg
  subst hP hw hK
  obtain ⟨xs,hq,hx⟩:=hg
  obtain ⟨its,rv,p,hz⟩:=I.list hq
  obtain ⟨f0,f1,f2,f3,f4,f5⟩:=hf it (by simp)
  have hl:=rv.length
  exact wpAny_pyNext_list_end (I.ok.hd hc) st p.isList (by simp; omega) fun h' eb=>⟨rfl,I.turned (t':=s.toks) (fun b o hb e=>eb b o hb e) f0 f1 f3 f4 f5⟩
 self:=fun _ _ _ _ _ st h=>wpAny_pyIter_listiter st h
theorem nR {P:Program} {w:World} {K:PySem.W.Frag} {tg:Expr} (it:Addr) (lo:Int) (n:Nat):Turn P w K tg (Itr lo n) [it] it (fun i h=>IsRangeIter h it (lo + (i:Nat) * 1) ((n:Int) - (i:Nat)) 1) where
 mem:=by simp
 obj:=fun i h st b hb=>by
  have e:b=it:=by simpa using hb
  subst e
  exact ⟨_,st,fun v z=>by
   have z':Data.fields _=Data.cell v:=z
   cases z'⟩
 keep:=fun i h h' st k=>k it (by simp) _ st
 item:=by
  intro X hP hw hK hc i pins s σ H E I hf st hg
  subst hP hw hK
  obtain ⟨f0,f1,f2,f3,f4,f5⟩:=hf it (by simp)
  have W:=Walks.range (prog:=X.prog) (w:=X.w) (I.ok.hd hc) it lo 1 n
  refine W.item i s _ _ hg st fun v h' tk hv st' kk=>?_
  obtain ⟨t,rfl⟩:=hv
  have I1:Inv X pins σ H { s with heap:=h',toks:=tk }:=I.turned (fun b o hb e=>kk b o (by simpa using hb) e) f0 f1 f3 f4 f5
  refine ⟨_,rfl,qp (s:={ s with heap:=h',toks:=tk }) (n:="range_iterator") st' rfl rfl 'k' ⟨.int (lo + i),H,I1,⟨t,?_⟩,⟨rfl,rfl⟩,st',fun b hb=>(hf b hb).1⟩⟩
  rw [Int.mul_one]
 done:=by
  intro X hP hw hK hc i pins s σ H E I hf st hg
  subst hP hw hK
  obtain ⟨f0,f1,f2,f3,f4,f5⟩:=hf it (by simp)
  exact wpAny_pyNext_range_end (I.ok.hd hc) st (by have:n≤i:=hg; omega) fun h' eb=>⟨rfl,I.turned (t':=s.toks) (fun b o hb e=>eb b o hb e) f0 f1 f3 f4 f5⟩
 self:=fun _ _ _ _ _ st h=>wpAny_pyIter_rangeiter st h
section
variable {X:Cx} {tg:Expr}
def iList (K:PySem.W.Frag) (tl:TE):TI:=fun σ H R=>tl σ H fun x H1=>∃ a,x = .ref a∧(∃ xs,SqL K H1 a xs)∧R (Itl K a) H1
theorem tU {l:Expr} {tl:TE} (hl:PE X l tl):PI X tg l (iList X.K tl):=by
 (try refine ⟨?_⟩); intro pins s σ H R I h
 refine thn (hl pins s σ H _ I h) fun v s1 ⟨x,H1,I1,r1,q1⟩=>?_
 obtain ⟨a,e,⟨xs,hq⟩,q⟩:=q1
 subst e
 cases r1
 obtain ⟨its,rv,p,hz⟩:=I1.list hq
 refine wpAny_pyIter_list p.isList ?_
 refine ⟨s1.heap.objs.size,[s1.heap.objs.size],_,_,H1,rfl,I1.kept (t':=s1.toks) fun b o e=>Heap.get?_push_of_some _ e,pO a _,⟨_,Heap.get?_push_size _ rfl,rfl,rfl⟩,fun b hb=>?_,q⟩
 have e:b=s1.heap.objs.size:=by simpa using hb
 subst e
 exact I1.fpOk 'l' (I1.hok.fresh 'l')
theorem kR {pins:List 'h'} {σ:St} {H:Hp} {s:Shared} {R:It→Hp→Prop} {E:Value→Shared→Prop} {lo hi:Int} {t u v:Tok} {tk:Nat} (I:Inv X pins σ H s) (h1 : -(2 ^ 62)≤lo) (h2:lo<2 ^ 62) (h3 : -(2 ^ 62)≤hi) (h4:hi<2 ^ 62)
 (q:R (Itr lo (hi - lo).toNat) H):wpAny 'b' X.A (pyIter (.ref s.heap.objs.size)) (PIE X pins σ tg R) E { s with heap:=s.heap.push { cls:=.type "range",data:=.fields #[.int lo t,.int hi u,.int 1 v] },toks:=tk }:=by
 refine wpAny_pyIter_range (IsRange.new ..) (small_one h1 h2 h3 h4) ?_
 have I1:Inv X pins σ H { s with heap:=s.heap.push { cls:=.type "range",data:=.fields #[.int lo t,.int hi u,.int 1 v] },toks:=tk }:=I.kept fun b o e=>Heap.get?_push_of_some _ e
 refine ⟨(s.heap.push { cls:=.type "range",data:=.fields #[.int lo t,.int hi u,.int 1 v] }).objs.size,[(s.heap.push { cls:=.type "range",data:=.fields #[.int lo t,.int hi u,.int 1 v] }).objs.size],_,_,H,rfl,
  I1.kept (t':=tk) fun b o e=>Heap.get?_push_of_some _ e,nR _ lo (hi - lo).toNat,?_,fun b hb=>?_,q⟩
 ·have e1:lo + ((0:Nat):Int) * 1=lo:=by simp
  have e2:(((hi - lo).toNat:Nat):Int) - ((0:Nat):Int)=Builtin.Range.rangeSize lo hi 1:=by rw [rangeSize_one]; split <;> omega
  show IsRangeIter _ _ (lo + ((0:Nat):Int) * 1) ((((hi - lo).toNat:Nat):Int) - ((0:Nat):Int)) 1
  rw [e1,e2]
  exact Heap.get?_push_size _ rfl
 ·have e:b=(s.heap.push { cls:=.type "range",data:=.fields #[.int lo t,.int hi u,.int 1 v] }).objs.size:=by simpa using hb
  subst e
  exact I1.fpOk 'l' (I1.hok.fresh 'l')
def iRng1 (ta:TA):TI:=fun σ H R=>ta σ H fun vs H1=>∃ j:Int,vs=[.int j]∧-(2 ^ 62)≤j∧j<2 ^ 62∧R (Itr 0 j.toNat) H1
def iRng2 (ta:TA):TI:=fun σ H R=>ta σ H fun vs H1=>∃ i j:Int,vs=[.int i,.int j]∧(-(2 ^ 62)≤i∧i<2 ^ 62∧-(2 ^ 62)≤j∧j<2 ^ 62)∧R (Itr i (j - i).toNat) H1
theorem pq {a:Expr} {ta:TA} {p pos:Pos} (hg:Gl X "range") (hm:X.mg "range" = none) (ha:PA X [a] ta) (hs:starEach [a] X.env=[(false,eval a X.env)]:=by rfl):PI X tg (.Call (.Name "range" p) [a] [] pos) (iRng1 ta):=by
 (try refine ⟨?_⟩); intro pins s σ H R I h
 refine Call_ (eT I hg hm boot_range (PyProof.Rows.callWith_type1 (thn (ha pos pins s σ H _ I h) fun us s1 ⟨vs,H1,I1,r1,q1⟩=>?_) hs rfl))
 obtain ⟨j,e,q1,q2,q⟩:=q1
 subst e
 cases r1 with
 | cons r rr =>
  cases rr
  obtain ⟨t,rfl⟩:=r
  exact call_range_1 (kR I1 'a' 'a' q1 q2 (by simpa using q))
theorem pZ {a b:Expr} {ta:TA} {p pos:Pos} (hg:Gl X "range") (hm:X.mg "range" = none) (ha:PA X [a,b] ta) (hs:starEach [a,b] X.env=[(false,eval a X.env),(false,eval b X.env)]:=by rfl) (hs2:starEach [b] X.env=[(false,eval b X.env)]:=by rfl) :
 PI X tg (.Call (.Name "range" p) [a,b] [] pos) (iRng2 ta):=by
 (try refine ⟨?_⟩); intro pins s σ H R I h
 refine Call_ (eT I hg hm boot_range (PyProof.Rows.callWith_type1 (thn (ha pos pins s σ H _ I h) fun us s1 ⟨vs,H1,I1,r1,q1⟩=>?_) (by rw [hs,hs2]) (by rw [hs2]; rfl)))
 obtain ⟨i,j,e,⟨q1,q2,q3,q4⟩,q⟩:=q1
 subst e
 cases r1 with
 | cons r rr =>
  cases rr with
  | cons r' rr =>
   cases rr
   obtain ⟨t,rfl⟩:=r
   obtain ⟨t',rfl⟩:=r'
   exact call_range_2 (kR I1 q1 q2 q3 q4 q)
def tFor (wi:TI) (g:TG) (tb:TS):TS:=fun D σ H=>wi σ H fun J H1=>∃ W:Nat→Nat→St→Hp→Prop,(∃ m,W 0 m σ H1)∧∀ i m σ H,W i m σ H →
 (J.stop i H∧D.nx σ H)∨(J.go i H∧∃ N:St→Hp→Prop,(∀ σ' H',N σ' H'→∃ m',m'<m∧W (i + 1) m' σ' H')∧∀ x H',J.yld i H x H'→g x σ H' fun σ2 H2=>tb { D with nx:=N,ct:=N,bk:=D.nx } σ2 H2)
def iZ (fp:List Addr) (h:Heap):List 'h':=fp.filterMap fun b=>(h.get? b).map fun o=>(b,o)
theorem cn {fp:List Addr} {h:Heap} {b:Addr} {o:Obj} (hb:b∈fp) (e:h.get? b=some o):(b,o)∈iZ fp h:=List.mem_filterMap.mpr ⟨b,hb,by rw [e]; rfl⟩
theorem jG {fp:List Addr} {h:Heap} {p:Addr×Obj} (hp:p∈iZ fp h):p.1∈fp∧h.get? p.1=some p.2:=by
 obtain ⟨b,hb,e⟩:=List.mem_filterMap.mp hp
 cases q:h.get? b with
 | none=>rw [q] at e; cases e
 | some o =>
  rw [q] at e
  have e':(b,o)=p:=Option.some.inj e
  subst e'
  exact ⟨hb,q⟩
theorem Inv.pinned {pins:List 'h'} {σ:St} {H:Hp} {s:Shared} {fp:List Addr} (I:Inv X pins σ H s) (hf:∀ b∈fp,gz X pins H b) (ho:∀ b∈fp,∃ o,s.heap.get? b=some o∧∀ v,o.data≠.cell v):Inv X (pins++iZ fp s.heap) σ H s :=
 I.pins_of fun p hp=>(List.mem_append.mp hp).elim (fun z=>I.pin p (List.mem_append_right _ z)) fun z=>by
  obtain ⟨hb,e⟩:=jG z
  obtain ⟨f0,f1,f2,_⟩:=hf p.1 hb
  obtain ⟨o,e',d⟩:=ho p.1 hb
  rw [e] at e'; cases e'
  exact ⟨e,f0,f1,f2,d⟩
theorem Inv.unpinned {pins pl:List 'h'} {σ:St} {H:Hp} {s:Shared} (I:Inv X (pins++pl) σ H s):Inv X pins σ H s:=I.pins_of fun p hp=>I.pin p (List.mem_append_right _ (List.mem_append_left _ hp))
theorem mw {iter:Expr} {body:List Stmt} {wi:TI} {g:TG} {tb:TS} {pos:Pos} (hp:PassesOwn 'b' X.A X.env X.xe) (hc:X.calm=true) (hi:PI X tg iter wi) (hg:PG X tg g) (hb:PSs X body tb)
 (hs:∀ x,foldedSetIterable iter X.env x=pure x:=by intro _; rfl):PS X (.For tg iter body [] pos) (tFor wi g tb):=by
 (try refine ⟨?_⟩); intro pins s σ H D I h
 refine wpAny_For (thn (hi pins s σ H _ I h) fun v s1 h1=>thn h1 fun itv s2 h2=>?_) hs
 obtain ⟨it,fp,tn,J,H2,e,I2,T,st2,f2,W,⟨m0,w0⟩,turn⟩:=h2
 subst e
 -- what stays true of the iterator's objects through the loop
 have stat:∀ {H':Hp},(∀ b∈fp,H' b=none)→∀ b∈fp,gz X pins H' b:=fun hn b hb=>⟨hn b hb,(f2 b hb).2⟩
 refine codeAny_forLoop_any (fun n s'=>∃ i σ' H',Inv X pins σ' H' s'∧tn i s'.heap∧(∀ b∈fp,H' b=none)∧W i n σ' H') ?_ m0 ⟨0,σ,H2,I2,st2,fun b hb=>(f2 b hb).1,w0⟩
 rintro n s3 ⟨i,σ3,H3,I3,st3,fr3,w3⟩
 rcases turn i n σ3 H3 w3 with ⟨stop,qn⟩ | ⟨go,N,hN,step⟩
 ·refine wpAny_passesOwn hp (thn (T.done X rfl rfl rfl hc i pins s3 σ3 H3 X.xe I3 (stat fr3) st3 stop) fun r s4 ⟨hr,I4⟩=>?_)
  subst hr
  exact wpAny_execs_nil ⟨σ3,H3,I4,qn⟩
 ·refine wpAny_passesOwn hp (thn (T.item X rfl rfl rfl hc i pins s3 σ3 H3 X.xe I3 (stat fr3) st3 go) fun r s4 ⟨u,hr,h4⟩=>?_)
  subst hr
  refine wpAny_passesOwn hp (thn h4 fun _ s5 ⟨x,H5,I5,r5,y5,st5,fr5⟩=>?_)
  have I5':=I5.pinned (stat fr5) (T.obj _ _ st5)
  refine wpAny_passesOwn hp (thn (hg _ s5 σ3 H5 x u _ I5' r5 (step x H5 y5)) fun _ s6 ⟨σ6,H6,I6,q6⟩=>?_)
  refine wpAny_passesOwn hp (thn (hb _ s6 σ6 H6 _ I6 q6) fun f s7 q7=>?_)
  have again:∀ {σ7:St} {H7:Hp},Inv X (pins++iZ fp s5.heap) σ7 H7 s7→N σ7 H7→∃ m,m<n∧∃ i σ' H',Inv X pins σ' H' s7∧tn i s7.heap∧(∀ b∈fp,H' b=none)∧W i m σ' H':=fun {σ7 H7} I7 n7=>by
   obtain ⟨m',hm,w7⟩:=hN σ7 H7 n7
   refine ⟨m',hm,i + 1,σ7,H7,I7.unpinned,T.keep _ _ _ st5 fun b hb o e=>(I7.pin (b,o) (List.mem_append_right _ (List.mem_append_right _ (cn hb e)))).1,fun b hb=>?_,w7⟩
   obtain ⟨o,e,d⟩:=T.obj _ _ st5 b hb
   exact (I7.pin (b,o) (List.mem_append_right _ (List.mem_append_right _ (cn hb e)))).2.1
  cases f with
  | next=>obtain ⟨σ7,H7,I7,n7⟩:=q7; exact again I7 n7
  | cont=>obtain ⟨σ7,H7,I7,n7⟩:=q7; exact again I7 n7
  | brk=>obtain ⟨σ7,H7,I7,q7⟩:=q7; exact ⟨σ7,H7,I7.unpinned,q7⟩
  | ret v=>obtain ⟨x7,σ7,H7,I7,r7,q7⟩:=q7; exact ⟨x7,σ7,H7,I7.unpinned,r7,q7⟩
end
abbrev R2:=V→V→Hp→VK→Prop
def OpR (X:Cx) (f:Value→Value→Sem Value) (r:R2):Prop :=
 ∀ (pins:List 'h') (s:Shared) (σ:St) (H:Hp) (x y:V) (v u:Value) (Q:VK),Inv X pins σ H s→aT x v→aT y u→r x y H Q →
  wpAny 'b' X.A (f v u) (EP X pins σ Q) X.xe s
def UnR (X:Cx) (f:Value→Sem Value) (r:V→Hp→VK→Prop):Prop :=
 ∀ (pins:List 'h') (s:Shared) (σ:St) (H:Hp) (x:V) (v:Value) (Q:VK),Inv X pins σ H s→aT x v→r x H Q →
  wpAny 'b' X.A (f v) (EP X pins σ Q) X.xe s
def cj (X:Cx) (f:Value) (r:List V→Hp→VK→Prop):Prop :=
 ∀ (pins:List 'h') (s:Shared) (σ:St) (H:Hp) (xs:List V) (us:List Value) (Q:VK),Inv X pins σ H s→aM xs us→r xs H Q →
  wpAny 'b' X.A (call f us) (EP X pins σ Q) X.xe s
def TruR (X:Cx) (r:V→Hp→(Bool→Hp→Prop)→Prop):Prop :=
 ∀ (pins:List 'h') (s:Shared) (σ:St) (H:Hp) (x:V) (v:Value) (Q:Bool→Hp→Prop),Inv X pins σ H s→aT x v→r x H Q →
  wpAny 'b' X.A (truthy v) (TP X pins σ Q) X.xe s
def tOp (r:R2) (ta tb:TE):TE:=fun σ H Q=>ta σ H fun x H1=>tb σ H1 fun y H2=>r x y H2 Q
def tUn (r:V→Hp→VK→Prop) (ta:TE):TE:=fun σ H Q=>ta σ H fun x H1=>r x H1 Q
def rI (C:Int→Int→Prop) (g:Int→Int→V):R2:=fun x y H Q=>∃ i j,x = .int i∧y = .int j∧C i j∧Q (g i j) H
def rI0 (g:Int→Int→V):R2:=fun x y H Q=>∃ i j,x = .int i∧y = .int j∧Q (g i j) H
def rU (g:Int→V):V→Hp→VK→Prop:=fun x H Q=>∃ i,x = .int i∧Q (g i) H
section
variable {X:Cx} {a b c:Expr} {ta tb tc:TE} {pos:Pos}
theorem binT (ha:PE X a ta) (hb:PE X b tb) {pins:List 'h'} {s:Shared} {σ:St} {H:Hp} {R:V→V→Hp→Prop} (I:Inv X pins σ H s)
 (h:ta σ H fun x H1=>tb σ H1 fun y H2=>R x y H2) {Q:Value→Shared→Prop} {f:Value→Value→Sem Value}
 (hf:∀ v u s2 x y H2,Inv X pins σ H2 s2→aT x v→aT y u→R x y H2→wpAny 'b' X.A (f v u) Q X.xe s2) :
 wpAny 'b' X.A (eval a X.env) (fun v s₁=>wpAny 'b' X.A (eval b X.env) (fun u s₂=>wpAny 'b' X.A (f v u) Q X.xe s₂) X.xe s₁) X.xe s:=by
 refine thn (ha pins s σ H _ I h) fun v s1 ⟨x,H1,I1,r1,q1⟩=>?_
 refine thn (hb pins s1 σ H1 _ I1 q1) fun u s2 ⟨y,H2,I2,r2,q2⟩=>?_
 exact hf v u s2 x y H2 I2 r1 r2 q2
theorem lE {op:Operator} {r:R2} (ho:OpR X (binaryOp op) r) (ha:PE X a ta) (hb:PE X b tb):PE X (.BinOp a op b pos) (tOp r ta tb):=by
 (try refine ⟨?_⟩); intro pins s σ H Q I h
 exact wpAny_BinOp (binT ha hb I h fun v u s2 x y H2 I2 rx ry q=>ho pins s2 σ H2 x y v u Q I2 rx ry q)
theorem pe_un {op:UnaryOp} {r:V→Hp→VK→Prop} (ho:UnR X (unaryOp op) r) (ha:PE X a ta):PE X (.UnaryOp op a pos) (tUn r ta):=by
 (try refine ⟨?_⟩); intro pins s σ H Q I h
 exact UnaryOp_ (thn (ha pins s σ H _ I h) fun v s1 ⟨x,H1,I1,r1,q1⟩=>ho pins s1 σ H1 x v Q I1 r1 q1)
theorem opI {f:Value→Value→Sem Value} {C:Int→Int→Prop} {g:Int→Int→Int}
 (rule:∀ (i j:Int) (t u:Tok) (s:Shared) (Q:Value→Shared→Prop) (E:Value→Shared→Prop),C i j→Q (.int (g i j) s.toks) { s with toks:=s.toks + 1 }→wpAny 'b' X.A (f (.int i t) (.int j u)) Q E s) :
 OpR X f (rI C fun i j=>.int (g i j)):=by
 (try refine ⟨?_⟩); intro pins s σ H x y v u Q I rx ry h
 obtain ⟨i,j,rfl,rfl,hc,q⟩:=h
 obtain ⟨t,rfl⟩:=rx
 obtain ⟨t',rfl⟩:=ry
 exact rule i j t t' s _ _ hc ⟨.int (g i j),H,I.tok _,⟨_,rfl⟩,q⟩
theorem opI0 {f:Value→Value→Sem Value} {g:Int→Int→Int}
 (rule:∀ (i j:Int) (t u:Tok) (s:Shared) (Q:Value→Shared→Prop) (E:Value→Shared→Prop),Q (.int (g i j) s.toks) { s with toks:=s.toks + 1 }→wpAny 'b' X.A (f (.int i t) (.int j u)) Q E s) :
 OpR X f (rI0 fun i j=>.int (g i j)):=by
 (try refine ⟨?_⟩); intro pins s σ H x y v u Q I rx ry h
 obtain ⟨i,j,rfl,rfl,q⟩:=h
 obtain ⟨t,rfl⟩:=rx
 obtain ⟨t',rfl⟩:=ry
 exact rule i j t t' s _ _ ⟨.int (g i j),H,I.tok _,⟨_,rfl⟩,q⟩
theorem opB0 {f:Value→Value→Sem Value} {g:Int→Int→Bool}
 (rule:∀ (i j:Int) (t u:Tok) (s:Shared) (Q:Value→Shared→Prop) (E:Value→Shared→Prop),Q (.bool (g i j)) s→wpAny 'b' X.A (f (.int i t) (.int j u)) Q E s) :
 OpR X f (rI0 fun i j=>.bl (g i j)):=by
 (try refine ⟨?_⟩); intro pins s σ H x y v u Q I rx ry h
 obtain ⟨i,j,rfl,rfl,q⟩:=h
 obtain ⟨t,rfl⟩:=rx
 obtain ⟨t',rfl⟩:=ry
 exact rule i j t t' s _ _ ⟨.bl (g i j),H,I,rfl,q⟩
def CDiv (i j:Int):Prop:=0<j∧j<1073741824
def CPow (i j:Int):Prop:=0≤j∧j≤1000000∧i.natAbs<2 ^ 64
def CMul (i j:Int):Prop:=(-(2 ^ 64)<i∧i<2 ^ 64)∨(-(2 ^ 64)<j∧j<2 ^ 64)
theorem CMul.ok {i j:Int} (h:CMul i j):IntMulOk i j:=by
 rcases h with ⟨h1,h2⟩ | ⟨h1,h2⟩
 ·exact .of_left (intBits_le_64 h1 h2)
 ·exact .of_right (intBits_le_64 h1 h2)
theorem bc:OpR X (binaryOp .Add) (rI0 fun i j=>.int (i + j)):=opI0 fun _ _ _ _ _ _ _ q=>add_int q
theorem eL:OpR X (binaryOp .Sub) (rI0 fun i j=>.int (i - j)):=opI0 fun _ _ _ _ _ _ _ q=>sub_int q
theorem fC:OpR X (binaryOp .Mult) (rI CMul fun i j=>.int (i * j)):=opI fun _ _ _ _ _ _ _ hc q=>mul_int q hc.ok
theorem ka:OpR X (binaryOp .FloorDiv) (rI CDiv fun i j=>.int (i / j)):=opI fun i j _ _ _ _ _ hc q=>by
 have h1:(0:Int)<j:=hc.1
 have h2:j<1073741824:=hc.2
 exact floordiv_int 'a' (by rw [Int.fdiv_eq_ediv_of_nonneg i 'a']; exact q) (.inl (PyProof.noPylong_small 'a'))
theorem c_:OpR X (binaryOp .Mod) (rI (fun _ j=>0<j) fun i j=>.int (i % j)):=opI fun i j _ _ _ _ _ hc q=>by
 have h1:(0:Int)<j:=hc
 exact mod_int' 'a' (by rw [Int.fmod_eq_emod_of_nonneg i 'a']; exact q)
theorem eD:OpR X (binaryOp .Pow) (rI CPow fun i j=>.int (i ^ j.toNat)):=opI fun _ _ _ _ _ _ _ hc q=>pow_int_small hc.1 hc.2.1 hc.2.2 q
theorem unI {f:Value→Sem Value} {g:Int→Int}
 (rule:∀ (i:Int) (t:Tok) (s:Shared) (Q:Value→Shared→Prop) (E:Value→Shared→Prop),Q (.int (g i) s.toks) { s with toks:=s.toks + 1 }→wpAny 'b' X.A (f (.int i t)) Q E s) :
 UnR X f (rU fun i=>.int (g i)):=by
 (try refine ⟨?_⟩); intro pins s σ H x v Q I rx h
 obtain ⟨i,rfl,q⟩:=h
 obtain ⟨t,rfl⟩:=rx
 exact rule i t s _ _ ⟨.int (g i),H,I.tok _,⟨_,rfl⟩,q⟩
theorem ye:UnR X (unaryOp .USub) (rU fun i=>.int (-i)):=unI fun _ _ _ _ _ q=>neg_int q
end
section
variable {X:Cx} {a b c:Expr} {ta tb tc:TE} {pos:Pos}
theorem qM {pins:List 'h'} {σ:St} {H:Hp} {s:Shared} {Q:VK} {k k':Bool} (I:Inv X pins σ H s) (q:Q (.bl k) H) (e:k=k'):EP X pins σ Q (.bool k') s:=by
 subst e
 exact ⟨.bl k,H,I,rfl,q⟩
theorem vw:OpR X (compareOp .Lt) (rI0 fun i j=>.bl (decide (i<j))):=opB0 fun _ _ _ _ _ _ _ q=>lt_int q
theorem jw:OpR X (compareOp .LtE) (rI0 fun i j=>.bl (decide (i≤j))):=opB0 fun _ _ _ _ _ _ _ q=>le_int q
theorem oH:OpR X (compareOp .Gt) (rI0 fun i j=>.bl (decide (j<i))):=opB0 fun _ _ _ _ _ _ _ q=>gt_int q
theorem sH:OpR X (compareOp .Is) (fun x y H Q=>y = .non∧Q (.bl (decide (x = .non))) H):=by
 (try refine ⟨?_⟩); intro pins s σ H x y v u Q I rx ry h
 obtain ⟨rfl,q⟩:=h
 cases ry
 refine is_none_gen (qM I q ?_)
 cases x <;> first
  | (cases rx; rfl)
  | (obtain ⟨t,rfl⟩:=rx; rfl)
theorem tL:OpR X (compareOp .IsNot) (fun x y H Q=>y = .non∧Q (.bl (!decide (x = .non))) H):=by
 (try refine ⟨?_⟩); intro pins s σ H x y v u Q I rx ry h
 obtain ⟨rfl,q⟩:=h
 cases ry
 refine isnot_none_gen (qM I q ?_)
 cases x <;> first
  | (cases rx; rfl)
  | (obtain ⟨t,rfl⟩:=rx; rfl)
theorem a9 (b:Expr) {op:CmpOp} (h:op≠.In:=by decide) (h2:op≠.NotIn:=by decide):behindInMarks op b=false:=by
 have e1:(op == CmpOp.In)=false:=by cases op <;> first | rfl | exact absurd rfl h
 have e2:(op == CmpOp.NotIn)=false:=by cases op <;> first | rfl | exact absurd rfl h2
 cases b <;> simp [behindInMarks,e1,e2]
theorem nX {op:CmpOp} {r:R2} (ho:OpR X (compareOp op) r) (ha:PE X a ta) (hb:PE X b tb) (hm:behindInMarks op b=false):PE X (.Compare a [op] [b] pos) (tOp r ta tb):=by
 (try refine ⟨?_⟩); intro pins s σ H Q I h
 exact wpAny_Compare1 (binT ha hb I h fun v u s2 x y H2 I2 rx ry q=>ho pins s2 σ H2 x y v u Q I2 rx ry q) hm
def sL (t:TE):TT:=fun σ H Q=>t σ H fun x H'=>∃ k,x = .bl k∧Q k H'
theorem ul {op:CmpOp} {r:R2} (ho:OpR X (compareOp op) r) (ha:PE X a ta) (hb:PE X b tb) (hm:behindInMarks op b=false):PT X (.Compare a [op] [b] pos) (sL (tOp r ta tb)):=by
 (try refine ⟨?_⟩); intro pins s σ H Q I h
 refine wpAny_isTrue_Compare1 (thn (ha pins s σ H _ I h) fun v s1 ⟨x,H1,I1,r1,q1⟩=>thn (hb pins s1 σ H1 _ I1 q1) fun u s2 ⟨y,H2,I2,r2,q2⟩ =>
  thn (ho pins s2 σ H2 x y v u _ I2 r1 r2 q2) fun c s3 ⟨z,H3,I3,r3,k,e,q3⟩=>?_) hm
 subst e
 cases r3
 exact wpAny_truthy_bool ⟨H3,I3,q3⟩
def nP (r r':R2) (ta tb tc:TE):TE:=fun σ H Q=>ta σ H fun x H1=>tb σ H1 fun y H2=>r x y H2 fun z H3=>∃ k,z = .bl k ∧
 (if k=true then tc σ H3 fun w' H4=>r' y w' H4 Q else Q (.bl false) H3)
theorem sB {op op':CmpOp} {r r':R2} (ho:OpR X (compareOp op) r) (ho':OpR X (compareOp op') r') (ha:PE X a ta) (hb:PE X b tb) (hc:PE X c tc)
 (hm:lastMarks [op,op'] [b,c]=false:=by with_unfolding_all rfl):PE X (.Compare a [op,op'] [b,c] pos) (nP r r' ta tb tc):=by
 (try refine ⟨?_⟩); intro pins s σ H Q I h
 refine Compare_chain (thn (ha pins s σ H _ I h) fun v s1 ⟨x,H1,I1,r1,q1⟩=>chain_link (thn (hb pins s1 σ H1 _ I1 q1) fun u s2 ⟨y,H2,I2,r2,q2⟩ =>
  thn (ho pins s2 σ H2 x y v u _ I2 r1 r2 q2) fun d s3 ⟨z,H3,I3,r3,k,e,q3⟩=>?_)) hm
 subst e
 cases r3
 refine wpAny_truthy_bool ?_
 cases k with
 | false=>exact ite_ff ⟨.bl false,H3,I3,rfl,q3⟩
 | true=>exact ite_tt (chain_last (thn (hc pins s3 σ H3 _ I3 q3) fun w' s4 ⟨z',H4,I4,r4,q4⟩=>ho' pins s4 σ H4 y z' u w' Q I4 r2 r4 q4))
theorem tD {op op':CmpOp} {r r':R2} (ho:OpR X (compareOp op) r) (ho':OpR X (compareOp op') r') (ha:PE X a ta) (hb:PE X b tb) (hc:PE X c tc)
 (hm:lastMarks [op,op'] [b,c]=false:=by with_unfolding_all rfl):PT X (.Compare a [op,op'] [b,c] pos) (sL (nP r r' ta tb tc)):=by
 (try refine ⟨?_⟩); intro pins s σ H Q I h
 refine isTrue_chain (thn (ha pins s σ H _ I h) fun v s1 ⟨x,H1,I1,r1,q1⟩=>test_link (thn (hb pins s1 σ H1 _ I1 q1) fun u s2 ⟨y,H2,I2,r2,q2⟩ =>
  thn (ho pins s2 σ H2 x y v u _ I2 r1 r2 q2) fun d s3 ⟨z,H3,I3,r3,k,e,q3⟩=>?_)) hm
 subst e
 cases r3
 refine wpAny_truthy_bool ?_
 cases k with
 | false =>
  obtain ⟨k',e',q'⟩:=q3
  cases e'
  exact ite_ff ⟨H3,I3,q'⟩
 | true =>
  refine ite_tt (test_last (thn (hc pins s3 σ H3 _ I3 q3) fun w' s4 ⟨z',H4,I4,r4,q4⟩=>thn (ho' pins s4 σ H4 y z' u w' _ I4 r2 r4 q4) fun d' s5 ⟨z2,H5,I5,r5,k2,e2,q5⟩=>?_))
  subst e2
  cases r5
  exact wpAny_truthy_bool ⟨H5,I5,q5⟩
def TruV (K:PySem.W.Frag) (x:V) (H:Hp) (k:Bool):Prop :=
 match x with
 | .non=>k=false
 | .bl b=>k=b
 | .int i=>k=(i != 0)
 | .str y=>y.length≤sizeLine∧k=((y.length:Int) != 0)
 | .byt y=>y.size≤sizeLine∧k=((y.size:Int) != 0)
 | .ref p=>(∃ xs,SqL K H p xs∧k = !xs.isEmpty)∨(∃ xs,SqT K H p xs∧k = !xs.isEmpty)∨∃ kvs,H p=some (.dK kvs)∧k = !kvs.isEmpty
 | _=>False
theorem l8 {κ:Type} {kvs:List (κ×V)} {vs:List (κ×Value)} (r:KV kvs vs):(!vs.isEmpty) = !kvs.isEmpty:=by
 cases r <;> rfl
theorem iC {xs:List V} {its:List Value} (r:aM xs its):(!its.toArray.isEmpty) = !xs.isEmpty:=by
 cases r <;> simp
theorem gS:(sizeLine:Nat)<2 ^ 63:=by rw [sizeLine_eq]; decide
theorem wb:TruR X (fun x H Q=>∃ k,TruV X.K x H k∧Q k H):=by
 (try refine ⟨?_⟩); intro pins s σ H x v Q I rx h
 obtain ⟨k,e,q⟩:=h
 have hl:=gS
 have hs:sizeLine=16777216:=sizeLine_eq
 cases x with
 | non =>
  cases rx
  have e':k=false:=e
  subst e'
  exact truthy_none ⟨H,I,q⟩
 | bl b =>
  cases rx
  have e':k=b:=e
  subst e'
  exact wpAny_truthy_bool ⟨H,I,q⟩
 | int i =>
  obtain ⟨t,rfl⟩:=rx
  have e':k=(i != 0):=e
  subst e'
  exact PySem.P.truthy_int ⟨H,I,q⟩
 | str y =>
  obtain ⟨t,rfl⟩:=rx
  obtain ⟨hy,e'⟩:y.length≤sizeLine∧k=((y.length:Int) != 0):=e
  subst e'
  exact PySem.P.truthy_str 'a' ⟨H,I.tok _,q⟩
 | byt y =>
  obtain ⟨t,rfl⟩:=rx
  obtain ⟨hy,e'⟩:y.size≤sizeLine∧k=((y.size:Int) != 0):=e
  subst e'
  exact PySem.W.truthy_bytes 'a' ⟨H,I.tok _,q⟩
 | ref p =>
  cases rx
  have e':(∃ xs,SqL X.K H p xs∧k = !xs.isEmpty)∨(∃ xs,SqT X.K H p xs∧k = !xs.isEmpty)∨∃ kvs,H p=some (.dK kvs)∧k = !kvs.isEmpty:=e
  rcases e' with ⟨xs,hx,e'⟩ | ⟨xs,hx,e'⟩ | ⟨kvs,hx,e'⟩
  ·subst e'
   obtain ⟨its,r,pl,hz⟩:=I.list hx
   have hlen:=r.length
   exact wpAny_truthy_list pl.isList (by simp only [List.size_toArray]; omega) ⟨H,I.tok _,by rw [iC r]; exact q⟩
  ·subst e'
   obtain ⟨its,r,pl,hz⟩:=I.tuple hx
   have hlen:=r.length
   exact truthy_tuple pl (by simp only [List.size_toArray]; omega) ⟨H,I.tok _,by rw [iC r]; exact q⟩
  ·subst e'
   obtain ⟨hz,hS,vs,r,m⟩:kvs.length≤sizeLine∧(p == sysModules)=false∧∃ vs,KV kvs vs∧s.heap.DictOf (bF X.prog X.w) p vs:=I.hok p _ hx
   have hlen:kvs.length=vs.length:=Paired.length r
   exact wpAny_truthy_dict hS m 'a' ⟨H,I.tok _,by rw [l8 r]; exact q⟩
 | _=>exact (show False from e).elim
theorem rR (ha:PE X a ta) (he:∀ whole,isTrue a X.env whole=(do let v ← whole; standAt a.pos; holding [v] (truthy v))) :
 PT X a (fun σ H Q=>ta σ H fun x H'=>∃ k,TruV X.K x H' k∧Q k H'):=by
 (try refine ⟨?_⟩); intro pins s σ H Q I h
 exact isTrue_plain (thn (ha pins s σ H _ I h) fun v s1 ⟨x,H1,I1,r1,q1⟩=>wb pins s1 σ H1 x v Q I1 r1 q1) (he _)
theorem fw {x:V} {us:List Value} (r:aM [x] us):∃ u,us=[u]∧aT x u:=by
 cases r with
 | cons r1 r2=>cases r2; exact ⟨_,rfl,r1⟩
theorem hX {x y:V} {us:List Value} (r:aM [x,y] us):∃ u w',us=[u,w']∧aT x u∧aT y w':=by
 cases r with
 | cons r1 r2 =>
  cases r2 with
  | cons r3 r4=>cases r4; exact ⟨_,_,rfl,r1,r3⟩
theorem sK:cj X (.builtin "abs") (fun xs H Q=>∃ i,xs=[.int i]∧Q (.int (if i<0 then -i else i)) H):=by
 (try refine ⟨?_⟩); intro pins s σ H xs us Q I r h
 obtain ⟨i,rfl,q⟩:=h
 obtain ⟨u,rfl,t,rfl⟩:=fw r
 exact call_abs_int fun u tk=>⟨.int (if i<0 then -i else i),H,I.tok _,⟨_,rfl⟩,q⟩
theorem jz (hc:X.calm=true):cj X (.builtin "max") (fun xs H Q=>∃ i j,xs=[.int i,.int j]∧Q (.int (if j > i then j else i)) H):=by
 (try refine ⟨?_⟩); intro pins s σ H xs us Q I r h
 obtain ⟨i,j,rfl,q⟩:=h
 obtain ⟨u,w',rfl,⟨t,rfl⟩,⟨t',rfl⟩⟩:=hX r
 refine max_two_ints (I.ok.hd hc) fun h' tk k=>⟨_,H,I.kept k,?_,q⟩
 by_cases hj:j > i
 ·rw [if_pos hj,if_pos hj]; exact ⟨_,rfl⟩
 ·rw [if_neg hj,if_neg hj]; exact ⟨_,rfl⟩
theorem gK (hc:X.calm=true):cj X (.builtin "min") (fun xs H Q=>∃ i j,xs=[.int i,.int j]∧Q (.int (if j<i then j else i)) H):=by
 (try refine ⟨?_⟩); intro pins s σ H xs us Q I r h
 obtain ⟨i,j,rfl,q⟩:=h
 obtain ⟨u,w',rfl,⟨t,rfl⟩,⟨t',rfl⟩⟩:=hX r
 refine min_two_ints (I.ok.hd hc) fun h' tk k=>⟨_,H,I.kept k,?_,q⟩
 by_cases hj:j<i
 ·rw [if_pos hj,if_pos hj]; exact ⟨_,rfl⟩
 ·rw [if_neg hj,if_neg hj]; exact ⟨_,rfl⟩
theorem gJ:cj X (.type "int") (fun xs H Q=>(∃ i,xs=[.int i]∧Q (.int i) H)∨∃ k,xs=[.bl k]∧Q (.int (if k then 1 else 0)) H):=by
 (try refine ⟨?_⟩); intro pins s σ H xs us Q I r h
 rcases h with ⟨i,rfl,q⟩ | ⟨k,rfl,q⟩
 ·obtain ⟨u,rfl,t,rfl⟩:=fw r
  exact call_int_int ⟨.int i,H,I,⟨_,rfl⟩,q⟩
 ·obtain ⟨u,rfl,r1⟩:=fw r
  cases r1
  exact call_int_bool ⟨.int (if k then 1 else 0),H,I.tok _,⟨_,rfl⟩,q⟩
end
structure ObjM (h:Heap) (x dx C:Addr) (mA:Str→Option Value):Prop where
 obj:h.get? x=some (PySem.W.instObj C dx)
 ns:h.Ns1 dx mA
 ne:dx≠x
theorem pH {h:Heap} {dx:Addr} {mA:Str→Option Value} (n:h.Ns1 dx mA):∃ od,h.get? dx=some od∧∀ name,PySem.W.lookIn name od=some (mA name):=by
 obtain ⟨o,es,ep,ho,hd,hk,_,hm⟩:=n
 refine ⟨o,ho,fun name=>?_⟩
 have e:=hm name
 unfold nsFind findBy at e
 rw [← Array.find?_toList] at e
 unfold PySem.W.lookIn
 rw [hd]
 dsimp only
 split
 ·rename_i y q
  rw [q] at e
  exact congrArg some e
 ·rename_i q
  rw [q] at e
  have a:es.toList.any (·.refKey)=false:=by
   rw [List.any_eq_false]
   intro y hy
   obtain ⟨z,t,hkey⟩:=hk y (Array.mem_toList_iff.mp hy)
   simp [DictEntry.refKey,hkey]
  have a' : ¬ es.toList.any (·.refKey)=true:=by rw [a]; exact Bool.false_ne_true
  rw [if_neg a']
  exact congrArg some e
theorem ObjM.look {h:Heap} {x dx C:Addr} {mA:Str→Option Value} (I:ObjM h x dx C mA):∃ od,PySem.W.InstAt h x (PySem.W.instObj C dx) C (some od)∧∀ name,PySem.W.lookIn name od=some (mA name) :=
 let ⟨od,ho,hl⟩:=pH I.ns
 ⟨od,⟨I.obj,rfl,rfl,ho⟩,hl⟩
section
variable {prog:Program} {w:World} {A:Around} {E:Value→Shared→Prop} {s:Shared} {K:PySem.W.Frag} {x dx C f:Addr} {mA:Str→Option Value} {name:Str} {v:Value}
end
theorem h9.some_of {v:V} {o:Option Value} (r:h9 (some v) o):∃ u,o=some u∧aT v u:=by
 cases o with
 | none=>exact (show False from r).elim
 | some u=>exact ⟨u,rfl,r⟩
section
variable {P:Program} {w:World} {H H':Hp} {h h':Heap} {a C dx:Addr} {fs fs':List (Str×V)}
theorem uD (hok:HOk P w H h) (e:H a=some (.ins C dx fs)):∃ mA,ObjM h a dx C mA∧(∀ f,h9 (fs.lookup f) (mA f))∧PySem.Within mA (fs.map (·.1))∧fs.length≤1000∧H dx=some (.own a):=by
 obtain ⟨d,z,ne,ob,mA,n,r,q⟩:=(show aP P w H h a (.ins C dx fs) from hok a _ e)
 exact ⟨mA,⟨ob,n,ne⟩,r,q,z,d⟩
end
structure Cls (K:PySem.W.Frag) (C:Addr):Prop where
 pg:PySem.W.plainGet K C Str.empty=true
 hd:PySem.W.hasDictIn K C=true
 po:PySem.W.plainOver K C=true
 sa:PySem.W.findIn K (.ref C) "__setattr__" = some (some (.builtin "object.__setattr__"))
theorem Cls.get {K:PySem.W.Frag} {C:Addr} (c:Cls K C) (f:Str):PySem.W.plainGet K C f=true:=c.pg
section
variable {X:Cx} {pins:List (Addr×Obj)} {σ:St} {H:Hp} {s:Shared} {a C dx:Addr} {fs:List (Str×V)} {f:Str} {v:V} {A:Around} {E:Value→Shared→Prop}
end
section
variable {X:Cx} {o e value:Expr} {f:Str} {pos pos' tpos:Pos} {ta tv:TE}
end
section
variable {X:Cx} {pins:List (Addr×Obj)} {σ:St} {H:Hp} {s:Shared} {A:Around} {E:Value→Shared→Prop} {Q:Value→Shared→Prop} {c:Value} {b:Bool}
inductive TyOf (K:PySem.W.Frag) (H:Hp):V→Value→Prop where
 | non:TyOf K H .non (.type "NoneType")
 | bl (x:Bool):TyOf K H (.bl x) (.type "bool")
 | int (i:Int):TyOf K H (.int i) (.type "int")
 | str (x:Str):TyOf K H (.str x) (.type "str")
 | flt (x:UInt64):TyOf K H (.flt x) (.type "float")
 | lst {a:Addr} {xs:List V} (e:H a=some (.lst xs)):TyOf K H (.ref a) (.type "list")
 | frz {a:Addr} {o:Obj} {xs:List V} (e:H a=some (.frz o (.lst xs))):TyOf K H (.ref a) (.type "list")
 | tup {a:Addr} {xs:List V} (e:H a=some (.tup xs)):TyOf K H (.ref a) (.type "tuple")
 | dK {a:Addr} {kvs:List (Key×V)} (e:H a=some (.dK kvs)):TyOf K H (.ref a) (.type "dict")
 | dT {a:Addr} {kvs:List (List Key×V)} (e:H a=some (.dT kvs)):TyOf K H (.ref a) (.type "dict")
 | ins {a C dx:Addr} {fs:List (Str×V)} (e:H a=some (.ins C dx fs)) (cl:Cls K C) (ha:PySem.W.findIn K (.ref C) "__class__" = some (some (.builtin "object.__class__")))
  (hn:PySem.W.specialIn K (.builtin "object.__class__") "__get__" = some (some (.builtin "getset_descriptor.__get__"))) (htk:PySem.W.takesIn K (.builtin "object.__class__")=some true)
  (hm:PySem.W.mroIn K C (.type "object")=some true):TyOf K H (.ref a) (.ref C)
theorem jy {x:V} {u t:Value} (I:Inv X pins σ H s) (rx:aT x u) (ty:TyOf X.K H x t) (e:PySem.W.kitOne X.K t c=some b) (h:∀ tk,Q (.bool b) { s with toks:=tk }) :
 wpAny 'b' A (call (.builtin "isinstance") [u,c]) Q E s:=by
 cases ty with
 | non=>cases (show u=Value.none from rx); exact PySem.W.kia_one PySem.W.kitx_none I.kIn True.intro e (fun z=>nomatch z) h
 | bl y=>cases (show u=Value.bool y from rx); exact PySem.W.kia_one PySem.W.kitx_bool I.kIn True.intro e (fun z=>nomatch z) h
 | int i=>obtain ⟨t,q⟩:=(show ∃ t,u=Value.int i t from rx); cases q; exact PySem.W.kia_one PySem.W.kitx_int I.kIn True.intro e (fun z=>nomatch z) h
 | str y=>obtain ⟨t,q⟩:=(show ∃ t,u=Value.str y t from rx); cases q; exact PySem.W.kia_one PySem.W.kitx_str I.kIn True.intro e (fun z=>nomatch z) h
 | flt y=>obtain ⟨t,q⟩:=(show ∃ t,u=Value.float y t from rx); cases q; exact PySem.W.kia_one PySem.W.kitx_float I.kIn True.intro e (fun z=>nomatch z) h
 | @lst a xs ea =>
  cases (show u=Value.ref a from rx)
  obtain ⟨_,_,n,_,h1⟩:=(show aP X.prog X.w H s.heap a 'p' from I.hok a _ ea)
  exact PySem.W.kia_one PySem.W.kitx_list I.kIn ⟨_,h1,rfl⟩ e (fun z=>nomatch z) h
 | @frz a ob xs ea =>
  cases (show u=Value.ref a from rx)
  obtain ⟨_,_,_,n,_,h1⟩:=(show aP X.prog X.w H s.heap a (.frz ob 'p') from I.hok a _ ea)
  exact PySem.W.kia_one PySem.W.kitx_list I.kIn ⟨_,h1,rfl⟩ e (fun z=>nomatch z) h
 | @tup a xs ea =>
  cases (show u=Value.ref a from rx)
  obtain ⟨_,_,_,p⟩:=(show aP X.prog X.w H s.heap a (.tup xs) from I.hok a _ ea)
  obtain ⟨o,h1,h2,_⟩:=p
  exact PySem.W.kia_one PySem.W.kitx_tuple I.kIn ⟨o,h1,h2⟩ e (fun z=>nomatch z) h
 | @dK a kvs ea =>
  cases (show u=Value.ref a from rx)
  obtain ⟨_,_,vs,_,p⟩:=(show aP X.prog X.w H s.heap a (.dK kvs) from I.hok a _ ea)
  obtain ⟨o,es,ep,h1,h2,_⟩:=p
  exact PySem.W.kia_one PySem.W.kitx_dict I.kIn ⟨o,h1,h2.1⟩ e (fun z=>nomatch z) h
 | @dT a kvs ea =>
  cases (show u=Value.ref a from rx)
  obtain ⟨_,_,xs,_,o,es,ep,h1,h2,_⟩:=(show aP X.prog X.w H s.heap a (.dT kvs) from I.hok a _ ea)
  exact PySem.W.kia_one PySem.W.kitx_dict I.kIn ⟨o,h1,h2.1⟩ e (fun z=>nomatch z) h
 | @ins a C dx fs ea cl ha hn htk hm =>
  cases (show u=Value.ref a from rx)
  obtain ⟨mA,O,_⟩:=uD I.hok ea
  obtain ⟨od,J,_⟩:=O.look
  exact PySem.W.kia_one (PySem.W.kitx_own (cl.get _) cl.hd ha hn htk hm) I.kIn J e (fun z=>nomatch z) h
end
structure Room (k:Nat) (A:Around):Prop where
 hd:A.handled=none
 dp:A.depth + 3 * k + 5<recursionLimit
 un:A.units + 16 * k + 200<cLine
 gd:A.guards=some []
theorem Room.mono {j k:Nat} {A:Around} (r:Room k A) (h:j≤k):Room j A:=⟨r.hd,by have:=r.dp; omega,by have:=r.un; omega,r.gd⟩
theorem Room.deeper {k:Nat} {A:Around} (r:Room (k + 1) A) (env:Env):Room k (A.deeper env) :=
 ⟨r.hd,by have:=r.dp; show A.depth + 1 + 3 * k + 5<_; omega,by have:=r.un; show A.units + 3 + 16 * k + 200<_; omega,r.gd⟩
theorem m9 {A:Around} {C:Addr} {us:List Value} {kw:List (Str×Value)}:(A.under (.builtin "type.__call__" ⟨.ref C :: us,kw⟩)).depth=A.depth + 1:=by
 first | rfl | simp [Around.under,Code.weight,Code.isCreation,Code.isGuard,Code.isCaller,Code.frames,Code.isFrame,guardIds]
theorem mJ {A:Around} {C:Addr} {us:List Value} {kw:List (Str×Value)}:(A.under (.builtin "type.__call__" ⟨.ref C :: us,kw⟩)).units=A.units + 1:=by
 first | rfl | simp [Around.under,Code.cUnits,Code.frames,Code.isFrame]
theorem Room.make {k:Nat} {A:Around} (r:Room (k + 1) A) (C:Addr) (us:List Value) (kw:List (Str×Value)):Room k (A.under (.builtin "type.__call__" ⟨.ref C :: us,kw⟩)) :=
 ⟨r.hd,by have:=r.dp; rw [m9]; omega,by have:=r.un; rw [mJ]; omega,r.gd⟩
theorem Room.depth {k:Nat} {A:Around} (r:Room k A):A.depth<recursionLimit:=by have:=r.dp; omega
theorem Room.units {k:Nat} {A:Around} (r:Room k A):A.units + 64<cLine:=by have:=r.un; omega
def tNil:TA:=fun _ H Q=>Q [] H
def tCons (ta:TE) (tr:TA):TA:=fun σ H Q=>ta σ H fun x H1=>tr σ H1 fun xs H2=>Q (x :: xs) H2
section
variable {X:Cx} {e:Expr} {es:List Expr} {te:TE} {t:TA} {pos:Pos}
theorem bI:PA X [] tNil:=⟨fun _ _ _ _ H Q I h=>Calls.spliced_nil ⟨[],H,I,.nil,h⟩⟩
theorem aX (ha:PE X e te) (hr:PA X es t) (hs:starEach (e :: es) X.env='n' :: starEach es X.env:=by rfl):PA X (e :: es) (tCons te t):=by
 (try refine ⟨?_⟩); intro pos pins s σ H Q I h
 rw [hs]
 show wpAny _ _ (spliced ('n' :: backTo pos (starEach es X.env))) _ _ s
 refine Calls.spliced_cons (thn (ha pins s σ H _ I h) fun u s1 ⟨x,H1,I1,r1,q1⟩=>?_)
 exact thn (hr pos pins s1 σ H1 _ I1 q1) fun us s2 ⟨xs,H2,I2,r2,q2⟩=>⟨x :: xs,H2,I2,.cons r1 r2,q2⟩
def tTup (t:TA):TE:=fun σ H Q=>t σ H fun xs H1=>xs.length≤sizeLine∧∀ p,H1 p=none→Q (.ref p) (upd H1 p (.tup xs))
def tLst (t:TA):TE:=fun σ H Q=>t σ H fun xs H1=>xs.length≤sizeLine∧∀ p,H1 p=none→Q (.ref p) (upd H1 p 'p')
theorem mP {x1} (h:PA X es t):PE X (.Tuple es x1 pos) (tTup t):=by
 (try refine ⟨?_⟩); intro pins s σ H Q I hq
 refine wpAny_Tuple_spliced (thn (h pos pins s σ H _ I hq) fun us s1 ⟨xs,H1,I1,r,z,q⟩=>⟨by rw [← r.length]; exact z,?_⟩)
 have hf:H1 s1.heap.objs.size=none:=I1.hok.fresh 'l'
 refine ⟨.ref s1.heap.objs.size,upd H1 s1.heap.objs.size (.tup xs),I1.laid (t':=s1.toks) (fun b u e=>Heap.get?_push_of_some _ e) 'l' ?_,rfl,q _ hf⟩
 exact ⟨z,us,r,⟨_,Heap.get?_push_size _ rfl,rfl,_,rfl⟩⟩
theorem j7 (h:PA X es t):PE X (.List es pos) (tLst t):=by
 (try refine ⟨?_⟩); intro pins s σ H Q I hq
 refine wpAny_List_spliced (thn (h pos pins s σ H _ I hq) fun us s1 ⟨xs,H1,I1,r,z,q⟩=>⟨by rw [← r.length]; exact z,?_⟩)
 have hf:H1 s1.heap.objs.size=none:=I1.hok.fresh 'l'
 refine ⟨.ref s1.heap.objs.size,upd H1 s1.heap.objs.size 'p',I1.laid (t':=s1.toks) (fun b u e=>Heap.get?_push_of_some _ e) 'l' ?_,rfl,q _ hf⟩
 exact ⟨z,us,0,r,Heap.get?_push_size _ rfl⟩
end
abbrev Sp:=List V→Hp→VK→XK→Prop
abbrev CXT:=List Env→Hp→Shared→XK→Value→Shared→Prop
structure Env0 (P:Program) (w:World) (K:PySem.W.Frag) (mg:Str→Option Value) (base:Heap) (A:Around) (outer:List Env) (s:Shared) (H:Hp):Prop where
 frames:A.frames=some outer
 mod:Mod K mg base
 bs:∀ b o,base.get? b=some o→s.heap.get? b=some o∧H b=none
 bsz:base.objs.size≤s.heap.objs.size
 funs:s.heap.FunFrames base outer
 frf:∀ b∈frs outer,H b=none
 hok:HOk P w H s.heap
 bare:AllBare s.gens
def CE (outer:List Env) (P:Program) (w:World) (H:Hp) (s:Shared) (Q:VK) (u:Value) (s':Shared):Prop :=
 ∃ v H',s'.os=s.os∧AllBare s'.gens∧Un (frs outer) [] H H' s.heap s'.heap∧HOk P w H' s'.heap∧aT v u∧Q v H'
def CR (CX:CXT) (outer:List Env) (P:Program) (w:World) (H:Hp) (s:Shared) (Q:VK) (E:XK) (r:Result) (s':Shared):Prop :=
 match r with
 | .ok (.ret u)=>CE outer P w H s Q u s'
 | .ok _=>False
 | .error e=>CX outer H s E e s'
structure FnOk (P:Program) (w:World) (K:PySem.W.Frag) (mg:Str→Option Value) (base:Heap) (CX:CXT) (k:Nat) (f:Addr) (fd:FuncData) (ps:List Str) (sp:Sp):Prop where
 len:∀ vs H Q E,sp vs H Q E→vs.length=ps.length
 run:∀ (A:Around) (outer:List Env) (s:Shared) (H:Hp) (args:Args) (us:List Value) (vs:List V) (Q:VK) (E:XK),Room k A→Env0 P w K mg base A outer s H→BindsTo s fd args (ps.zip us)→aM vs us→sp vs H Q E →
  codeAny (model P w) A (.call (.ref f) args) (CR CX outer P w H s Q E) s
theorem FnOk.imp {P:Program} {w:World} {K:PySem.W.Frag} {mg:Str→Option Value} {base:Heap} {CX:CXT} {k:Nat} {f:Addr} {fd:FuncData} {ps:List Str} {sp sp':Sp} (F:FnOk P w K mg base CX k f fd ps sp)
 (h:∀ vs H Q E,sp' vs H Q E→sp vs H Q E):FnOk P w K mg base CX k f fd ps sp' :=
 ⟨fun vs H Q E q=>F.len vs H Q E (h _ _ _ _ q),fun A outer s H args us vs Q E hr he hb hv hs=>F.run A outer s H args us vs Q E hr he hb hv (h _ _ _ _ hs)⟩
theorem Env0.make {P:Program} {w:World} {K:PySem.W.Frag} {mg:Str→Option Value} {base:Heap} {A:Around} {outer:List Env} {s:Shared} {H:Hp} (e:Env0 P w K mg base A outer s H) (C:Addr) (us:List Value) (kw:List (Str×Value)) :
 Env0 P w K mg base (A.under (.builtin "type.__call__" ⟨.ref C :: us,kw⟩)) outer s H:=⟨by first | exact e.frames | (simpa [Around.under,Code.envs,Code.isFrame,pushEnvs] using e.frames),e.mod,e.bs,e.bsz,e.funs,e.frf,e.hok,e.bare⟩
section
variable {X:Cx} {pins:List (Addr×Obj)} {σ:St} {H:Hp} {s s':Shared}
theorem Inv.env0 (I:Inv X pins σ H s):Env0 X.prog X.w X.K X.mg X.base X.A X.stack s H :=
 ⟨I.ok.frames,I.ok.mod,I.bs,Nat.le_trans I.ok.bsz I.sz,I.stack,I.stkFree,I.hok,I.bare⟩
theorem Inv.after {Q:VK} {u:Value} (I:Inv X pins σ H s) (h:CE X.stack X.prog X.w H s Q u s'):EP X pins σ Q u s':=by
 obtain ⟨v,H',os,bare,un,hok,r,q⟩:=h
 obtain ⟨hh,g,d,t,os'⟩:=s'
 obtain rfl:os'=s.os:=os
 exact ⟨v,H',I.call (h':=hh) (g':=g) (d':=d) (t':=t) (ch:=[]) un hok bare (fun b z=>absurd z (by simp)),r,q⟩
end
def tCall (sp:Sp) (dvs:List V) (E:XK) (t:TA):TE:=fun σ H Q=>t σ H fun vs H1=>sp (vs++dvs) H1 Q E
def cD (K:PySem.W.Frag) (fd:FuncData) (ps:List Str) (ds:List Value):Prop :=
 ∀ (s:Shared) (us:List Value),K.In s.heap→(us++ds).length=ps.length→BindsTo s fd ⟨us,[]⟩ (ps.zip (us++ds))
theorem cD.all {K:PySem.W.Frag} {fd:FuncData} {ps:List Str} (h:∀ us:List Value,us.length=ps.length→bindArgs fd ⟨us,[]⟩=pure (ps.zip us)):cD K fd ps []:=fun s us _ hl=>by
 rw [List.append_nil] at hl ⊢
 exact .of_eq (h us hl)
def nB (CX:CXT) (X:Cx) (E:XK):Prop:=∀ (pins:List 'h') (σ:St) (H:Hp) (s:Shared) (e:Value) (s':Shared),Inv X pins σ H s→CX X.stack H s E e s'→X.xe e s'
section
variable {X:Cx} {CX:CXT} {k:Nat} {f C:Addr} {fd:FuncData} {ps:List Str} {sp:Sp} {dvs:List V} {ds:List Value} {E:XK} {x m:Str} {p pos apos:Pos} {e o:Expr} {es:List Expr} {ta:TE} {t:TA}
theorem wT {pins:List 'h'} {σ:St} {H:Hp} {s:Shared} {Q:VK} {us:List Value} {vs:List V} (F:FnOk X.prog X.w X.K X.mg X.base CX k f fd ps sp) (hr:Room k X.A) (hb:cD X.K fd ps ds) (hd:aM dvs ds) (hx:nB CX X E)
 (I:Inv X pins σ H s) (r:aM vs us) (h:sp (vs++dvs) H Q E):wpAny 'b' X.A (call (.ref f) us) (EP X pins σ Q) X.xe s:=by
 have r2:aM (vs++dvs) (us++ds):=r.append hd
 have hl:(us++ds).length=ps.length:=by rw [← r2.length]; exact F.len _ _ _ _ h
 refine wpAny_call (codeAny_mono (F.run X.A X.stack s H ⟨us,[]⟩ (us++ds) (vs++dvs) Q E hr I.env0 (hb s us I.kIn hl) r2 h) fun r s' hq=>?_)
 cases r with
 | error e=>exact hx pins σ H s e s' I hq
 | ok fl =>
  cases fl with
  | ret u=>exact I.after hq
  | next=>exact False.elim hq
  | brk=>exact False.elim hq
  | cont=>exact False.elim hq
theorem oK (F:FnOk X.prog X.w X.K X.mg X.base CX k f fd ps sp) (hr:Room k X.A) (hg:Gl X x) (hm:X.mg x=some (.ref f)) (hk:PySem.W.keepIn X.K (.ref f)=true) (hb:cD X.K fd ps ds) (hd:aM dvs ds) (hx:nB CX X E)
 (ha:PA X (e :: es) t) (hdb:'d'=false:=by decide) (he:starEach (e :: es) X.env='n' :: starEach es X.env:=by rfl) (hpl:'m'.any (·.1)=false:=by rfl) :
 PE X (.Call (.Name x p) (e :: es) [] pos) (tCall sp dvs E t):=by
 (try refine ⟨?_⟩); intro pins s σ H Q I h
 refine wpAny_Call_Name_kw (fb I hg hm ?_ hdb)
 refine PySem.W.callWith_K (h₀:=X.base) I.ok.mod.kin hk (thn (ha pos pins s σ H _ I h) fun us s1 ⟨vs,H1,I1,r,q⟩=>⟨I1.kIn,?_⟩) he hpl
 exact wT F hr hb hd hx I1 r q
structure Mk (K:PySem.W.Frag) (C f:Addr):Prop where
 makes:PySem.W.makesIn K C=true
 init:PySem.W.findIn K (.ref C) "__init__" = some (some (.ref f))
 fn:PySem.W.isFn K (.ref f)=true
 kp:PySem.W.keepIn K (.ref C)=true
end
section
variable {X:Cx} {CX:CXT} {k:Nat} {f C:Addr} {fd:FuncData} {ps ks:List Str} {sp:Sp} {E:XK} {x m:Str} {p pos apos kpos:Pos} {e o:Expr} {es:List Expr} {kws:List Keyword} {te ta:TE} {t tk:TA} {nm:Option Str}
variable {g:List Value→List Value→List Value} {gV:List V→List V→List V}
end
structure FnScope (N P:List Str) (sc:Scope):Prop where
 kind:sc.kind = .function
 co:sc.isCoroutine=false
 gen:sc.isGenerator=false
 nd:N.Nodup
 pre:N.take P.length=P
 par:∀ x∈P,sc.names.lookup x=some .local∨sc.names.lookup x=some .cell
 nofree:∀ y∈sc.names,y.2≠.free
theorem jC {kindOf:Str→Option NameKind} {x:Str}:∀ {binds:List (Str×Value)} {m:Str→Option Value},(∀ v,(x,v) ∉ binds)→bindL kindOf binds m x=m x
 | [],_,_=>rfl
 | (n,v) :: r,m,h=>by
  unfold bindL
  rw [jC fun w hw=>h w (List.mem_cons_of_mem _ hw)]
  split
  ·have:x≠n:=by rintro rfl; exact h v List.mem_cons_self
   simp [this]
  ·rfl
theorem jH {kindOf:Str→Option NameKind} {x:Str}:∀ {binds:List (Str×Value)} {m:Str→Option Value},(∀ v,(x,v) ∉ binds)→bindC kindOf binds m x=m x
 | [],_,_=>rfl
 | (n,v) :: r,m,h=>by
  unfold bindC
  rw [jH fun w hw=>h w (List.mem_cons_of_mem _ hw)]
  split
  ·rfl
  ·have:x≠n:=by rintro rfl; exact h v List.mem_cons_self
   simp [this]
theorem jD {kindOf:Str→Option NameKind} {x:Str} {v:Value}:∀ {P:List Str} {vs:List Value} {i:Nat} {m:Str→Option Value},P.Nodup→P[i]? = some x→vs[i]? = some v→kindOf x=some .local →
 bindL kindOf (P.zip vs) m x=some v
 | [],_,_,_,_,h,_,_=>by simp at h
 | _ :: _,[],_,_,_,_,h,_=>by simp at h
 | p :: P,w :: vs,0,m,nd,h1,h2,hk=>by
  simp at h1 h2; subst h1; subst h2
  show bindL kindOf ((p,w) :: P.zip vs) m p=_
  unfold bindL
  rw [jC fun v hv=>(List.nodup_cons.mp nd).1 (List.of_mem_zip hv).1,if_pos hk]
  simp
 | p :: P,w :: vs,i + 1,m,nd,h1,h2,hk=>by
  show bindL kindOf ((p,w) :: P.zip vs) m x=_
  unfold bindL
  exact jD (i:=i) (List.nodup_cons.mp nd).2 (by simpa using h1) (by simpa using h2) hk
theorem jE {kindOf:Str→Option NameKind} {x:Str} {v:Value}:∀ {P:List Str} {vs:List Value} {i:Nat} {m:Str→Option Value},P.Nodup→P[i]? = some x→vs[i]? = some v→kindOf x≠some .local →
 bindC kindOf (P.zip vs) m x=some v
 | [],_,_,_,_,h,_,_=>by simp at h
 | _ :: _,[],_,_,_,_,h,_=>by simp at h
 | p :: P,w :: vs,0,m,nd,h1,h2,hk=>by
  simp at h1 h2; subst h1; subst h2
  show bindC kindOf ((p,w) :: P.zip vs) m p=_
  unfold bindC
  rw [jH fun v hv=>(List.nodup_cons.mp nd).1 (List.of_mem_zip hv).1,if_neg hk]
  simp
 | p :: P,w :: vs,i + 1,m,nd,h1,h2,hk=>by
  show bindC kindOf ((p,w) :: P.zip vs) m x=_
  unfold bindC
  exact jE (i:=i) (List.nodup_cons.mp nd).2 (by simpa using h1) (by simpa using h2) hk
def de (N:List Str) (vs:List V):St:=vs.map some++List.replicate (N.length - vs.length) none
def iJ (CX:CXT) (P:Program) (w:World) (K:PySem.W.Frag) (mg:Str→Option Value) (base:Heap) (N:List Str) (qual:Str) (scope:Scope) (f:Addr) (cd:Value) (A:Around) (outer:List Env) (s:Shared) (H:Hp) (E:XK):Cx where
 prog:=P
 w:=w
 K:=K
 mg:=mg
 base:=base
 A:=A.deeper (envOfC qual scope s.heap.objs.size f cd)
 N:=N
 s₀:=s
 H₀:=H
 env:=envOfC qual scope s.heap.objs.size f cd
 outer:=outer
 stack:=envOfC qual scope s.heap.objs.size f cd :: outer
 ex:=[]
 calm:=true
 fn:=fun _=>true
 pn:=[]
 xe:=fun e s'=>wpAny (model P w) (A.deeper (envOfC qual scope s.heap.objs.size f cd)) (leaving (envOfC qual scope s.heap.objs.size f cd) e) (fun _ s''=>CX outer H s E e s'') (fun e' s''=>CX outer H s E e' s'') s'
theorem lD {sc:Scope} {n:Nat} {x:Str} (h:sc.names.lookup x=some .cell):∃ c,(cellsFrom n sc.names []).lookup x=some c:=by
 have q:=PySem.W.cellsFrom_some sc.names n [] (.inl h)
 exact Option.isSome_iff_exists.mp q
theorem pQ {CX:CXT} {P:Program} {w:World} {K:PySem.W.Frag} {mg:Str→Option Value} {base:Heap} {N ps:List Str} {qual:Str} {scope:Scope} {f:Addr} {cd:Value} {A:Around} {outer:List Env} {s s1:Shared} {H:Hp} {E:XK} {us:List Value} {vs:List V}
 (S:FnScope N ps scope) (hd:A.handled=none) (e0:Env0 P w K mg base A outer s H) (hl:vs.length=ps.length) (r:aM vs us)
 (x:InCallC s s.heap.objs.size (bindL (envOfC qual scope s.heap.objs.size f cd).kindOf (ps.zip us) fun _=>none) (cellsFrom (s.heap.objs.size + 1) scope.names []) (bindC (envOfC qual scope s.heap.objs.size f cd).kindOf (ps.zip us) fun _=>none) s1) :
 Inv (iJ CX P w K mg base N qual scope f cd A outer s H E) [] (de N vs) H s1:=by
 have hpl:ps.length≤N.length:=by have:=congrArg List.length S.pre; rw [List.length_take] at this; omega
 obtain ⟨h1,tk,rfl,hk⟩:=x.done
 have noA:∀ b:Addr,b ∉ (iJ CX P w K mg base N qual scope f cd A outer s H E).ex:=fun b z=>absurd (show b∈([]:List Addr) from z) (by simp)
 refine ⟨⟨e0.mod,S.kind,rfl,rfl,Nat.le_refl _,fun y z c h1 h2=>?_,fun y hy=>?_,fun y c _ h=>?_,fun _=>hd,Around.frames_deeper e0.frames,.inr ⟨rfl,rfl⟩,fun b z=>absurd z (noA b),e0.bs,e0.bsz,fun b _ _=>noA b,fun b z=>absurd z (noA b),e0.funs,e0.frf⟩,
  rfl,e0.bare,Un.kept hk,⟨_,x.toInCall.ns,fun i y v h1 h2 h3=>?_⟩,fun y c h=>⟨_,x.cell y c h⟩,e0.hok.fresh 'l',fun y c h=>?_,fun p hp=>absurd (show p∈([]:List 'h') from hp) (by simp),e0.hok.kept hk,?_⟩
 ·exact name_of_addr x.apart (PySem.mem_of_lookup h1) (PySem.mem_of_lookup h2)
 ·have hy:scope.names.lookup y=some .cell∨scope.names.lookup y=some .free:=hy
  rcases hy with hy | hy
  ·exact lD hy
  ·exact absurd rfl (S.nofree _ (PySem.mem_of_lookup hy))
 ·exact Nat.le_of_lt (x.above y c (PySem.mem_of_lookup h))
 ·have hi:i<vs.length:=by
   unfold de at h2
   by_cases hi:i<vs.length
   ·exact hi
   ·rw [List.getElem?_append_right (by simpa using hi)] at h2
    rw [List.getElem?_replicate] at h2
    split at h2 <;> cases h2
  have ha:vs[i]? = some v:=by
   unfold de at h2
   rw [List.getElem?_append_left (by simpa using hi),List.getElem?_map] at h2
   cases e:vs[i]? with
   | none=>rw [e] at h2; cases h2
   | some a=>rw [e] at h2; cases h2; rfl
  obtain ⟨u,hu,rv⟩:=r.get ha
  have hp:ps[i]? = some y:=by
   rw [← S.pre,List.getElem?_take_of_lt 'a']; exact h1
  have ndP:ps.Nodup:=by rw [← S.pre]; exact S.nd.sublist (List.take_sublist _ _)
  refine ⟨u,rv,?_⟩
  rcases S.par y (List.mem_of_getElem? hp) with k | k
  ·exact .inl ⟨k,jD ndP hp hu k⟩
  ·obtain ⟨c,e⟩:=lD (n:=s.heap.objs.size + 1) k
   refine .inr ⟨.inl k,c,e,?_⟩
   have q:=x.cell y c e
   rw [jE ndP hp hu (by show scope.names.lookup y≠_; rw [k]; decide)] at q
   exact q
 ·exact e0.hok.fresh (Nat.le_of_lt (x.above y c (PySem.mem_of_lookup h)))
 ·unfold de
  show _=N.length
  rw [List.length_append,List.length_map,List.length_replicate]
  omega
theorem vK {CX:CXT} {P:Program} {w:World} {K:PySem.W.Frag} {mg:Str→Option Value} {base:Heap} {k:Nat} {f:Addr} {name qual:Str} {params:Arguments} {body:List Stmt} {scope:Scope} {dV kV doc pm cdv ct oc:Value} {an od:Option Addr}
 {osl:Array (Option Value)} {N ps:List Str} {sp:Sp} (lk:K.lookup f=some ⟨oc,od,.func (PySem.W.fnOf name qual params body scope dV kV doc pm an cdv ct),osl⟩) (hcd:PySem.W.codeIn K cdv qual=true) (S:FnScope N ps scope)
 (len:∀ vs H Q E,sp vs H Q E→vs.length=ps.length)
 (hbody:∀ (A:Around) (outer:List Env) (s:Shared) (H:Hp) (vs:List V) (Q:VK) (E:XK),Room k (A.deeper (envOfC qual scope s.heap.objs.size f cdv))→sp vs H Q E →
  ∃ t,PSs (iJ CX P w K mg base N qual scope f cdv A outer s H E) body t∧t { nx:=fun _ H'=>Q .non H',rt:=Q } (de N vs) H) :
 FnOk P w K mg base CX (k + 1) f (PySem.W.fnOf name qual params body scope dV kV doc pm an cdv ct) ps sp:=by
 refine ⟨len,fun A outer s H args us vs Q E hr e0 hb r hsp=>?_⟩
 have hl:=len _ _ _ _ hsp
 have KX:K.In s.heap:=e0.mod.kin.keeps fun b o e=>(e0.bs b o e).1
 have lim:s.heap.NoLimit:=e0.mod.nolimit.keeps fun b o e=>(e0.bs b o e).1
 have hkind:∀ y∈ps.zip us,scope.names.lookup y.1=some .local∨(scope.names.lookup y.1=some .cell∧((cellsFrom (s.heap.objs.size + 1) scope.names []).lookup y.1).isSome=true):=fun ⟨n,v⟩ hy=>by
  rcases S.par n (List.of_mem_zip hy).1 with q | q
  ·exact .inl q
  ·exact .inr ⟨q,PySem.W.cellsFrom_some _ _ _ (.inl q)⟩
 refine codeAny_call_function hr.depth (KX _ _ lk) rfl S.co S.gen rfl (PySem.W.codeRec_of KX hcd) (hb _ _ _ _ ?_)
 refine wpAny_newFunctionEnv_cells S.kind hkind fun env he s1 x=>?_
 subst he
 refine ⟨lim.keeps x.toInCall.keep,codeAny_func ?_⟩
 obtain ⟨t,ht,hq⟩:=hbody A outer s H vs Q E (hr.deeper _) hsp
 have I:Inv (iJ CX P w K mg base N qual scope f cdv A outer s H E) [] (de N vs) H s1:=pQ S hr.hd e0 hl r x
 refine wpAny_mono (ht [] s1 (de N vs) H _ I hq) (fun fl s' hs=>?_) fun e s' hs=>hs
 have fin:∀ {σ':St} {H':Hp} {v:V} {u:Value},Inv (iJ CX P w K mg base N qual scope f cdv A outer s H E) [] σ' H' s'→aT v u→Q v H'→CE outer P w H s Q u s' :=
  fun {σ' H' v u} J rv q=>⟨v,H',J.os,J.bare,J.base,J.hok,rv,q⟩
 cases fl with
 | ret u =>
  obtain ⟨v,σ',H',J,rv,q⟩:=hs
  exact fin J rv q
 | next =>
  obtain ⟨σ',H',J,q⟩:=hs
  exact fin (v:=V.non) (u:=Value.none) J rfl q
 | brk =>
  obtain ⟨_,_,_,q⟩:=hs
  exact False.elim q
 | cont =>
  obtain ⟨_,_,_,q⟩:=hs
  exact False.elim q
section
variable {X:Cx} {x:Str} {p pos:Pos} {e:Expr} {es:List Expr} {t:TA} {id T:String} {r:List V→Hp→VK→Prop}
def tCB (r:List V→Hp→VK→Prop) (t:TA):TE:=fun σ H Q=>t σ H fun vs H1=>r vs H1 Q
theorem eK (hc:cj X (.builtin id) r) (hg:Gl X x) (hm:X.mg x=none) (hv:bootBuiltins x=some (.builtin id)) (ha:PA X (e :: es) t) (hn:x ≠ "__name__":=by decide) (hdb:'d'=false:=by decide)
 (he:starEach (e :: es) X.env='n' :: starEach es X.env:=by rfl) (hpl:'m'.any (·.1)=false:=by rfl):PE X (.Call (.Name x p) (e :: es) [] pos) (tCB r t):=by
 (try refine ⟨?_⟩); intro pins s σ H Q I h
 refine wpAny_Call_Name_kw (eT I hg hm hv ?_ hn hdb)
 exact PyProof.Rows.callWith_builtin1 (thn (ha pos pins s σ H _ I h) fun us s1 ⟨vs,H1,I1,r1,q1⟩=>hc pins s1 σ H1 vs us Q I1 r1 q1) he hpl
theorem e6 (hc:cj X (.type T) r) (hg:Gl X x) (hm:X.mg x=none) (hv:bootBuiltins x=some (.type T)) (ha:PA X (e :: es) t) (hn:x ≠ "__name__":=by decide) (hdb:'d'=false:=by decide)
 (he:starEach (e :: es) X.env='n' :: starEach es X.env:=by rfl) (hpl:'m'.any (·.1)=false:=by rfl):PE X (.Call (.Name x p) (e :: es) [] pos) (tCB r t):=by
 (try refine ⟨?_⟩); intro pins s σ H Q I h
 refine wpAny_Call_Name_kw (eT I hg hm hv ?_ hn hdb)
 exact PyProof.Rows.callWith_type1 (thn (ha pos pins s σ H _ I h) fun us s1 ⟨vs,H1,I1,r1,q1⟩=>hc pins s1 σ H1 vs us Q I1 r1 q1) he hpl
end
end L2
namespace HT
open PySem PyProof.Rows
section
open PySem.SeqAt
open PySem.AutoSeq1 (wpAny_loadPart')
open PySem.MeetsSeq PySem.MeetsSeq2 PySem.MeetsSeq3
end
section
variable {prog:Program} {w:World} {A:Around} {E:Value→Shared→Prop} {s:Shared}
def sIx (n d:Nat):Option Int→Nat
 | none=>d
 | some v=>if v<0 then (v + (n:Int)).toNat else min v.toNat n
theorem sIx_none (n d:Nat):sIx n d none=d:=rfl
theorem sIx_nat (n d k:Nat):sIx n d (some (k:Int))=min k n:=by
 show (if (k:Int)<0 then ((k:Int) + (n:Int)).toNat else min (k:Int).toNat n)=min k n
 rw [if_neg 'a',Int.toNat_natCast]
end
end HT
namespace L2
open PySem PySem.Spec PyProof.Rows
abbrev TO:=St→Hp→(Option Int→Hp→Prop)→Prop
structure PO (X:Cx) (e:Option Expr) (t:TO):Prop where
 go:∀ (pins:List 'h') (s:Shared) (σ:St) (H:Hp) (Q:Option Int→Hp→Prop),Inv X pins σ H s→t σ H Q →
  wpAny 'b' X.A (evalPart e X.env) (fun u s'=>∃ o H',Inv X pins σ H' s'∧IsPart u o∧Q o H') X.xe s
instance {X:Cx} {e:Option Expr} {t:TO}:CoeFun (PO X e t) fun _=>∀ (pins:List 'h') (s:Shared) (σ:St) (H:Hp) (Q:Option Int→Hp→Prop),Inv X pins σ H s→t σ H Q →
 wpAny 'b' X.A (evalPart e X.env) (fun u s'=>∃ o H',Inv X pins σ H' s'∧IsPart u o∧Q o H') X.xe s:=⟨fun h=>h.go⟩
def uU:TO:=fun _ H Q=>Q none H
def tPart (t:TE):TO:=fun σ H Q=>t σ H fun x H1=>∃ i,x = .int i∧Q (some i) H1
theorem nM {ns:List Int}:∀ {us:List Value},aM (ns.map V.int) us→IntsAre us ns:=by
 induction ns with
 | nil=>intro us r; rw [List.map_nil] at r; cases r; exact .nil
 | cons n ns ih =>
  intro us r
  rw [List.map_cons] at r
  cases r with
  | cons r1 r2 =>
   obtain ⟨t,e⟩:=r1
   subst e
   exact .cons n t (ih r2)
section
variable {X:Cx} {e:Expr} {te:TE} {lo hi:Option Expr} {tl th:TO} {pos p2:Pos}
theorem uO:PO X none uU:=by
 (try refine ⟨?_⟩); intro pins s σ H Q I h
 rw [evalPart_none]
 exact wpAny_pure ⟨none,H,I,.none,h⟩
theorem uN (h:PE X e te):PO X (some e) (tPart te):=by
 (try refine ⟨?_⟩); intro pins s σ H Q I hw
 rw [evalPart_some]
 refine thn (h pins s σ H _ I hw) fun u s1 ⟨x,H1,I1,r1,q1⟩=>?_
 obtain ⟨i,rfl,q⟩:=q1
 obtain ⟨t,rfl⟩:=r1
 exact ⟨some i,H1,I1,.int i t,q⟩
def SlR (X:Cx) (r:V→Option Int→Option Int→Hp→VK→Prop):Prop :=
 ∀ (pins:List 'h') (s:Shared) (σ:St) (H:Hp) (x:V) (v vl vu:Value) (lo hi:Option Int) (sl:Addr) (Q:VK),Inv X pins σ H s→aT x v→s.heap.IsSliceOf sl vl vu .none→IsPart vl lo→IsPart vu hi→r x lo hi H Q →
  ∃ T id,typeLookup (.type T) "__getitem__" = pure (some (.builtin id))∧s.TypeIs v T∧wpAny 'b' X.A (getItem v (.ref sl)) (EP X pins σ Q) X.xe s
def tSl (r:V→Option Int→Option Int→Hp→VK→Prop) (te:TE) (tl th:TO):TE:=fun σ H Q=>te σ H fun x H1=>tl σ H1 fun l H2=>th σ H2 fun u H3=>r x l u H3 Q
theorem qW {r:V→Option Int→Option Int→Hp→VK→Prop} (hr:SlR X r) (he:PE X e te) (hl:PO X lo tl) (hu:PO X hi th):PE X (.Subscript e (.Slice lo hi none p2) pos) (tSl r te tl th):=by
 (try refine ⟨?_⟩); intro pins s σ H Q I h
 refine Subscript_ (thn (he pins s σ H _ I h) fun v s1 ⟨x,H1,I1,r1,q1⟩=>?_)
 refine wpAny_Slice (thn (hl pins s1 σ H1 _ I1 q1) fun vl s2 ⟨l,H2,I2,pl,q2⟩=>thn (hu pins s2 σ H2 _ I2 q2) fun vu s3 ⟨u,H3,I3,pu,q3⟩=>?_)
 rw [evalPart_none]
 refine wpAny_pure ?_
 have I4:Inv X pins σ H3 { s3 with heap:=s3.heap.push { cls:=.type "slice",data:=.fields #[vl,vu,.none] } }:=I3.kept (t':=s3.toks) fun b ob q=>Heap.get?_push_of_some _ q
 obtain ⟨T,id,hT,ht,hg⟩:=hr pins { s3 with heap:=s3.heap.push { cls:=.type "slice",data:=.fields #[vl,vu,.none] } } σ H3 x v vl vu l u s3.heap.objs.size Q I4 r1 (Heap.IsSliceOf.new ..) pl pu q3
 show wpAny 'b' X.A (subscriptTail e (.Slice lo hi none p2) v (.ref s3.heap.objs.size)) (EP X pins σ Q) X.xe { s3 with heap:=s3.heap.push { cls:=.type "slice",data:=.fields #[vl,vu,.none] } }
 exact tail_any (ops:=[.ref s3.heap.objs.size,v]) ht hT hg (by with_unfolding_all rfl)
def mZ (xs:List V) (lo hi:Option Int):List V:=(xs.drop (HT.sIx xs.length 0 lo)).take (HT.sIx xs.length xs.length hi - HT.sIx xs.length 0 lo)
theorem lu (xs:List V) (lo hi:Option Int):(mZ xs lo hi).length≤xs.length:=by
 unfold mZ
 rw [List.length_take,List.length_drop]
 omega
theorem aM.nil_iff {xs:List V} {us:List Value} (r:aM xs us):us=[]↔xs=[]:=by
 cases r with
 | nil=>simp
 | cons _ _=>simp
end
def ixN (n:Nat) (i:Int):Option Nat:=if 0≤i then (if i<n then some i.toNat else none) else if -(n:Int)≤i then some (i + n).toNat else none
def atI {α:Type} (xs:List α) (i:Int):Option α:=(ixN xs.length i).bind fun j=>xs[j]?
theorem o6 {n:Nat} {i:Int} {j:Nat} (h:ixN n i=some j):seqIndex? i n=some j∧j<n∧-(n:Int)≤i∧i<n:=by
 unfold ixN at h
 by_cases h0 : 0≤i
 ·rw [if_pos h0] at h
  by_cases h1:i<n
  ·rw [if_pos h1] at h
   have e:i.toNat=j:=Option.some.inj h
   exact ⟨by rw [seqIndex_of h0 h1,e],by omega,by omega,h1⟩
  ·rw [if_neg h1] at h; cases h
 ·rw [if_neg h0] at h
  by_cases h1 : -(n:Int)≤i
  ·rw [if_pos h1] at h
   have e:(i + n).toNat=j:=Option.some.inj h
   exact ⟨by rw [seqIndex_neg 'a' h1,e],by omega,h1,by omega⟩
  ·rw [if_neg h1] at h; cases h
theorem kG {α:Type} {xs:List α} {i:Int} {v : α} (h:atI xs i=some v):∃ j,seqIndex? i xs.length=some j∧xs[j]? = some v∧j<xs.length∧-(xs.length:Int)≤i∧i<xs.length:=by
 unfold atI at h
 cases e:ixN xs.length i with
 | none=>rw [e] at h; cases h
 | some j =>
  rw [e] at h
  obtain ⟨h1,h2,h3,h4⟩:=o6 e
  exact ⟨j,h1,h,h2,h3,h4⟩
theorem fc {α:Type} {xs:List α} {j:Nat} {v : α} (h:xs[j]? = some v):atI xs (j:Int)=some v:=by
 have hj:j<xs.length:=(List.getElem?_eq_some_iff.mp h).1
 have e:ixN xs.length (j:Int)=some j:=by
  unfold ixN
  rw [if_pos 'a',if_pos 'a']; simp
 unfold atI; rw [e]; exact h
theorem rX {α:Type} (xs:List α) (v : α):atI (xs++[v]) (-1)=some v:=by
 have hl:(xs++[v]).length=xs.length + 1:=by simp
 have e:ixN (xs++[v]).length (-1)=some xs.length:=by
  unfold ixN
  rw [hl,if_neg 'k',if_pos 'a']
  congr 1
  omega
 unfold atI
 rw [e]
 show (xs++[v])[xs.length]? = some v
 simp
def iw (b:Expr):Prop:=∀ o i,subscripted b false o i=operate [o,i] (getItem o i)
def IxR (X:Cx) (r:R2):Prop :=
 ∀ (value slice:Expr) (pins:List 'h') (s:Shared) (σ:St) (H:Hp) (x y:V) (v u:Value) (Q:VK),Inv X pins σ H s→aT x v→aT y u→r x y H Q →
  subscripted slice false v u=operate [v,u] (getItem v u)→wpAny 'b' X.A (subscriptTail value slice v u) (EP X pins σ Q) X.xe s
def MtR (X:Cx) (id:String) (r:V→List V→Hp→VK→Prop):Prop :=
 ∀ (pins:List 'h') (s:Shared) (σ:St) (H:Hp) (x:V) (xs:List V) (v:Value) (us:List Value) (Q:VK),Inv X pins σ H s→aT x v→aM xs us→r x xs H Q →
  wpAny 'b' X.A (call (.builtin id) (v :: us)) (EP X pins σ Q) X.xe s
section
variable {X:Cx} {a b:Expr} {ta tb:TE} {pos:Pos}
theorem IxR.or {r r':R2} (h:IxR X r) (h':IxR X r'):IxR X (fun x y H Q=>r x y H Q∨r' x y H Q):=by
 intro value slice pins s σ H x y v u Q I rx ry q hs
 rcases q with q | q
 ·exact h value slice pins s σ H x y v u Q I rx ry q hs
 ·exact h' value slice pins s σ H x y v u Q I rx ry q hs
theorem sw {r:R2} (hr:IxR X r) (ha:PE X a ta) (hb:PE X b tb) (hs:iw b):PE X (.Subscript a b pos) (tOp r ta tb):=by
 (try refine ⟨?_⟩); intro pins s σ H Q I h
 exact Subscript_ (binT ha hb I h fun v u s2 x y H2 I2 rx ry q=>hr a b pins s2 σ H2 x y v u Q I2 rx ry q (hs _ _))
def rIxL (K:PySem.W.Frag):R2:=fun x y H Q=>∃ p xs i v,x = .ref p∧y = .int i∧SqL K H p xs∧atI xs i=some v∧Q v H
def rIxT (K:PySem.W.Frag):R2:=fun x y H Q=>∃ p xs i v,x = .ref p∧y = .int i∧SqT K H p xs∧atI xs i=some v∧Q v H
def rIxS:R2:=fun x y H Q=>∃ z i c,x = .str z∧y = .int i∧z.length≤sizeLine∧atI z.cps.toList i=some c∧Q (.str ⟨#[c]⟩) H
theorem uP:IxR X (rIxL X.K):=by
 intro value slice pins s σ H x y v u Q I rx ry h hs
 obtain ⟨p,xs,i,z,rfl,rfl,hq,he,q⟩:=h
 cases rx
 obtain ⟨t,rfl⟩:=ry
 obtain ⟨its,r,pl,hz⟩:=I.list hq
 obtain ⟨j,h1,h2,h3,h4,h5⟩:=kG he
 obtain ⟨w,ew,rw'⟩:=r.get h2
 have hl:=r.length
 have hn:=gS
 have fin:EP X pins σ Q w s:=⟨z,H,I,rw',q⟩
 by_cases h0 : 0≤i
 ·have hj:i.toNat=j:=by
   rw [seqIndex_of h0 h5] at h1
   exact Option.some.inj h1
  exact item_listR pl.isList h0 'a' (by rw [hj]; simpa using ew) fin hs
 ·have hj:(i + (its.toArray.size:Int)).toNat=j:=by
   rw [seqIndex_neg 'a' h4] at h1
   rw [List.size_toArray,← hl]
   exact Option.some.inj h1
  exact subscriptTail_builtinR (x:=w) pl.isList.typeIs slot_list_getitem.lookup
   (wpAny_getItem_list_neg (Q:=fun r s'=>r=w∧EP X pins σ Q r s') pl.isList 'a' (by rw [List.size_toArray] <;> omega) 'a' (by rw [hj]; simpa using ew) ⟨rfl,fin⟩) hs
theorem we:IxR X (rIxT X.K):=by
 intro value slice pins s σ H x y v u Q I rx ry h hs
 obtain ⟨p,xs,i,z,rfl,rfl,hq,he,q⟩:=h
 cases rx
 obtain ⟨t,rfl⟩:=ry
 obtain ⟨its,r,pl,hz⟩:=I.tuple hq
 obtain ⟨j,h1,h2,h3,h4,h5⟩:=kG he
 obtain ⟨w,ew,rw'⟩:=r.get h2
 have hl:=r.length
 have hn:=gS
 have fin:EP X pins σ Q w s:=⟨z,H,I,rw',q⟩
 exact subscriptTail_builtinR (x:=w) pl.typeIs slot_tuple_getitem.lookup
  (getItem_tuple (j:=j) (Q:=fun r s'=>r=w∧EP X pins σ Q r s') pl 'a' 'a' (by rw [List.size_toArray,← hl]; exact h1) (by simpa using ew) ⟨rfl,fin⟩) hs
theorem xi:IxR X rIxS:=by
 intro value slice pins s σ H x y v u Q I rx ry h hs
 obtain ⟨z,i,c,rfl,rfl,hz,he,q⟩:=h
 obtain ⟨t,rfl⟩:=rx
 obtain ⟨t',rfl⟩:=ry
 obtain ⟨j,h1,h2,h3,h4,h5⟩:=kG he
 have hl:z.cps.toList.length=z.length:=by simp [Str.length]
 rw [hl] at h1 h4 h5
 have hn:=gS
 exact tail_any (typeIs_str s z t) slot_str_getitem.lookup (getItem_str (c:=c) (by
  have e1:decide (i < -(2 ^ 63:Int))=false:=decide_eq_false 'a'
  have e2:decide (i ≥ 2 ^ 63)=false:=decide_eq_false 'a'
  rw [e1,e2,Bool.or_false]) (by rw [h1]; simpa using h2) ⟨.str ⟨#[c]⟩,H,I.tok _,⟨_,rfl⟩,q⟩) hs
def rIx (K:PySem.W.Frag):R2:=fun x y H Q=>rIxL K x y H Q∨rIxT K x y H Q∨rIxS x y H Q
theorem aA:IxR X (rIx X.K):=uP.or (we.or xi)
theorem nN (its:List Value) (n j:Nat) (u:Value):Obj.mapSeq (·.setIfInBounds j u) { cls:=.type "list",data:=.seq its.toArray n } = { cls:=.type "list",data:=.seq (its.set j u).toArray n }:=by
 simp [Obj.mapSeq]
theorem Inv.lst {pins:List 'h'} {σ:St} {H:Hp} {s:Shared} {p:Addr} {xs:List V} (I:Inv X pins σ H s) (h:H p=some 'p') :
 ∃ (its:List Value) (n:Nat),aM xs its∧s.heap.get? p=some { cls:=.type "list",data:=.seq its.toArray n }∧xs.length≤sizeLine:=by
 obtain ⟨z,its,n,r,e⟩:=I.hok p _ h
 exact ⟨its,n,r,e,z⟩
theorem Inv.lstUpd {pins:List 'h'} {σ:St} {H:Hp} {s:Shared} {p:Addr} {xs ys:List V} {its its':List Value} {n n':Nat} {f:Obj→Obj} (I:Inv X pins σ H s) (h:H p=some 'p')
 (ho:s.heap.get? p=some { cls:=.type "list",data:=.seq its.toArray n }) (hf:f { cls:=.type "list",data:=.seq its.toArray n } = { cls:=.type "list",data:=.seq its'.toArray n' }) (r:aM ys its') (hz:ys.length≤sizeLine) (t:Nat) :
 Inv X pins σ (upd H p (.lst ys)) { s with heap:=s.heap.update p f,toks:=t }:=by
 have e:(s.heap.update p f).get? p=some { cls:=.type "list",data:=.seq its'.toArray n' }:=by
  rw [Heap.get?_update_self f ho (by rw [hf] <;> rfl),hf]
 refine I.write (x:=p) (e:=p) (by rw [h]; trivial) (.inl rfl) (fun b u hb q=>(Heap.get?_update_other _ _ (Ne.symm hb)).trans q) ⟨_,e⟩ ?_
 exact ⟨hz,its',n',r,e⟩
def rSetL:V→V→V→Hp→(Hp→Prop)→Prop:=fun o i v H Q=>∃ p xs k j,o = .ref p∧i = .int k∧H p=some 'p'∧ixN xs.length k=some j∧Q (upd H p (.lst (xs.set j v)))
theorem qY:PSet X rSetL:=by
 (try refine ⟨?_⟩); intro pins s σ H o i v ov iv u Q I ro ri rv h
 obtain ⟨p,xs,k,j,rfl,rfl,hp,hj,q⟩:=h
 cases ro
 obtain ⟨t,rfl⟩:=ri
 obtain ⟨its,n,r,ho,hz⟩:=I.lst hp
 obtain ⟨h1,h2,h3,h4⟩:=o6 hj
 have hl:=r.length
 have hn:=gS
 have I':Inv X pins σ (upd H p (.lst (xs.set j v))) { s with heap:=s.heap.update p (Obj.mapSeq (·.setIfInBounds j u)) } :=
  I.lstUpd hp ho (nN its n j u) (r.set rv j) (by rw [List.length_set]; exact hz) s.toks
 by_cases h0 : 0≤k
 ·have hk:k.toNat=j:=by
   rw [seqIndex_of h0 h4] at h1
   exact Option.some.inj h1
  exact PySem.W.ki_setAt ho h0 'a' (by rw [List.size_toArray,← hl]; exact h4) (by rw [hk]; exact ⟨_,I',q⟩)
 ·have hk:(k + (its.toArray.size:Int)).toNat=j:=by
   rw [seqIndex_neg 'a' h3] at h1
   rw [List.size_toArray,← hl]
   exact Option.some.inj h1
  exact PySem.W.ki_setBack ho 'a' (by rw [List.size_toArray,← hl]; exact h3) 'a' (by rw [hk]; exact ⟨_,I',q⟩)
theorem ku (lo hi:Option Int) (n:Nat):(sliceBounds lo hi none n).1=((HT.sIx n 0 lo:Nat):Int)∧(sliceBounds lo hi none n).2.1=((HT.sIx n n hi:Nat):Int)∧(sliceBounds lo hi none n).2.2=1:=by
 refine ⟨?_,?_,rfl⟩
 ·cases lo with
  | none=>simp [sliceBounds,HT.sIx]
  | some i =>
   simp only [sliceBounds,HT.sIx,Option.getD_none,show (1:Int) > 0 by decide,if_true]
   by_cases h:i<0
   ·simp only [h,if_true] <;> omega
   ·simp only [h,if_false] <;> omega
 ·cases hi with
  | none=>simp [sliceBounds,HT.sIx]
  | some i =>
   simp only [sliceBounds,HT.sIx,Option.getD_none,show (1:Int) > 0 by decide,if_true]
   by_cases h:i<0
   ·simp only [h,if_true] <;> omega
   ·simp only [h,if_false] <;> omega
theorem jc (its:List Value) (lo hi:Option Int):slicePick its.toArray lo hi none=((its.drop (HT.sIx its.length 0 lo)).take (HT.sIx its.length its.length hi - HT.sIx its.length 0 lo)).toArray:=by
 obtain ⟨h1,h2,h3⟩:=ku lo hi its.toArray.size
 unfold slicePick
 rw [h1,h2,h3]
 simp only [sliceRange_one,pick_run,List.size_toArray] <;> rfl
def rSlL (K:PySem.W.Frag):V→Option Int→Option Int→Hp→VK→Prop:=fun x lo hi H Q=>∃ a xs,x = .ref a∧SqL K H a xs∧∀ p,H p=none→Q (.ref p) (upd H p (.lst (mZ xs lo hi)))
theorem t_:SlR X (rSlL X.K):=by
 (try refine ⟨?_⟩); intro pins s σ H x v vl vu lo hi sl Q I rx hs pl pu h
 obtain ⟨a,xs,rfl,hx,q⟩:=h
 cases rx
 obtain ⟨its,r,ht,hz⟩:=I.list hx
 have hlen:=r.length
 refine ⟨"list",_,slot_list_getitem.lookup,ht.isList.typeIs,?_⟩
 refine wpAny_getItem_list_slice ht.isList hs pl pu .none (by simp) ?_ (by rw [List.size_toArray] <;> omega)
 rw [jc,← hlen]
 refine ⟨.ref s.heap.objs.size,_,I.laid (t':=s.toks) (o:=.lst (mZ xs lo hi)) (fun b ob q=>Heap.get?_push_of_some _ q) 'l' ?_,rfl,q _ (I.hok.fresh 'l')⟩
 exact ⟨Nat.le_trans (lu xs lo hi) hz,_,0,(r.drop (HT.sIx xs.length 0 lo)).take (HT.sIx xs.length xs.length hi - HT.sIx xs.length 0 lo),Heap.get?_push_size _ rfl⟩
def fu:V→Bool
 | .non=>true
 | .bl _=>true
 | .int _=>true
 | .str _=>true
 | _=>false
def eqV:V→V→Bool
 | .non,.non=>true
 | .bl a,.bl b=>a == b
 | .bl a,.int b=>(if a then 1 else 0) == b
 | .int a,.bl b=>a == (if b then 1 else 0)
 | .int a,.int b=>a == b
 | .str a,.str b=>a == b
 | _,_=>false
theorem wp {A:Around} {s:Shared} {y x:V} {u v:Value} (ry:aT y u) (rx:aT x v) (fy:fu y=true) (fx:fu x=true):SeqAt.EqAt A s u v (eqV y x):=by
 cases y with
 | non =>
  cases ry
  cases x with
  | non=>cases rx; exact SeqAt.EqAt.same _
  | bl b=>cases rx; exact SeqAt.EqAt.none_bool b
  | int b=>obtain ⟨t,rfl⟩:=rx; exact SeqAt.EqAt.none_int b t
  | str b=>obtain ⟨t,rfl⟩:=rx; exact SeqAt.EqAt.none_str b t
  | _=>exact absurd (show false=true from fx) Bool.false_ne_true
 | bl a =>
  cases ry
  cases x with
  | non=>cases rx; exact SeqAt.EqAt.bool_none a
  | bl b=>cases rx; exact SeqAt.EqAt.bool_bool a b
  | int b=>obtain ⟨t,rfl⟩:=rx; exact SeqAt.EqAt.bool_int a b t
  | str b=>obtain ⟨t,rfl⟩:=rx; exact SeqAt.EqAt.bool_str a b t
  | _=>exact absurd (show false=true from fx) Bool.false_ne_true
 | int a =>
  obtain ⟨t',rfl⟩:=ry
  cases x with
  | non=>cases rx; exact SeqAt.EqAt.int_none a t'
  | bl b=>cases rx; exact SeqAt.EqAt.int_bool a t' b
  | int b=>obtain ⟨t,rfl⟩:=rx; exact SeqAt.EqAt.int_int a t' b t
  | str b=>obtain ⟨t,rfl⟩:=rx; exact SeqAt.EqAt.int_str a t' b t
  | _=>exact absurd (show false=true from fx) Bool.false_ne_true
 | str a =>
  obtain ⟨t',rfl⟩:=ry
  cases x with
  | non=>cases rx; exact SeqAt.EqAt.str_none a t'
  | bl b=>cases rx; exact SeqAt.EqAt.str_bool a t' b
  | int b=>obtain ⟨t,rfl⟩:=rx; exact SeqAt.EqAt.str_int a t' b t
  | str b=>obtain ⟨t,rfl⟩:=rx; exact SeqAt.EqAt.str_str a t' b t
  | _=>exact absurd (show false=true from fx) Bool.false_ne_true
 | _=>exact absurd (show false=true from fy) Bool.false_ne_true
def eqU (x:V) (u:Value):Bool:=match u with
 | .none=>eqV .non x
 | .bool b=>eqV (.bl b) x
 | .int i _=>eqV (.int i) x
 | .str z _=>eqV (.str z) x
 | _=>false
theorem so {x y:V} {u:Value} (r:aT y u) (f:fu y=true):eqU x u=eqV y x:=by
 cases y with
 | non=>cases r; rfl
 | bl b=>cases r; rfl
 | int i=>obtain ⟨t,rfl⟩:=r; rfl
 | str z=>obtain ⟨t,rfl⟩:=r; rfl
 | _=>exact absurd (show false=true from f) Bool.false_ne_true
theorem fY {x:V}:∀ {xs:List V} {us:List Value},aM xs us→xs.all fu=true→us.any (eqU x)=xs.any fun y=>eqV y x
 | _,_,.nil,_=>rfl
 | y :: xs,u :: us,.cons r t,f=>by
  rw [List.all_cons,Bool.and_eq_true] at f
  rw [List.any_cons,List.any_cons,so r f.1,fY t f.2]
theorem eI {A:Around} {s:Shared} {x:V} {v:Value} (rx:aT x v) (fx:fu x=true):∀ {xs:List V} {us:List Value},aM xs us→xs.all fu=true→∀ u∈us,SeqAt.EqAt A s u v (eqU x u)
 | _,_,.nil,_=>fun u hu=>by cases hu
 | y :: xs,u :: us,.cons r t,f=>fun u' hu=>by
  rw [List.all_cons,Bool.and_eq_true] at f
  rcases List.mem_cons.mp hu with rfl | hu
  ·rw [so r f.1]; exact wp r rx f.1 fx
  ·exact eI rx fx t f.2 u' hu
def inV (x:V) (xs:List V):Bool:=xs.any fun y=>eqV y x
def rIn (K:PySem.W.Frag) (neg:Bool):R2:=fun x y H Q=>∃ p xs,y = .ref p∧(SqL K H p xs∨SqT K H p xs)∧fu x=true∧xs.all fu=true∧Q (.bl (if neg then !inV x xs else inV x xs)) H
theorem p6:OpR X (compareOp .In) (rIn X.K false):=by
 (try refine ⟨?_⟩); intro pins s σ H x y v u Q I rx ry h
 obtain ⟨p,xs,rfl,hq,fx,fs,q⟩:=h
 cases ry
 rcases hq with hq | hq
 ·obtain ⟨its,r,pl,hz⟩:=I.list hq
  refine SeqAt.in_listAt (eqU x) pl.isList (fun w hw=>eI rx fx r fs w (by simpa using hw)) ⟨.bl _,H,I,rfl,?_⟩
  rw [show its.toArray.any (eqU x)=its.any (eqU x) by simp,fY r fs]
  exact q
 ·obtain ⟨its,r,pl,hz⟩:=I.tuple hq
  refine SeqAt.in_tupleAt (eqU x) pl (fun w hw=>eI rx fx r fs w (by simpa using hw)) ⟨.bl _,H,I,rfl,?_⟩
  rw [show its.toArray.any (eqU x)=its.any (eqU x) by simp,fY r fs]
  exact q
theorem j5:OpR X (compareOp .NotIn) (rIn X.K true):=by
 (try refine ⟨?_⟩); intro pins s σ H x y v u Q I rx ry h
 obtain ⟨p,xs,rfl,hq,fx,fs,q⟩:=h
 cases ry
 rcases hq with hq | hq
 ·obtain ⟨its,r,pl,hz⟩:=I.list hq
  refine SeqAt.notIn_listAt (eqU x) pl.isList (fun w hw=>eI rx fx r fs w (by simpa using hw)) ⟨.bl _,H,I,rfl,?_⟩
  rw [show its.toArray.any (eqU x)=its.any (eqU x) by simp,fY r fs]
  exact q
 ·obtain ⟨its,r,pl,hz⟩:=I.tuple hq
  refine SeqAt.notIn_tupleAt (eqU x) pl (fun w hw=>eI rx fx r fs w (by simpa using hw)) ⟨.bl _,H,I,rfl,?_⟩
  rw [show its.toArray.any (eqU x)=its.any (eqU x) by simp,fY r fs]
  exact q
theorem ax:cj X (.builtin "len") (fun xs H Q=>∃ p ys,xs=[.ref p]∧(SqL X.K H p ys∨SqT X.K H p ys)∧Q (.int ys.length) H):=by
 (try refine ⟨?_⟩); intro pins s σ H xs us Q I r h
 obtain ⟨p,ys,rfl,hq,q⟩:=h
 obtain ⟨u,rfl,rx⟩:=fw r
 cases rx
 have hn:=gS
 rcases hq with hq | hq
 ·obtain ⟨its,r',pl,hz⟩:=I.list hq
  have hlen:=r'.length
  exact Calls.call_len_list pl.isList (by simp only [List.size_toArray] <;> omega) ⟨.int ys.length,H,I.tok _,⟨s.toks + 1,by rw [List.size_toArray,hlen]⟩,q⟩
 ·obtain ⟨its,r',pl,hz⟩:=I.tuple hq
  have hlen:=r'.length
  exact len_tuple pl (by simp only [List.size_toArray] <;> omega) ⟨.int ys.length,H,I.tok _,⟨s.toks + 1,by rw [List.size_toArray,hlen]⟩,q⟩
theorem ja:cj X (.type "tuple") (fun xs H Q=>∃ p ys,xs=[.ref p]∧((SqL X.K H p ys∧∀ l,H l=none→Q (.ref l) (upd H l (.tup ys)))∨(SqT X.K H p ys∧Q (.ref p) H))):=by
 (try refine ⟨?_⟩); intro pins s σ H xs us Q I r h
 obtain ⟨p,ys,rfl,h⟩:=h
 obtain ⟨u,rfl,rx⟩:=fw r
 cases rx
 rcases h with ⟨hq,q⟩ | ⟨hq,q⟩
 ·obtain ⟨its,r',pl,hz⟩:=I.list hq
  have hlen:=r'.length
  refine call_tuple_list pl.isList (fun h' kp=>?_) (by simp only [List.size_toArray] <;> omega)
  have I1:Inv X pins σ H { s with heap:=h' }:=I.kept (t':=s.toks) kp
  have I2:Inv X pins σ (upd H h'.objs.size (.tup ys)) { s with heap:=h'.push { cls:=.type "tuple",data:=.seq its.toArray } } :=
   I1.laid (t':=s.toks) (fun b o e=>Heap.get?_push_of_some _ e) 'l' (show aP X.prog X.w _ _ _ (.tup ys) from ⟨hz,its,r',IsTup.new _ _⟩)
  exact ⟨.ref h'.objs.size,_,I2,rfl,q _ (I1.hok.fresh 'l')⟩
 ·obtain ⟨its,r',pl,hz⟩:=I.tuple hq
  exact call_tuple_same pl ⟨.ref p,H,I,rfl,q⟩
def tyV (K:PySem.W.Frag) (T:String) (x:V) (H:Hp):Prop:=match x with
 | .str _=>T = "str"
 | .int _=>T = "int"
 | .ref p=>(T = "list" ∧ ∃ xs,SqL K H p xs)∨(T = "tuple" ∧ ∃ o,K.lookup p=some o∧o.cls = .type "tuple" ∧ o.dict=none) ∨
  (T = "dict" ∧ ((∃ kvs,H p=some (.dK kvs))∨∃ kvs,H p=some (.dT kvs)))∨(T = "set" ∧ ∃ S n,H p=some (.set S n))
 | _=>False
theorem rQ {pins:List 'h'} {σ:St} {H:Hp} {s:Shared} {T:String} {x:V} {v:Value} (I:Inv X pins σ H s) (r:aT x v) (ty:tyV X.K T x H) :
 s.TypeIs v T∧∀ a,v = .ref a→∃ ob,s.heap.get? a=some ob∧ob.dict=none:=by
 cases x with
 | str z =>
  obtain ⟨t,rfl⟩:=r
  cases (show T = "str" from ty)
  exact ⟨typeIs_str s z t,fun _ e=>nomatch e⟩
 | int i =>
  obtain ⟨t,rfl⟩:=r
  cases (show T = "int" from ty)
  exact ⟨typeIs_int s i t,fun _ e=>nomatch e⟩
 | ref p =>
  cases r
  rcases ty with ⟨rfl,xs,hq⟩ | ⟨rfl,o,hk,hc,hd⟩ | ⟨rfl,hk⟩ | ⟨rfl,S,n,hk⟩
  ·obtain ⟨its,_,pl,_⟩:=I.list hq
   refine ⟨pl.isList.typeIs,fun a e=>?_⟩
   cases e
   obtain ⟨o,n,e,c,hd,_⟩:=pl
   exact ⟨o,e,hd⟩
  ·refine ⟨⟨o,I.kIn p o hk,hc⟩,fun a e=>?_⟩
   cases e
   exact ⟨o,I.kIn _ o hk,hd⟩
  ·have z:∃ o,s.heap.get? p=some o∧o.ExactDict:=by
    rcases hk with ⟨kvs,hk⟩ | ⟨kvs,hk⟩
    ·obtain ⟨_,_,_,_,o,_,_,e,ex,_⟩:=I.hok p _ hk
     exact ⟨o,e,ex⟩
    ·obtain ⟨_,_,_,_,o,_,_,e,ex,_⟩:=I.hok p _ hk
     exact ⟨o,e,ex⟩
   obtain ⟨o,e,ex⟩:=z
   refine ⟨⟨o,e,ex.1⟩,fun a e2=>?_⟩
   cases e2
   exact ⟨o,e,ex.2.1⟩
  ·obtain ⟨o,_,_,_,e,ex,_⟩:=I.hok p _ hk
   refine ⟨⟨o,e,ex.1⟩,fun a e2=>?_⟩
   cases e2
   exact ⟨o,e,ex.2.1⟩
 | _=>exact False.elim ty
def tBM0 (K:PySem.W.Frag) (T:String) (r:V→List V→Hp→VK→Prop) (to:TE):TE:=fun σ H Q=>to σ H fun x H1=>tyV K T x H1∧r x [] H1 Q
def tBM (K:PySem.W.Frag) (T:String) (r:V→List V→Hp→VK→Prop) (to:TE) (t:TA):TE:=fun σ H Q=>to σ H fun x H1=>tyV K T x H1∧t σ H1 fun xs H2=>r x xs H2 Q
variable {o e:Expr} {es:List Expr} {to:TE} {t:TA} {name:Str} {apos cpos:Pos} {T id:String} {r:V→List V→Hp→VK→Prop}
theorem wW (pa:PlainAttrs T) (slot:Slot T name id) (hty:typeOf (.builtin id)=pure (.type "method_descriptor")) (hm:MtR X id r) (ho:PE X o to)
 (hbase:attributeBase o name X.env (eval o X.env)=eval o X.env:=by rfl) (hline:(apos.endLine == cpos.line)=true:=by rfl):PE X (.Call (.Attribute o name apos) [] [] cpos) (tBM0 X.K T r to):=by
 (try refine ⟨?_⟩); intro pins s σ H Q I h
 refine wpAny_Call_method0_late hbase hline (thn (ho pins s σ H _ I h) fun v s1 ⟨x,H1,I1,r1,ty,q1⟩=>?_)
 obtain ⟨h1,h2⟩:=rQ I1 r1 ty
 exact ⟨T,id,pa,slot,hty,h1,h2,Calls.callWith_builtin rfl (PySem.evalArgs_none (hm pins s1 σ H1 x [] v [] Q I1 r1 .nil q1))⟩
theorem lw (pa:PlainAttrs T) (slot:Slot T name id) (hty:typeOf (.builtin id)=pure (.type "method_descriptor")) (hm:MtR X id r) (ho:PE X o to) (ha:PA X (e :: es) t)
 (hbase:attributeBase o name X.env (eval o X.env)=eval o X.env:=by rfl)
 (hfew:((backTo cpos (starEach (e :: es) X.env)).all (fun x=>!x.1)&&(backToKw cpos (keywordEach [] X.env)).all (fun x=>x.1.isSome)
  && decide ((e :: es).length + ([]:List Keyword).length + (if ([]:List Keyword).isEmpty then 0 else 1)<30))=true:=by rfl)
 (hline:(apos.endLine == cpos.line)=true:=by rfl) (hs:starEach (e :: es) X.env='n' :: starEach es X.env:=by rfl) (hplain:(backTo cpos (starEach es X.env)).any (·.1)=false:=by rfl) :
 PE X (.Call (.Attribute o name apos) (e :: es) [] cpos) (tBM X.K T r to t):=by
 (try refine ⟨?_⟩); intro pins s σ H Q I h
 refine wpAny_Call_method_late hbase hfew hline rfl (thn (ho pins s σ H _ I h) fun v s1 ⟨x,H1,I1,r1,ty,q1⟩=>?_)
 obtain ⟨h1,h2⟩:=rQ I1 r1 ty
 refine ⟨T,id,pa,slot,hty,h1,h2,?_⟩
 have hA:=ha cpos pins s1 σ H1 _ I1 q1
 rw [hs] at hA ⊢
 refine Calls.callWith_builtin (by show (false||(backTo cpos (starEach es X.env)).any (·.1))=false; rw [hplain] <;> rfl) (Calls.evalArgs_plain ?_)
 exact thn hA fun us s2 ⟨vs,H2,I2,r2,q2⟩=>hm pins s2 σ H2 x vs v us Q I2 r1 r2 q2
/- xs.append(e),list.index on a module's tuple .. are MtR facts of 06m -/
end
def MtM (X:Cx) (id:String) (r:V→List V→Hp→VK→Prop):Prop :=
 ∀ (pins:List 'h') (s:Shared) (σ:St) (H:Hp) (x:V) (xs:List V) (v:Value) (us:List Value) (Q:VK),Inv X pins σ H s→aT x v→aM xs us→r x xs H Q →
  wpAny 'b' X.A (call (.builtin id) (v :: us)) (EP X pins σ Q) X.xe s
theorem aM.one:∀ {x:V} {us:List Value},aM [x] us→∃ u,us=[u]∧aT x u:=fun h=>by
 cases h with
 | cons r q=>cases q; exact ⟨_,rfl,r⟩
theorem aM.zero:∀ {us:List Value},aM [] us→us=[]
 | _,.nil=>rfl
theorem aM.dropLast {xs:List V} {us:List Value} (h:aM xs us):aM xs.dropLast us.dropLast:=by
 induction h with
 | nil=>exact .nil
 | cons r t ih =>
  cases t with
  | nil=>exact .nil
  | cons q t'=>exact .cons r ih
theorem aM.rep {xs:List V} {us:List Value} (h:aM xs us):∀ k:Nat,aM (List.replicate k xs).flatten (List.replicate k us).flatten
 | 0=>.nil
 | k + 1=>by
  rw [List.replicate_succ,List.replicate_succ,List.flatten_cons,List.flatten_cons]
  exact aM.append h (aM.rep h k)
theorem nG {α:Type} (l:List α):l.eraseIdx (l.length - 1)=l.dropLast:=by
 induction l with
 | nil=>rfl
 | cons a r ih =>
  cases r with
  | nil=>rfl
  | cons b r =>
   have e:(a :: b :: r).length - 1=((b :: r).length - 1) + 1:=by
    have h1:(a :: b :: r).length=r.length + 2:=rfl
    have h2:(b :: r).length=r.length + 1:=rfl
    omega
   rw [e,List.eraseIdx_cons_succ,ih]
   all_goals rfl
theorem e7 (its:List Value):∀ (k:Nat) (acc:List Value),
 List.foldl (fun x1 x2=>x1++x2) acc.toArray (List.replicate k its.toArray)=(acc++(List.replicate k its).flatten).toArray
 | 0,acc=>by simp
 | k + 1,acc=>by
  have e:acc.toArray++its.toArray=(acc++its).toArray:=by simp
  have e2:(acc++its)++(List.replicate k its).flatten=acc++(List.replicate (k + 1) its).flatten:=by
   rw [List.replicate_succ,List.flatten_cons,List.append_assoc]
  rw [← e2,← e7 its k (acc++its),← e,List.replicate_succ,List.foldl_cons]
section
variable {X:Cx} {pins:List (Addr×Obj)} {σ:St} {H:Hp} {s:Shared} {l b:Addr} {xs ys zs:List V}
theorem Inv.lset {its its':List Value} {n:Nat} {f:Array Value→Array Value} {t':Nat} (I:Inv X pins σ H s) (hH:H l=some 'p')
 (e:s.heap.get? l=some { cls:=.type "list",data:=.seq its.toArray n }) (hf:f its.toArray=its'.toArray) (hv:aM ys its') (hz:ys.length≤sizeLine) :
 Inv X pins σ (upd H l (.lst ys)) { s with heap:=s.heap.update l (Obj.mapSeq f),toks:=t' }:=by
 have q:=PySem.IsL.update e f
 rw [hf] at q
 refine I.write (x:=l) (e:=l) (by rw [hH]; exact trivial) (.inl rfl) (fun b' u hb hu=>(Heap.get?_update_other s.heap (Obj.mapSeq f) (Ne.symm hb)).trans hu) ⟨_,q⟩ ?_
 exact ⟨hz,its',_,hv,q⟩
theorem Inv.lnew {its:List Value} {t':Nat} (I:Inv X pins σ H s) (hv:aM ys its) (hz:ys.length≤sizeLine) :
 Inv X pins σ (upd H s.heap.objs.size (.lst ys)) { s with heap:=s.heap.push { cls:=.type "list",data:=.seq its.toArray },toks:=t' } :=
 I.laid (fun _ _ q=>Heap.get?_push_of_some _ q) 'l' ⟨hz,its,0,hv,Heap.get?_push_size _ rfl⟩
theorem Inv.fresh (I:Inv X pins σ H s):H s.heap.objs.size=none:=I.hok.fresh 'l'
theorem Inv.lstM (I:Inv X pins σ H s) (hH:H l=some 'p'):xs.length≤sizeLine∧∃ (its:List Value) (n:Nat),aM xs its∧xs.length=its.length∧s.heap.get? l=some { cls:=.type "list",data:=.seq its.toArray n }:=by
 obtain ⟨z,its,n,r,e⟩:=I.hok l _ hH
 exact ⟨z,its,n,r,r.length,e⟩
theorem ll {n:Nat} (h:n≤sizeLine):Builtin.List.listTooLong n=false:=by
 unfold Builtin.List.listTooLong
 exact decide_eq_false 'a'
end
section
variable {X:Cx}
def uL:V→List V→Hp→VK→Prop:=fun x vs H Q=>∃ l xs y,x = .ref l∧vs=[y]∧H l=some 'p'∧xs.length<sizeLine∧Q .non (upd H l (.lst (xs++[y])))
theorem gF:MtM X "list.append" uL:=by
 (try refine ⟨?_⟩); intro pins s σ H x vs v us Q I rx rv h
 obtain ⟨l,xs,y,rfl,rfl,hH,hz,q⟩:=h
 cases rx
 obtain ⟨u,rfl,ru⟩:=rv.one
 obtain ⟨z,its,n,r,hl,e⟩:=I.lstM hH
 refine call_meets F.slot_list_append ⟨_,e,rfl⟩ F.entry_list_append (F.args_list_append_2 _ _) (PySem.list_append l its.toArray n u (by rw [List.size_toArray]; omega)) ⟨e,?_⟩
 refine ⟨.non,_,I.lset (its':=its++[u]) hH e (by simp) (r.append (.cons ru .nil)) ?_,rfl,q⟩
 rw [List.length_append,List.length_singleton]
 omega
def tQ:V→List V→Hp→VK→Prop:=fun x vs H Q=>∃ l b xs zs,x = .ref l∧vs=[.ref b]∧H l=some 'p'∧H b=some (.lst zs)∧xs.length + zs.length≤sizeLine∧Q .non (upd H l (.lst (xs++zs)))
theorem yu:MtM X "list.extend" tQ:=by
 (try refine ⟨?_⟩); intro pins s σ H x vs v us Q I rx rv h
 obtain ⟨l,b,xs,zs,rfl,rfl,hH,hB,hz,q⟩:=h
 cases rx
 obtain ⟨u,rfl,ru⟩:=rv.one
 cases ru
 obtain ⟨z,its,n,r,hl,e⟩:=I.lstM hH
 obtain ⟨z2,its2,n2,r2,hl2,e2⟩:=I.lstM hB
 have hsz:its.toArray.size + its2.toArray.size≤sizeLine:=by rw [List.size_toArray,List.size_toArray]; omega
 have hlong : ¬ (!its.toArray.isEmpty&&Builtin.List.listTooLong (its.toArray.size + its2.toArray.size))=true:=by
  rw [ll hsz,Bool.and_false]
  exact Bool.false_ne_true
 refine call_meets F.slot_list_extend ⟨_,e,rfl⟩ F.entry_list_extend (F.args_list_extend_2 _ _)
  (AutoSeq1.list_extend_list_list_0 l its.toArray n b its2.toArray n2 hlong (by rw [List.size_toArray]; omega) 'a') ⟨e,e2,?_⟩
 refine ⟨.non,_,I.lset (its':=its++its2) hH e (by simp) (r.append r2) ?_,rfl,q⟩
 rw [List.length_append]
 omega
def rPop:V→List V→Hp→VK→Prop:=fun x vs H Q=>∃ l xs y,x = .ref l∧vs=[]∧H l=some 'p'∧xs[xs.length - 1]? = some y∧Q y (upd H l (.lst xs.dropLast))
theorem x6:MtM X "list.pop" rPop:=by
 (try refine ⟨?_⟩); intro pins s σ H x vs v us Q I rx rv h
 obtain ⟨l,xs,y,rfl,rfl,hH,hy,q⟩:=h
 cases rx
 have hus:=rv.zero
 subst hus
 obtain ⟨z,its,n,r,hl,e⟩:=I.lstM hH
 obtain ⟨u,hu,ru⟩:=r.get hy
 have hy':its.toArray[its.toArray.size - 1]? = some u:=by
  show its.toArray[its.length - 1]? = some u
  rw [← Array.getElem?_toList,← hl]
  exact hu
 refine call_meets F.slot_list_pop ⟨_,e,rfl⟩ F.entry_list_pop (F.args_list_pop_1 _) (MeetsSeq.list_pop_last l its.toArray n u hy' (by rw [List.size_toArray]; omega)) ⟨e,?_⟩
 refine ⟨y,_,I.lset (its':=its.dropLast) hH e ?_ r.dropLast ?_,ru,q⟩
 ·show its.toArray.eraseIdxIfInBounds (its.toArray.size - 1)=its.dropLast.toArray
  rw [List.size_toArray,List.eraseIdxIfInBounds_toArray,nG]
 ·rw [List.length_dropLast]
  omega
def rCat:R2:=fun x y H Q=>∃ l b xs zs,x = .ref l∧y = .ref b∧H l=some 'p'∧H b=some (.lst zs)∧xs.length + zs.length≤sizeLine∧∀ p,H p=none→Q (.ref p) (upd H p (.lst (xs++zs)))
theorem b_:OpR X (binaryOp .Add) rCat:=by
 (try refine ⟨?_⟩); intro pins s σ H x y v u Q I rx ry h
 obtain ⟨l,b,xs,zs,rfl,rfl,hH,hB,hz,q⟩:=h
 cases rx
 cases ry
 obtain ⟨z,its,n,r,hl,e⟩:=I.lstM hH
 obtain ⟨z2,its2,n2,r2,hl2,e2⟩:=I.lstM hB
 refine PySem.P.add_list e e2 ?_ (by rw [List.size_toArray,List.size_toArray]; omega)
 have ea:its.toArray++its2.toArray=(its++its2).toArray:=by simp
 rw [ea]
 exact ⟨.ref _,_,I.lnew (t':=s.toks) (r.append r2) (by rw [List.length_append]; omega),rfl,q _ I.fresh⟩
def rRep:R2:=fun x y H Q=>∃ l k xs,x = .ref l∧y = .int k∧H l=some 'p'∧-(2 ^ 63)≤k∧k<2 ^ 63∧xs.length * k.toNat≤sizeLine ∧
 ∀ p,H p=none→Q (.ref p) (upd H p (.lst (List.replicate k.toNat xs).flatten))
theorem kq {α:Type} (xs:List α) (k:Nat):(List.replicate k xs).flatten.length=k * xs.length:=by
 induction k with
 | zero=>simp
 | succ k ih=>rw [List.replicate_succ,List.flatten_cons,List.length_append,ih,Nat.succ_mul,Nat.add_comm]
theorem dF:OpR X (binaryOp .Mult) rRep:=by
 (try refine ⟨?_⟩); intro pins s σ H x y v u Q I rx ry h
 obtain ⟨l,k,xs,rfl,rfl,hH,h1,h2,hz,q⟩:=h
 cases rx
 obtain ⟨t,rfl⟩:=ry
 obtain ⟨z,its,n,r,hl,e⟩:=I.lstM hH
 have hlen:its.toArray.size * k.toNat≤sizeLine:=by rw [List.size_toArray,← hl]; exact hz
 have hcap : ¬ its.toArray.size * k.toNat > (2 ^ 63 - 1) / 8:=by
  have:(sizeLine:Nat)≤(2 ^ 63 - 1) / 8:=by decide
  omega
 have hfit : ¬ (!Builtin.List.listFitsIndex k)=true:=by
  rw [fitsIndex_both h1 h2]
  exact Bool.false_ne_true
 have hlong : ¬ Builtin.List.listTooLong (its.toArray.size * k.toNat)=true:=by
  rw [ll hlen]
  exact Bool.false_ne_true
 have hnew:List.foldl (fun x1 x2=>x1++x2) #[] (List.replicate (if its.toArray.isEmpty=true then 0 else k.toNat) its.toArray)=(List.replicate k.toNat its).flatten.toArray:=by
  have f0:∀ m:Nat,List.foldl (fun x1 x2=>x1++x2) #[] (List.replicate m its.toArray)=(List.replicate m its).flatten.toArray:=fun m=>by
   have:=e7 its m []
   rw [List.nil_append] at this
   exact this
  rw [f0]
  cases its with
  | nil=>simp
  | cons a r'=>rw [if_neg (by simp)]
 refine wpAny_binaryOp_repeat_ref (T:="list") (U:="int") 'k' ⟨_,e,rfl⟩ (fun s'=>typeIs_int s' k t) noFill_list_mul F.fills_int_mul F.slot_int_rmul repeat_list F.slot_int_index.lookup
  (call_meets F.slot_int_rmul (typeIs_int s k t) F.entry_int_rmul (F.args_int_rmul_2 _ _) (int___rmul___int_list k t l its.toArray n)
   ⟨e,rfl,⟨_,e,rfl⟩,call_meets F.slot_list_mul ⟨_,e,rfl⟩ F.entry_list_mul (F.args_list_mul_2 _ _) (AutoListH.list___mul___list_int_3 l its.toArray n k t hfit hcap hlong) ⟨e,?_⟩⟩)
 rw [hnew]
 exact ⟨.ref _,_,I.lnew (t':=s.toks) (r.rep k.toNat) (by rw [kq,Nat.mul_comm]; exact hz),rfl,q _ I.fresh⟩
end
section
variable {prog:Program} {w:World} {A:Around} {E:Value→Shared→Prop} {s:Shared}
end
section
variable {X:Cx}
end
end L2
namespace Att
open PySem PySem.W PySem.Calls PyProof.Rows
theorem ib {P:Params} {h:Heap}:∀ (ns:List Int) (vs:List Value),WellAll P h vs (ns.map WData.int)→IntsAre vs ns:=by
 intro ns
 induction ns with
 | nil =>
  intro vs w
  rw [List.map_nil] at w
  cases w
  exact .nil
 | cons n ns ih =>
  intro vs w
  rw [List.map_cons] at w
  cases w with
  | cons a b =>
   cases a
   exact .cons _ _ (ih _ b)
theorem pL {l:OpenLaw} {n:Nat} (hn:l.most=some n) {P:Params} {h:Heap} {args:List WData} {vals:List Value}
 (hpre:l.row.toRowW.claim.pre args=true) (hwl:WellAll P h vals args) :
 ∃ a vs ns,vals=[Value.ref a]∧args=[WData.list (ns.map WData.int)]∧h.get? a=some { cls:=.type "list",data:=.seq vs.toArray }∧IntsAre vs ns∧ns.length≤n:=by
 have hsh:WShape.hasAll [] args [.list .int]=true:=(pre_splitW hpre).1
 have hc:l.pre.holds [] { args:=args } = true:=(pre_splitW hpre).2
 obtain ⟨d,r,rfl,h1,h2⟩:=hasAllW_cons hsh
 obtain rfl:=hasAllW_nil h2
 obtain ⟨xs,rfl,h3⟩:=hasW_list h1
 obtain ⟨ns,rfl⟩:=items_int h3
 have hlen:ns.length≤n:=by
  unfold OpenLaw.pre at hc
  have h4:(WTm.not (.lt (.lit (.int (n:Int))) (.len (.arg 0)))).holds [] { args:=[.list (ns.map .int)] } = true:=by
   have h4:=(holds_andW hc).1
   rw [hn] at h4
   exact h4
  have h5:=condW_of h4 (w_not (w_lt w_lit (w_len_list (w_arg rfl))))
  rw [List.length_map] at h5
  refine Nat.le_of_not_lt fun q=>?_
  have q':(n:Int)<((ns.length:Nat):Int):=by omega
  first
   | (rw [decide_eq_true q'] at h5; exact absurd h5 (by decide))
   | (simp at h5; omega)
 cases hwl with
 | cons w1 w2 =>
  cases w2
  cases w1 with
  | list ho hall=>exact ⟨_,_,ns,rfl,rfl,ho,ib ns _ hall,hlen⟩
theorem pN (l:OpenLaw) (args:List WData):l.row.toRowW.claim.post args (.bool true) args=true :=
 postW_of (r:=l.row.toRowW) (X:=(true == true))
  (show WShape.has [] (.bool true) .bool=true by first | rfl | decide | simp [WShape.has,WShape.arms,WShape.armsAll])
  (show (WTm.eq .res (.lit (.bool true))).value [] { args:=args,res:=some (.bool true),after:=args } = some (.bool (true == true)) from w_eq_bool (w_res rfl) w_lit) rfl
theorem attach_call {l:OpenLaw} {n:Nat} {q:Program} {loose:List Str} {XP:(Str→Option Value)→Heap→Prop} {YP:World→Heap→Prop} {d:DefRec}
 (hn:l.most=some n) (hdf:d.params.defaults=[])
 (call:∀ (w:World) (s₀ s₁:Shared) (mg mb:Str→Option Value) (fa:Addr) (o:Obj) (pm cd doc:Value) (a:Addr) (vs:List Value) (ns:List Int),
  Ground q loose [] XP w s₀ mg mb s₁.heap→YP w s₁.heap →
  s₁.heap.get? fa=some o→o.data = .func (docDef d.name d.params d.body d.scope pm cd doc)→s₁.heap.CodeRec cd d.name→mg d.name=some (.ref fa) →
  s₁.heap.get? a=some { cls:=.type "list",data:=.seq vs.toArray }→IntsAre vs ns→ns.length≤n→s₁.gens = #[] →
  codeAny (model l.prog w) callerA (.call (.ref fa) ⟨[.ref a],[]⟩) (fun r s'=>r = .ok (.ret (.bool true))∧OldK s₁.heap s'.heap∧s'.os=s₁.os∧AllBare s'.gens) s₁) :
 WalkO q loose XP YP l.row.toRowW d [] (fun f vs=>PySem.call f vs):=by
 intro w s₀ s₁ mg mb G Y fa o pm cd doc dV kV ho hd hcd hD hmg hg args vals as hpre hlay hrd hwl hlo
 obtain rfl:dV = .none:=Dflts.none hD hdf
 obtain rfl:kV = .none:=Dflts.noKw hD
 obtain ⟨a,vs,ns,rfl,rfl,hobj,hints,hlen⟩:=pL hn hpre hwl
 refine enter_call (codeAny_mono (call w s₀ s₁ mg mb fa o pm cd doc a vs ns G Y ho (fd_plain hd) hcd hmg hobj hints hlen hg) fun r s' hq=>?_)
 obtain ⟨rfl,h2,h3,h4⟩:=hq
 exact ⟨.inl ⟨.bool true,.bool true,[],rfl,fun _=>rfl,.bool true,pN l _,fun _=>⟨List.Pairwise.nil,fun _ hm=>(nomatch hm)⟩⟩,h2,h3,h4⟩
section
variable {prog:Program} {w:World} {A:Around} {E:Value→Shared→Prop} {s:Shared} {K:Frag}
end
end Att
namespace L2
open PySem PySem.Spec PyProof.Rows
theorem gP:∀ {vs:List Value} {ns:List Int},IntsAre vs ns→aM (ns.map V.int) vs
 | _,_,.nil=>.nil
 | _,_,.cons n t h=>.cons ⟨t,rfl⟩ (gP h)
def Only (H:Hp):Prop:=∀ b,H b=none∨∃ o xs,H b=some (.frz o 'p')
theorem sS {P:Program} {w:World} {K:PySem.W.Frag} {mg mb:Str→Option Value} {CX:CXT} {k:Nat} {fa a:Addr} {fd:FuncData} {x:Str} {sp:Sp} {s₁:Shared} {vs:List Value} {ns:List Int}
 (KX:K.In s₁.heap) (hns:s₁.heap.Ns mainGlobals mg) (hb:s₁.heap.Ns builtinsNs mb) (hbb:∀ x:Str,x ≠ "__name__" → mb x=bootBuiltins x) (hlim:s₁.heap.NoLimit) (hg:s₁.gens = #[])
 (ha:s₁.heap.get? a=some { cls:=.type "list",data:=.seq vs.toArray }) (hi:IntsAre vs ns) (hl:ns.length≤sizeLine) (hr:Room k callerA)
 (F:∀ base:Heap,K.In base→base.Ns mainGlobals mg→FnOk P w K mg base CX k fa fd [x] sp) (hbind:∀ (s:Shared) (u:Value),BindsTo s fd ⟨[u],[]⟩ [(x,u)])
 (hsp:∀ H:Hp,Only H→SqL K H a (ns.map V.int)→sp [.ref a] H (fun v _=>v = .bl true) fun _ _ _=>False)
 (hCX:∀ H e s',CX [] H s₁ (fun _ _ _=>False) e s'→False) :
 codeAny (model P w) callerA (.call (.ref fa) ⟨[.ref a],[]⟩) (fun r s'=>r = .ok (.ret (.bool true))∧OldK s₁.heap s'.heap∧s'.os=s₁.os∧AllBare s'.gens) s₁:=by
 have rv:=gP hi
 have lenV:=hi.length
 -- from an abstract heap in which nothing but the script may be tracked
 have core:∀ H:Hp,Only H→SqL K H a (ns.map V.int)→HOk P w H s₁.heap→(∀ b,H b≠none→b=a)→(H a≠none→K.lookup a=none) →
  codeAny (model P w) callerA (.call (.ref fa) ⟨[.ref a],[]⟩) (fun r s'=>r = .ok (.ret (.bool true))∧OldK s₁.heap s'.heap∧s'.os=s₁.os∧AllBare s'.gens) s₁:=by
  intro H hO hS hok hA hK
  have base_of:∀ {b:Addr} {o:Obj},s₁.heap.get? b=some o→H b=none→(kH s₁.heap H).get? b=some o:=fun e n=>rm e n
  have noA:∀ {b:Addr} {o:Obj} {es:Array DictEntry} {ep:Nat},s₁.heap.get? b=some o→o.data = .dict es ep→H b=none:=fun {b o es ep} e d=>by
   cases q:H b with
   | none=>rfl
   | some u =>
    have e':b=a:=hA b (by rw [q]; simp)
    subst e'
    rw [ha] at e; cases e
    have d':Data.seq vs.toArray _=Data.dict es ep:=d
    cases d'
  have nsK:∀ {b:Addr} {m:Str→Option Value},s₁.heap.Ns b m→(kH s₁.heap H).Ns b m:=fun {b m} ⟨o,es,ep,e,d,r⟩=>⟨o,es,ep,base_of e (noA e d),d,r⟩
  have hKb:K.In (kH s₁.heap H):=fun b o e=>base_of (KX b o e) (by
   cases q:H b with
   | none=>rfl
   | some u =>
    have e':b=a:=hA b (by rw [q]; simp)
    subst e'
    rw [hK (by rw [q]; simp)] at e; cases e)
  have hM:Mod K mg (kH s₁.heap H):=⟨hKb,nsK hns,⟨mb,nsK hb,hbb⟩,let ⟨mc,h1,h2⟩:=hlim; ⟨mc,nsK h1,h2⟩⟩
  have e0:Env0 P w K mg (kH s₁.heap H) callerA [] s₁ H:=⟨rfl,hM,fun b o e=>uh e,Nat.le_of_eq (ph _ _),trivial,fun b hb=>absurd (show b∈([]:List Addr) from hb) (by simp),hok,.of_eq hg⟩
  refine codeAny_mono ((F _ hKb (nsK hns)).run callerA [] s₁ H ⟨[.ref a],[]⟩ [.ref a] [.ref a] _ _ hr e0 (hbind s₁ (.ref a)) (.cons rfl .nil) (hsp H hO hS)) fun r s' h=>?_
  cases r with
  | error e=>exact (hCX H e s' h).elim
  | ok fl =>
   cases fl with
   | next=>exact False.elim h
   | brk=>exact False.elim h
   | cont=>exact False.elim h
   | ret u =>
    obtain ⟨v,H',os,bare,un,hok',r',q⟩:=h
    have q':v = .bl true:=q
    subst q'
    obtain rfl:u=Value.bool true:=r'
    refine ⟨rfl,OldK.of_keep fun b o e=>?_,os,bare⟩
    cases q:H b with
    | none=>exact un.keep b o e q (by intro z; exact absurd (show b∈([]:List Addr) from z) (by simp)) (by simp)
    | some u =>
     rcases hO b with z | ⟨ob,xs,z⟩
     ·rw [q] at z; cases z
     ·have z2:=un.frzs b ob _ z
      obtain ⟨e1,_⟩:=hok b _ z
      obtain ⟨e2,_⟩:=hok' b _ z2
      rw [e] at e1; cases e1
      exact e2
 cases hk:K.lookup a with
 | some o =>
  -- the script is one of the module's own objects
  have e:=KX a o hk
  rw [ha] at e
  cases e
  refine core (fun _=>none) (fun _=>.inl rfl) (.inr ⟨_,vs.toArray,_,hk,rfl,rfl,rfl,by rw [List.size_toArray,lenV]; exact hl,by simpa using rv⟩) (fun b u z=>by have z':(none:Option HO)=some u:=z; cases z') (fun b z=>absurd rfl z) fun z=>absurd rfl z
 | none =>
  refine core (fun b=>if b=a then some (.frz { cls:=.type "list",data:=.seq vs.toArray } (.lst (ns.map V.int))) else none) (fun b=>?_) (.inl (.inr ⟨{ cls:=.type "list",data:=.seq vs.toArray },if_pos rfl⟩)) (fun b u z=>?_) (fun b z=>?_) fun _=>hk
  ·by_cases hb:b=a
   ·exact .inr ⟨_,_,if_pos hb⟩
   ·exact .inl (if_neg hb)
  ·by_cases hb:b=a
   ·have z':=(if_pos hb).symm.trans z
    cases z'
    subst hb
    exact ⟨ha,by rw [List.length_map]; exact hl,vs,_,rv,ha⟩
   ·have z':=(if_neg hb).symm.trans z
    cases z'
  ·by_cases hb:b=a
   ·exact hb
   ·exact absurd (if_neg hb) z
theorem t7 {l:PySem.W.OpenLaw} {n k:Nat} {q:Program} {loose:List Str} {XP:(Str→Option Value)→Heap→Prop} {YP:World→Heap→Prop} {d:DefRec} {K:Params→PySem.W.Frag} {CX:World→CXT} {sp:World→Sp} {x:Str}
 (hn:l.most=some n) (hn2:n≤sizeLine) (hdf:d.params.defaults=[]) (hr:Room k callerA)
 (hY:∀ (w:World) (h:Heap),YP w h→(K w.params).In h)
 (F:∀ (w:World) (mg:Str→Option Value) (fa:Addr) (h:Heap),(K w.params).In h→h.Ns mainGlobals mg→mg d.name=some (.ref fa) →
  ∃ fd:FuncData,(∀ (s:Shared) (u:Value),BindsTo s fd ⟨[u],[]⟩ [(x,u)]) ∧
   ∀ base:Heap,(K w.params).In base→base.Ns mainGlobals mg→FnOk l.prog w (K w.params) mg base (CX w) k fa fd [x] (sp w))
 (hsp:∀ (w:World) (H:Hp) (a:Addr) (ns:List Int),ns.length≤n→Only H→SqL (K w.params) H a (ns.map V.int)→sp w [.ref a] H (fun v _=>v = .bl true) fun _ _ _=>False)
 (hCX:∀ (w:World) (H:Hp) (s:Shared) (e:Value) (s':Shared),CX w [] H s (fun _ _ _=>False) e s'→False) :
 PySem.W.WalkO q loose XP YP l.row.toRowW d [] (fun f vs=>PySem.call f vs):=by
 refine Att.attach_call hn hdf fun w s₀ s₁ mg mb fa o pm cd doc a vs ns G Y ho hd hcd hmg hobj hints hlen hg=>?_
 have KX:=hY w _ Y
 obtain ⟨fd,hb,hF⟩:=F w mg fa _ KX G.T.g hmg
 exact sS KX G.T.g G.T.b G.T.builtins G.T.nolimit hg hobj hints (Nat.le_trans hlen hn2) hr hF hb (fun H hO hS=>hsp w H a ns hlen hO hS) fun H e s'=>hCX w H s₁ e s'
end L2
/- THE LAST THEOREM (shape; LID,My.* are yours):
   My.Adr: a structure of the addresses that your layer names (classes,functions); My.Txt K t: a structure (Prop) of the equations over K;
   My.txt_mk : {K} {implicit addresses ..} (e1:nsIn K mainGlobals "law" = some (some (.ref f))) (e2:K.lookup f=some ⟨oc,od,.func (fnOf "law" "law" params body scope dV kV doc pm an cdv ct),sl⟩) (e3:codeIn K cdv "law" = true) ..:∃ t,My.Txt K t
(the tactic k_is has no namespace: write k_is) -/
namespace L2
open PySem PySem.Spec PyProof.Rows
def e_ (s:Stmt) (j:Nat):Stmt:=match s with
 | .ClassDef _ _ _ body _ _ _ _ _ _ _=>body.getD j (.Pass ⟨0,0,0,0⟩)
 | _=>.Pass ⟨0,0,0,0⟩
def eg (s:Stmt):Arguments:=match s with
 | .FunctionDef _ a _ _ _ _ _ _ _ _=>a
 | _=>{ posonlyargs:=[],args:=[],vararg:=none,kwonlyargs:=[],kw_defaults:=[],kwarg:=none,defaults:=[] }
def bU (s:Stmt):List Stmt:=match s with
 | .FunctionDef _ _ b _ _ _ _ _ _ _=>b
 | _=>[]
def ai (s:Stmt):Scope:=match s with
 | .FunctionDef _ _ _ _ _ _ sc _ _ _=>sc
 | _=>{ kind:=.function,names:=[],isGenerator:=false,isCoroutine:=false }
abbrev CX0:CXT:=fun _ _ _ _ _ _=>False
abbrev E0:XK:=fun _ _ _=>False
theorem vt {X:Cx}:nB CX0 X E0:=fun _ _ _ _ _ _ _ h=>h.elim
structure Fun (K:PySem.W.Frag) (x qual:Str) (st:Stmt) (f:Addr) (fd:FuncData):Prop where
 ex:∃ (oc:Value) (od:Option Addr) (kV doc pm:Value) (an:Option Addr) (cdv ct:Value) (osl:Array (Option Value)),
  fd=PySem.W.fnOf x qual (eg st) (bU st) (ai st) .none kV doc pm an cdv ct∧K.lookup f=some ⟨oc,od,.func fd,osl⟩∧PySem.W.codeIn K cdv qual=true
 kp:PySem.W.keepIn K (.ref f)=true
section
variable {P:Program} {w:World} {K:PySem.W.Frag} {mg:Str→Option Value} {base:Heap}
theorem Fun.ok {x qual:Str} {st:Stmt} {f:Addr} {fd:FuncData} {N ps:List Str} {k:Nat} {sp:Sp} (F:Fun K x qual st f fd) (S:FnScope N ps (ai st)) (len:∀ vs H Q E,sp vs H Q E→vs.length=ps.length)
 (hbody:∀ (cdv:Value) (A:Around) (outer:List Env) (s:Shared) (H:Hp) (vs:List V) (Q:VK) (E:XK),Room k (A.deeper (envOfC qual (ai st) s.heap.objs.size f cdv))→sp vs H Q E →
  ∃ t,PSs (iJ CX0 P w K mg base N qual (ai st) f cdv A outer s H E).nox (bU st) t∧t { nx:=fun _ H'=>Q .non H',rt:=Q } (de N vs) H):FnOk P w K mg base CX0 (k + 1) f fd ps sp:=by
 obtain ⟨oc,od,kV,doc,pm,an,cdv,ct,osl,rfl,lk,hcd⟩:=F.ex
 refine vK lk hcd S len fun A outer s H vs Q E hr hsp=>?_
 obtain ⟨t,h,q⟩:=hbody cdv A outer s H vs Q E hr hsp
 exact ⟨t,h.nox,q⟩
theorem Fun.binds {x qual:Str} {st:Stmt} {f:Addr} {fd:FuncData} {ps:List Str} (F:Fun K x qual st f fd)
 (h:∀ (kV doc pm:Value) (an:Option Addr) (cdv ct:Value) (us:List Value),us.length=ps.length→bindArgs (PySem.W.fnOf x qual (eg st) (bU st) (ai st) .none kV doc pm an cdv ct) ⟨us,[]⟩=pure (ps.zip us)):cD K fd ps []:=by
 obtain ⟨oc,od,kV,doc,pm,an,cdv,ct,osl,rfl,lk,hcd⟩:=F.ex
 exact .all (h kV doc pm an cdv ct)
theorem nC {x qual:Str} {st:Stmt} {f:Addr} {oc:Value} {od an:Option Addr} {osl:Array (Option Value)} {kV doc pm cdv ct:Value} (l:K.lookup f=some ⟨oc,od,.func (PySem.W.fnOf x qual (eg st) (bU st) (ai st) .none kV doc pm an cdv ct),osl⟩)
 (c:PySem.W.codeIn K cdv qual=true) (k:PySem.W.keepIn K (.ref f)=true):Fun K x qual st f (PySem.W.fnOf x qual (eg st) (bU st) (ai st) .none kV doc pm an cdv ct):=⟨⟨oc,od,kV,doc,pm,an,cdv,ct,osl,rfl,l,c⟩,k⟩
end
theorem gW {A:Around} {k:Nat} (hr:Room k A):A.units + 1<cLine:=Nat.lt_of_le_of_lt (Nat.add_le_add_left (by decide : 1≤64) _) hr.units
theorem bH {n:Nat} (h:n≤1000):n<sizeLine:=Nat.lt_of_le_of_lt h 'k'
section
variable {X:Cx}
theorem pv (i:Nat) {x:Str} {pos:Pos} (hN:X.N[i]? = some x:=by rfl) (hv:Vis X.env.scope x:=by first | exact Or.inl rfl | exact Or.inr 'c' | exact Or.inr (Or.inr rfl)) (hd:'d'=false:=by decide)
 (hcd:(x == ("__classdict__":Str))=false:=by decide):PE X (.Name x pos) (tVar i):=dq hN hv hd hcd
end
theorem cI {c A B:Prop} [Decidable c] (h1:c→A) (h2 : ¬ c→B):if c then A else B:=by
 by_cases h:c
 ·rw [if_pos h]
  exact h1 h
 ·rw [if_neg h]
  exact h2 h
def az (H H':Hp):Prop:=∀ b o,H b=some o→H' b=some o
theorem az.refl (H:Hp):az H H:=fun _ _ h=>h
theorem az.trans {H H1 H2:Hp} (a:az H H1) (b:az H1 H2):az H H2:=fun c o h=>b c o (a c o h)
inductive D where
 | non | bl (b:Bool) | int (i:Int) | str (x:Str) | tup (ds:List D) | lst (ds:List D) | dct | dic (ks:List Key) (ds:List D) | scr (φ:Addr→Prop) (ns:List Int) | ext (φ:Hp→Addr→Prop)
mutual
def Rep (H:Hp):D→V→Prop
 | .non,v=>v = .non
 | .bl b,v=>v = .bl b
 | .int i,v=>v = .int i
 | .str x,v=>v = .str x
 | .tup ds,v=>∃ a xs,v = .ref a∧H a=some (.tup xs)∧Reps H ds xs
 | .lst ds,v=>∃ a xs,v = .ref a∧H a=some 'p'∧Reps H ds xs
 | .dct,v=>∃ a kvs,v = .ref a∧H a=some (.dK kvs)
 | .dic ks ds,v=>∃ a xs,v = .ref a∧H a=some (.dK (ks.zip xs))∧ks.length=ds.length∧Reps H ds xs
 | .scr φ ns,v=>∃ a,v = .ref a∧((∃ o,H a=some (.frz o (.lst (ns.map V.int))))∨φ a)
 | .ext φ,v=>∃ a H0,v = .ref a∧az H0 H∧φ H0 a
def Reps (H:Hp):List D→List V→Prop
 | [],xs=>xs=[]
 | d :: ds,xs=>∃ v vs,xs=v :: vs∧Rep H d v∧Reps H ds vs
end
theorem Reps.length {H:Hp}:∀ {ds:List D} {xs:List V},Reps H ds xs→xs.length=ds.length
 | [],xs,h=>by rw [Reps] at h; subst h; rfl
 | d :: ds,xs,h=>by
  rw [Reps] at h
  obtain ⟨v,vs,rfl,_,h2⟩:=h
  have:=Reps.length h2
  simp [this]
mutual
theorem Rep.mono {H H':Hp} (e:az H H'):∀ (d:D) (v:V),Rep H d v→Rep H' d v
 | .non,v,h=>by rw [Rep] at *; exact h
 | .bl b,v,h=>by rw [Rep] at *; exact h
 | .int i,v,h=>by rw [Rep] at *; exact h
 | .str x,v,h=>by rw [Rep] at *; exact h
 | .tup ds,v,h=>by
  rw [Rep] at *
  obtain ⟨a,xs,h1,h2,h3⟩:=h
  exact ⟨a,xs,h1,e _ _ h2,Reps.mono e ds xs h3⟩
 | .lst ds,v,h=>by
  rw [Rep] at *
  obtain ⟨a,xs,h1,h2,h3⟩:=h
  exact ⟨a,xs,h1,e _ _ h2,Reps.mono e ds xs h3⟩
 | .dct,v,h=>by
  rw [Rep] at *
  obtain ⟨a,kvs,h1,h2⟩:=h
  exact ⟨a,kvs,h1,e _ _ h2⟩
 | .dic ks ds,v,h=>by
  rw [Rep] at *
  obtain ⟨a,xs,h1,h2,h3,h4⟩:=h
  exact ⟨a,xs,h1,e _ _ h2,h3,Reps.mono e ds xs h4⟩
 | .scr φ ns,v,h=>by
  rw [Rep] at *
  obtain ⟨a,h1,h2⟩:=h
  refine ⟨a,h1,?_⟩
  rcases h2 with ⟨o,h2⟩ | h2
  ·exact .inl ⟨o,e _ _ h2⟩
  ·exact .inr h2
 | .ext φ,v,h=>by
  rw [Rep] at *
  obtain ⟨a,H0,h1,h2,h3⟩:=h
  exact ⟨a,H0,h1,fun b o q=>e _ _ (h2 b o q),h3⟩
theorem Reps.mono {H H':Hp} (e:az H H'):∀ (ds:List D) (xs:List V),Reps H ds xs→Reps H' ds xs
 | [],xs,h=>by rw [Reps] at *; exact h
 | d :: ds,xs,h=>by
  rw [Reps] at *
  obtain ⟨v,vs,h1,h2,h3⟩:=h
  exact ⟨v,vs,h1,Rep.mono e d v h2,Reps.mono e ds vs h3⟩
end
def D.ty:D→String
 | .non => "NoneType" | .bl _ => "bool" | .int _ => "int" | .str _ => "str" | .tup _ => "tuple" | .lst _ => "list" | .dct => "dict" | .dic _ _ => "dict" | .scr _ _ => "list" | .ext _ => "object"
def D.isS:D→Bool
 | .scr _ _=>true
 | .ext _=>true
 | _=>false
theorem Rep.ty {K:PySem.W.Frag} {H:Hp} {d:D} {v:V} (h:Rep H d v) (hs:d.isS=false):TyOf K H v (.type d.ty):=by
 cases d with
 | non=>rw [Rep] at h; subst h; exact .non
 | bl b=>rw [Rep] at h; subst h; exact .bl b
 | int i=>rw [Rep] at h; subst h; exact .int i
 | str x=>rw [Rep] at h; subst h; exact .str x
 | tup ds=>rw [Rep] at h; obtain ⟨a,xs,rfl,h2,_⟩:=h; exact .tup h2
 | lst ds=>rw [Rep] at h; obtain ⟨a,xs,rfl,h2,_⟩:=h; exact .lst h2
 | dct=>rw [Rep] at h; obtain ⟨a,kvs,rfl,h2⟩:=h; exact .dK h2
 | dic ks ds=>rw [Rep] at h; obtain ⟨a,xs,rfl,h2,_⟩:=h; exact .dK h2
 | scr φ ns=>cases hs
 | ext φ=>cases hs
theorem gc {H:Hp}:∀ {ds:List D} {xs:List V} {r:Nat},Reps H ds xs→r<ds.length→∃ v d,xs[r]? = some v∧ds[r]? = some d∧Rep H d v
 | [],_,_,_,h=>absurd h (Nat.not_lt_zero _)
 | d :: ds,xs,0,h,_=>by obtain ⟨v,vs,rfl,h1,_⟩:=h; exact ⟨v,d,rfl,rfl,h1⟩
 | d :: ds,xs,r + 1,h,hl=>by
  obtain ⟨v,vs,rfl,_,h2⟩:=h
  obtain ⟨v',d',e1,e2,e3⟩:=gc (r:=r) h2 (by simpa using hl)
  exact ⟨v',d',by simpa using e1,by simpa using e2,e3⟩
theorem gl {H:Hp} {a:Addr} {xs:List V} {ds:List D} (h:H a=some (.tup xs)) (r:Reps H ds xs):Rep H (.tup ds) (.ref a):=by rw [Rep]; exact ⟨a,xs,rfl,h,r⟩
theorem fK {H:Hp} {a:Addr} {xs:List V} {ds:List D} (h:H a=some 'p') (r:Reps H ds xs):Rep H (.lst ds) (.ref a):=by rw [Rep]; exact ⟨a,xs,rfl,h,r⟩
theorem bp {H:Hp}:Reps H [] []:=by rw [Reps]
theorem bf {H:Hp} {d:D} {v:V} {ds:List D} {vs:List V} (h:Rep H d v) (r:Reps H ds vs):Reps H (d :: ds) (v :: vs):=by rw [Reps]; exact ⟨v,vs,rfl,h,r⟩
theorem ba {H:Hp} (i:Int):Rep H (.int i) (.int i):=by rw [Rep]
theorem bN {H:Hp} (i:Bool):Rep H (.bl i) (.bl i):=by rw [Rep]
theorem uV {H:Hp} (i:Str):Rep H (.str i) (.str i):=by rw [Rep]
theorem kC {H:Hp}:Rep H .non .non:=by rw [Rep]
theorem k9 {H:Hp} {p:Addr} (h:H p=none) (o:HO):az H (upd H p o):=fun b u q=>by rw [ah (ar q h)]; exact q
section
variable {X:Cx}
def pe (d:D) (T:String):Option Bool:=if d.isS=true then none else if (Value.type d.ty == Value.type T)=true then some true else if PySem.W.kitMeta T=true then (fastBuiltinMro d.ty).map (·.contains (.type T)) else none
theorem sN (K:PySem.W.Frag) (d:D) (T:String) (hs:d.isS=false):PySem.W.kitOne K (.type d.ty) (.type T)=pe d T:=by
 unfold pe; rw [hs,if_neg 'k']; rfl
def rIsI:List V→Hp→VK→Prop:=fun xs H Q=>∃ x T d b,xs=[x,.ty T]∧Rep H d x∧pe d T=some b∧Q (.bl b) H
theorem lF:cj X (.builtin "isinstance") rIsI:=by
 intro pins s σ H xs us Q I r h
 obtain ⟨x,T,d,b,rfl,hd,e,q⟩:=h
 obtain ⟨u,w',rfl,ru,rw'⟩:=hX r
 cases (show w'=Value.type T from rw')
 have hs:d.isS=false:=by
  cases z:d.isS with
  | false=>rfl
  | true=>unfold pe at e; rw [z,if_pos rfl] at e; cases e
 rw [← sN X.K d T hs] at e
 exact jy I ru (hd.ty hs) e fun tk=>⟨.bl b,H,I.tok tk,rfl,q⟩
def Sm (i:Int):Prop:=i.natAbs<2 ^ 8000
theorem Sm.log {i:Int} (h:Sm i):i.natAbs.log2<8000:=by
 by_cases h0:i.natAbs=0
 ·rw [h0]; decide
 ·exact (Nat.log2_lt h0).mpr h
def CDivB (i j:Int):Prop:=0<j∧Sm j
theorem rf:OpR X (binaryOp .FloorDiv) (rI CDivB fun i j=>.int (i / j)):=opI fun i j _ _ _ _ _ hc q=>by
 refine floordiv_int (Int.ne_of_gt hc.1) ?_ (.inl (PyProof.noPylong_of_log2 (Nat.lt_of_lt_of_le hc.2.log 'k')))
 rw [Int.fdiv_eq_ediv_of_nonneg _ (Int.le_of_lt hc.1)]
 exact q
end
theorem bd:bootBuiltins "len" = some (.builtin "len"):=by decide +kernel
theorem vX:bootBuiltins "abs" = some (.builtin "abs"):=by decide +kernel
theorem rN:bootBuiltins "max" = some (.builtin "max"):=by decide +kernel
theorem nj:bootBuiltins "min" = some (.builtin "min"):=by decide +kernel
theorem aG:bootBuiltins "isinstance" = some (.builtin "isinstance"):=by decide +kernel
theorem pV:bootBuiltins "sorted" = some (.builtin "sorted"):=by decide +kernel
theorem q_:bootBuiltins "range" = some (.type "range"):=by decide +kernel
theorem jW:bootBuiltins "int" = some (.type "int"):=by decide +kernel
theorem uM:bootBuiltins "bool" = some (.type "bool"):=by decide +kernel
theorem fT:bootBuiltins "tuple" = some (.type "tuple"):=by decide +kernel
theorem fg:bootBuiltins "list" = some (.type "list"):=by decide +kernel
theorem vU:bootBuiltins "str" = some (.type "str"):=by decide +kernel
theorem kg:bootBuiltins "enumerate" = some (.type "enumerate"):=by decide +kernel
theorem wO:bootBuiltins "zip" = some (.type "zip"):=by decide +kernel
section
variable {X:Cx} {pins:List (Addr×Obj)} {σ:St} {H:Hp} {s:Shared} {pos:Pos}
theorem Inv.big (I:Inv X pins σ H s):sysModules<s.heap.objs.size:=by
 obtain ⟨o,es,ep,e,_⟩:=I.ok.mod.glob
 have h1:=Heap.lt_size (I.bk _ _ e)
 exact Nat.lt_of_le_of_lt 'k' h1
theorem lM {P:Program} {w:World} {H:Hp} (h:Heap) (hb:sysModules<h.objs.size):aP P w H (h.push { cls:=.type "dict",data:=.dict #[] }) h.objs.size (.dK []) :=
 ⟨Nat.zero_le _,beq_eq_false_iff_ne.mpr (Ne.symm (Nat.ne_of_lt hb)),[],.nil,Heap.DictOf.new h⟩
def xG:TE:=fun _ H Q=>∀ p,H p=none→Q (.ref p) (upd H p (.dK []))
theorem lO:PE X (.Dict [] [] pos) xG:=⟨fun pins s σ H Q I h =>
 wpAny_Dict_empty ⟨.ref s.heap.objs.size,_,I.laid (a:=s.heap.objs.size) (o:=.dK []) (t':=s.toks) (fun _ _ q=>Heap.get?_push_of_some _ q) 'l' (lM s.heap I.big),rfl,h _ (I.hok.fresh 'l')⟩⟩
end
end L2
namespace L2
open PySem
theorem cK {i:Int} {n:Nat} (h:i.natAbs≤n) (hn:n<2 ^ 8000):Sm i:=Nat.lt_of_le_of_lt h hn
end L2
namespace L2
open PySem PySem.Spec PyProof.Rows
def CL (env:Env):List (Str×Addr)→Prop
 | []=>True
 | p :: r=>env.cells.lookup p.1=some p.2∧CL env r
theorem CL.get {env:Env}:∀ {cl:List (Str×Addr)},CL env cl→∀ {x:Str} {c:Addr},cl.lookup x=some c→env.cells.lookup x=some c
 | [],_,x,c,h=>by simp at h
 | (y,d) :: r,h,x,c,e=>by
  rw [List.lookup_cons] at e
  cases hx:x == y with
  | true =>
   rw [hx] at e
   have e1:x=y:=by simpa using hx
   have e2:d=c:=Option.some.inj e
   subst e1 e2
   exact h.1
  | false =>
   rw [hx] at e
   exact CL.get h.2 e
theorem eV {env:Env}:∀ {names:List (Str×NameKind)} {x:Str} {k:NameKind},
 (names.map fun (n,k)=>if (k == NameKind.free&&env.scope.kind == .function&&env.kindOf n == some .cell) then (n,NameKind.cell) else (n,k)).lookup x=some k →
 ∃ k',names.lookup x=some k'∧(k'=k∨(k' = .free∧k = .cell))
 | [],x,k,h=>by simp at h
 | (n,kn) :: r,x,k,h=>by
  have ih:=@eV env r x k
  by_cases hc:(kn == NameKind.free&&env.scope.kind == .function&&env.kindOf n == some .cell)=true
  ·have h':List.lookup x ((n,NameKind.cell) :: (r.map fun (n,k)=>if (k == NameKind.free&&env.scope.kind == .function&&env.kindOf n == some .cell) then (n,NameKind.cell) else (n,k)))=some k:=by
    rw [List.map_cons] at h
    simp only [hc,if_true] at h
    exact h
   rw [List.lookup_cons] at h' ⊢
   cases hx:x == n with
   | true =>
    rw [hx] at h'
    have:kn = .free:=by
     simp only [Bool.and_eq_true,beq_iff_eq] at hc
     exact hc.1.1
    exact ⟨kn,rfl,.inr ⟨this,(Option.some.inj h').symm⟩⟩
   | false=>rw [hx] at h'; exact ih h'
  ·have h':List.lookup x ((n,kn) :: (r.map fun (n,k)=>if (k == NameKind.free&&env.scope.kind == .function&&env.kindOf n == some .cell) then (n,NameKind.cell) else (n,k)))=some k:=by
    rw [List.map_cons] at h
    simp only [hc] at h
    exact h
   rw [List.lookup_cons] at h' ⊢
   cases hx:x == n with
   | true=>rw [hx] at h'; exact ⟨kn,rfl,.inl (Option.some.inj h')⟩
   | false=>rw [hx] at h'; exact ih h'
def bv (X:Cx) (scope:Scope) (cl:List (Str×Addr)) (N:List Str) (C:Addr) (s₀:Shared) (H₀:Hp) (ex:List Addr):Cx where
 prog:=X.prog
 w:=X.w
 K:=X.K
 mg:=X.mg
 base:=X.base
 A:=X.A
 N:=N
 s₀:=s₀
 H₀:=H₀
 env:=compEnvC scope cl C X.env
 outer:=X.stack
 stack:=X.stack
 ex:=ex
 fn:=fun _=>false
 calm:=X.calm
 pn:=[]
 xe:=fun _ _=>False
def okJ (X:Cx) (scope:Scope) (j:Nat):Bool:=match X.N[j]? with
 | some x=>(match X.env.scope.names.lookup x with | some .cell=>true | _=>false)&&(match scope.names.lookup x with | some .free=>true | _=>false)
 | none=>false
def bB (own:List Str) (js:List Nat) (σ:St):St:=own.map (fun _=>none)++js.map fun j=>(σ[j]?).getD none
def cJ (X:Cx) (own:List Str) (js:List Nat):List Str:=own++js.map fun j=>(X.N[j]?).getD (Str.ofString "")
structure CompOk (X:Cx) (scope:Scope) (cl:List (Str×Addr)) (own:List Str) (js:List Nat):Prop where
 clos:closureFor scope X.env=pure cl
 kind:scope.kind = .function
 names:∀ x∈scope.names,x.2 = .local→scope.names.lookup x.1=some .local
 ncell:(scope.names.all fun y=>match y.2 with | .cell=>false | _=>true)=true
 has:(scope.names.all fun y=>match y.2 with | .free=>(cl.lookup y.1).isSome | _=>true)=true
 cells:CL X.env cl
 js:js.all (okJ X scope)=true
theorem CompOk.nc {X:Cx} {scope:Scope} {cl:List (Str×Addr)} {own:List Str} {js:List Nat} (c:CompOk X scope cl own js):∀ y∈scope.names,y.2≠.cell:=fun y hy e=>by
 have:=List.all_eq_true.mp c.ncell y hy
 rw [e] at this
 cases this
theorem CompOk.fr {X:Cx} {scope:Scope} {cl:List (Str×Addr)} {own:List Str} {js:List Nat} (c:CompOk X scope cl own js) {x:Str} (h:scope.names.lookup x=some .free):∃ d,cl.lookup x=some d:=by
 have:=List.all_eq_true.mp c.has (x,.free) (PySem.mem_of_lookup h)
 exact Option.isSome_iff_exists.mp this
section
variable {X:Cx} {pins:List (Addr×Obj)} {σ:St} {H:Hp} {s:Shared} {scope:Scope} {cl:List (Str×Addr)} {own:List Str} {js:List Nat}
theorem mY {h1:Heap} {C:Addr} {fp:List Addr} {t':Nat} (c:CompOk X scope cl own js) (I:Inv X pins σ H s) (hf:∀ b∈fp,gz X pins H b) (hlt:∀ b∈fp,b<s.heap.objs.size)
 (hC:s.heap.objs.size≤C) (hk:∀ b o,s.heap.get? b=some o→h1.get? b=some o) (hn:h1.Ns C fun _=>none) :
 Inv (bv X scope cl (cJ X own js) C s H fp) [] (bB own js σ) H { s with heap:=h1,toks:=t' }:=by
 have kindOfY:∀ x k,(bv X scope cl (cJ X own js) C s H fp).env.kindOf x=some k→∃ k',scope.names.lookup x=some k'∧(k'=k∨(k' = .free∧k = .cell)):=fun x k e=>eV (env:=X.env) (names:=scope.names) e
 refine ⟨⟨I.ok.mod,c.kind,I.ok.glob,I.ok.blt,hC,fun x y d h1 h2=>I.ok.inj x y d (c.cells.get h1) (c.cells.get h2),fun x hx=>?_,fun x d h=>(by cases h),I.ok.hd,I.ok.frames,.inl rfl,fun b hb=>⟨?_,fun x d e=>(hf b hb).2.2.2.2.1 x d (c.cells.get e)⟩,
  fun b o e=>I.bs b o e,Nat.le_trans I.ok.bsz I.sz,fun b o e hb=>?_,fun b hb z=>?_,I.stack,I.stkFree⟩,rfl,I.bare,Un.kept hk,⟨_,hn,fun i x v e1 e2 e3=>?_⟩,fun x d e=>?_,I.hok.fresh hC,fun x d e=>I.freeC x d (c.cells.get e),fun p hp=>(by cases hp),I.hok.kept hk,?_⟩
 ·rcases hx with hx | hx
  ·obtain ⟨k',e1,e2⟩:=kindOfY x _ hx
   rcases e2 with e2 | ⟨e2,_⟩
   ·exact absurd e2 (c.nc _ (PySem.mem_of_lookup e1))
   ·subst e2; exact c.fr e1
  ·obtain ⟨k',e1,e2⟩:=kindOfY x _ hx
   rcases e2 with e2 | ⟨_,e2⟩
   ·subst e2; exact c.fr e1
   ·cases e2
 ·exact Nat.ne_of_lt (Nat.lt_of_lt_of_le (hlt b hb) hC)
 ·rcases (hf b hb).2.2.2.1 with z | z
  ·exact I.ok.noex b o e z
  ·exact absurd (Nat.lt_of_lt_of_le (Heap.lt_size e) (Nat.le_trans I.ok.bsz z)) (Nat.lt_irrefl _)
 ·rcases List.mem_cons.mp (I.stkSub b z) with q | q
  ·exact (hf b hb).2.1 q
  ·exact (hf b hb).2.2.1 q
 ·-- a name taken from the frame
  have e1:(cJ X own js)[i]? = some x:=e1
  unfold cJ at e1
  unfold bB at e2
  by_cases hi:i<own.length
  ·rw [List.getElem?_append_left (by simpa using hi),List.getElem?_map,List.getElem?_eq_getElem hi] at e2
   cases e2
  ·rw [List.getElem?_append_right (by simpa using Nat.not_lt.mp hi),List.getElem?_map,List.length_map] at e2
   rw [List.getElem?_append_right (Nat.not_lt.mp hi),List.getElem?_map] at e1
   cases ej:js[i - own.length]? with
   | none=>rw [ej] at e2; cases e2
   | some j =>
    rw [ej] at e1 e2
    have hj:=List.all_eq_true.mp c.js j (List.mem_of_getElem? ej)
    unfold okJ at hj
    have e1':(X.N[j]?).getD (Str.ofString "")=x:=Option.some.inj e1
    have e2':(σ[j]?).getD none=some v:=Option.some.inj e2
    cases en:X.N[j]? with
    | none=>rw [en] at hj; cases hj
    | some y =>
     rw [en] at hj e1'
     have e1'':y=x:=e1'
     subst e1''
     have hv : σ[j]? = some (some v):=by
      cases es : σ[j]? with
      | none=>rw [es] at e2'; cases e2'
      | some ov=>rw [es] at e2'; rw [show ov=some v from e2']
     dsimp only at hj
     rw [Bool.and_eq_true] at hj
     have k1:X.env.scope.names.lookup y=some .cell:=by
      have:=hj.1
      split at this
      ·assumption
      ·cases this
     have k2:scope.names.lookup y=some .free:=by
      have:=hj.2
      split at this
      ·assumption
      ·cases this
     obtain ⟨m,_,hl⟩:=I.loc
     obtain ⟨u,ru,l⟩:=hl j y v en hv (.inr (.inl k1))
     refine ⟨u,ru,?_⟩
     rcases l with ⟨l,_⟩ | ⟨_,d,ed,z⟩
     ·rw [show X.env.kindOf y=some .cell from k1] at l; cases l
     ·obtain ⟨d',ed'⟩:=c.fr k2
      have:=c.cells.get ed'
      rw [ed] at this
      cases this
      obtain ⟨o,ho,hd⟩:=z
      refine .inr ⟨?_,d,ed',⟨o,hk _ _ ho,hd⟩⟩
      have e3:(bv X scope cl (cJ X own js) C s H fp).env.scope.names.lookup y=some .local∨(bv X scope cl (cJ X own js) C s H fp).env.scope.names.lookup y=some .cell∨(bv X scope cl (cJ X own js) C s H fp).env.scope.names.lookup y=some .free:=e3
      rcases e3 with e3 | e3 | e3
      ·obtain ⟨k',q1,q2⟩:=kindOfY y _ e3
       rw [k2] at q1
       cases q1
       rcases q2 with q2 | ⟨_,q2⟩ <;> cases q2
      ·exact .inl e3
      ·exact .inr e3
 ·obtain ⟨v,o,ho,hd⟩:=I.cell x d (c.cells.get e)
  exact ⟨v,o,hk _ _ ho,hd⟩
 ·show (bB own js σ).length=(cJ X own js).length
  unfold bB cJ
  simp
structure PIf (X:Cx) (ifs:List Expr) (t:TT):Prop where
 go:∀ (pins:List 'h') (s:Shared) (σ:St) (H:Hp) (Q:Bool→Hp→Prop),Inv X pins σ H s→t σ H Q →
  wpAny 'b' X.A (forIn ifs true fun c r=>if r=true then do let ok ← isTrue c X.env (eval c X.env); pure (ForInStep.yield ok) else pure (ForInStep.yield r)) (TP X pins σ Q) X.xe s
def tYes:TT:=fun _ H Q=>Q true H
theorem uY:PIf X [] tYes:=⟨fun pins s σ H Q I h=>wpAny_tests_nil ⟨H,I,h⟩⟩
theorem tR {c:Expr} {t:TT} (h:PT X c t):PIf X [c] t:=⟨fun pins s σ H Q I q=>wpAny_tests_one (h.go pins s σ H Q I q)⟩
theorem fq {prog:Program} {w:World} {A:Around} {R:Result→Shared→Prop} {s:Shared} {elt target iter:Expr} {ifs:List Expr} {scope:Scope} {pos:Pos} {it acc:Value} {env:Env} (I:Nat→Shared→Prop)
 (turn:∀ n s,I n s→wpAny 's' A (pyNext it) (fun r s₁=>match r with
  | none=>R (.ok .next) s₁
  | some v=>wpAny 's' A (letOwnedTupleGo target it v) (fun _ s₁=>wpAny 's' A (assign target env v) (fun _ s₂ =>
   wpAny 's' A (forIn ifs true fun c r=>if r=true then do let ok ← isTrue c env (eval c env); pure (ForInStep.yield ok) else pure (ForInStep.yield r)) (fun ok s₃ =>
    if ok=true then wpAny 's' A (eval elt env) (fun x s₄ =>
     wpAny 's' A (call (.builtin "list.append") [acc,x]) (fun _ s₅=>∃ m,m<n∧I m s₅) (fun _ _=>False) s₄) (fun _ _=>False) s₃
    else ∃ m,m<n∧I m s₃) (fun _ _=>False) s₂) (fun _ _=>False) s₁) (fun _ _=>False) s₁) (fun _ _=>False) s)
 (n:Nat) (h:I n s) :
 codeAny 's' A (.compLoop (.ListComp elt [⟨target,iter,ifs,0⟩] scope pos) 0 it acc env) R s:=by
 refine codeAny_loop rfl I (fun n s hI=>?_) n h
 show wpAny _ A ((compTurn (.ListComp elt [⟨target,iter,ifs,0⟩] scope pos) 0 it acc env).onRaise (fun x=>do noteFrame x env; theTreesLotGoes x)) _ _ s
 refine wpAny_noted ?_
 rw [compTurn_list]
 refine wpAny_bind (wpAny_standAt (wpAny_bind (wpAny_mono (turn n s hI) (fun r s₁ h₁=>?_) fun _ _ h'=>h'.elim)))
 cases r with
 | none=>exact wpAny_pure h₁
 | some v =>
  refine wpAny_bind (wpAny_mono h₁ (fun _ s₁ h₁=>?_) fun _ _ h'=>h'.elim)
  refine wpAny_bind (wpAny_mono h₁ (fun _ s₂ h₂=>wpAny_bind (wpAny_mono h₂ (fun ok s₃ h₃=>?_) fun _ _ h'=>h'.elim)) fun _ _ h'=>h'.elim)
  cases ok with
  | false=>exact wpAny_pure ⟨rfl,h₃⟩
  | true =>
   exact wpAny_bind (wpAny_bind (wpAny_mono h₃ (fun x s₄ h₄=>wpAny_bind (wpAny_mono h₄ (fun _ s₅ h₅=>wpAny_pure (wpAny_pure ⟨rfl,h₅⟩)) fun _ _ h'=>h'.elim)) fun _ _ h'=>h'.elim))
def kept:St→St→Prop
 | [],[]=>True
 | none :: r,_ :: r'=>kept r r'
 | some v :: r,y :: r'=>y=some v∧kept r r'
 | [],_ :: _=>False
 | _ :: _,[]=>False
theorem gk:∀ {a b:St},kept a b→a.length=b.length
 | [],[],_=>rfl
 | none :: r,_ :: r',h=>congrArg (· + 1) (gk (a:=r) (b:=r') h)
 | some v :: r,y :: r',h=>congrArg (· + 1) (gk (a:=r) (b:=r') h.2)
 | [],_ :: _,h=>False.elim h
 | none :: _,[],h=>False.elim h
 | some _ :: _,[],h=>False.elim h
theorem eP:∀ {a b:St},kept a b→∀ (i:Nat) (v:V),a[i]? = some (some v)→b[i]? = some (some v)
 | [],[],_,i,v,e=>by simp at e
 | none :: r,_ :: r',h,0,v,e=>by simp at e
 | none :: r,_ :: r',h,i + 1,v,e=>by simpa using eP (a:=r) (b:=r') h i v (by simpa using e)
 | some w :: r,y :: r',h,0,v,e=>by simp at e; subst e; simp [h.1]
 | some w :: r,y :: r',h,i + 1,v,e=>by simpa using eP (a:=r) (b:=r') h.2 i v (by simpa using e)
 | [],_ :: _,h,_,_,_=>False.elim h
 | none :: _,[],h,_,_,_=>False.elim h
 | some _ :: _,[],h,_,_,_=>False.elim h
def lW (J:It) (g:TG) (tt:TT) (te:TE) (σ0:St) (H:Hp) (Z:List V→Hp→Prop):Prop :=
 ∃ W:Nat→Nat→List V→Hp→Prop,(∃ m,W 0 m [] H)∧∀ i m acc H,W i m acc H →
  (J.stop i H∧acc.length≤sizeLine∧Z acc H)∨(J.go i H∧acc.length<sizeLine∧∃ N:List V→Hp→Prop,(∀ acc' H',N acc' H'→∃ m',m'<m∧W (i + 1) m' acc' H') ∧
   ∀ x H',J.yld i H x H'→g x σ0 H' fun σ2 H2=>kept σ0 σ2∧tt σ2 H2 fun b H3=>if b=true then te σ2 H3 fun v H4=>N (acc++[v]) H4 else N acc H3)
theorem HOk.adopt {P:Program} {w:World} {H:Hp} {h:Heap} {a:Addr} {o:HO} (x:HOk P w H h) (hn:H a=none) (new:aP P w (upd H a o) h a o):HOk P w (upd H a o) h:=fun b u e=>by
 by_cases hb:b=a
 ·subst hb; rw [ao] at e; cases e; exact new
 ·rw [ah hb] at e
  exact (x b u e).stay (fun c v _ q=>q) (fun c q=>by rw [ah (ar q hn)]; exact q) fun c xs q=>by rw [ah (ar q hn)]; exact q
theorem jJ {elt tg iter:Expr} {ifs:List Expr} {pos:Pos} {J:It} {fp:List Addr} {it:Addr} {tn:Nat→Heap→Prop} {g:TG} {tt:TT} {te:TE} {Z:List V→Hp→Prop} {E:Value→Shared→Prop}
 {RR:Value→Addr→Result→Shared→Prop} (c:CompOk X scope cl own js) (hc:X.calm=true) (I:Inv X pins σ H s) (T:Turn X.prog X.w X.K tg J fp it tn) (t0:tn 0 s.heap) (hf:∀ b∈fp,gz X pins H b)
 (inner:∀ (C:Addr) (s₀:Shared) (H₀:Hp) (ex:List Addr),PG 'i' tg g∧PIf 'i' ifs tt∧PE 'i' elt te)
 (hW:lW J g tt te (bB own js σ) H Z)
 (hRR:∀ (D C:Addr) (s':Shared) (acc:List V) (H':Hp),(∃ m,s'.heap.Ns C m)→H' D=none→Z acc H'→s.heap.objs.size≤C→C≠X.env.locals→(upd H' D (.lst acc)) C=none→(∀ h',Heap.SameBut C s'.heap h'→Inv X pins σ (upd H' D (.lst acc)) { s' with heap:=h' })→RR (.ref D) C (.ok .next) s') :
 wpAny 'b' X.A (newList []) (fun acc s₃=>wpAny 'b' X.A (newFunctionEnv scope X.env.globals cl [] X.env.qual none .none (some X.env)) (fun cenv s₄ =>
  codeAny 'b' X.A (.compStart 'j' 0 (.ref it) acc { cenv with scope:=relabel scope X.env }) (RR acc cenv.locals) s₄) E s₃) E s:=by
 refine wpAny_newObj_type (wpAny_newFunctionEnv c.nc (by intro y hy; simp at hy) (fun h₁ hns₁ hsb₁=>?_) c.kind)
 dsimp only at hns₁ hsb₁ ⊢
 generalize hH2:s.heap.push { cls:=.type "list",dict:=none,data:=.seq ([]:List Value).toArray } = H2 at hns₁ hsb₁ ⊢
 have hCs:H2.objs.size=s.heap.objs.size + 1:=by rw [← hH2,Heap.size_push]
 have hns₁:h₁.Ns H2.objs.size (fun _=>none):=hns₁
 have hCle:s.heap.objs.size≤H2.objs.size:=by rw [hCs]; exact Nat.le_succ _
 have hDC:s.heap.objs.size≠H2.objs.size:=by rw [hCs]; exact Nat.ne_of_lt (Nat.lt_succ_self _)
 have below:∀ b,b<s.heap.objs.size→b≠H2.objs.size∧b≠s.heap.objs.size:=fun b hb=>⟨by rw [hCs]; exact Nat.ne_of_lt (Nat.lt_succ_of_lt hb),Nat.ne_of_lt hb⟩
 have old:∀ b o,s.heap.get? b=some o→h₁.get? b=some o:=fun b o e=>hsb₁.extBut b o (below b (Heap.lt_size e)).1 (Heap.get?_push_of_some _ (hH2 ▸ Heap.get?_push_of_some _ e))
 have hD1:h₁.get? s.heap.objs.size=some { cls:=.type "list",data:=.seq ([]:List Value).toArray }:=hsb₁.extBut _ _ hDC (Heap.get?_push_of_some _ (hH2 ▸ Heap.get?_push_size _ rfl))
 have hlt:∀ b∈fp,b<s.heap.objs.size:=fun b hb=>by
  obtain ⟨o,e,_⟩:=T.obj 0 _ t0 b hb
  exact Heap.lt_size e
 have hCL:H2.objs.size≠X.env.locals:=fun z=>absurd (Nat.lt_of_lt_of_le I.lt (by rw [← z]; exact hCle)) (Nat.lt_irrefl _)
 have hDfs:s.heap.objs.size ∉ frs X.stack:=fun z=>by
  rcases List.mem_cons.mp (I.stkSub _ z) with q | q
  ·exact absurd I.lt (by rw [← q]; exact Nat.lt_irrefl _)
  ·exact I.nofs 'l' q
 have hfs:∀ b∈fp,b ∉ frs X.stack:=fun b hb z=>by
  rcases List.mem_cons.mp (I.stkSub b z) with q | q
  ·exact (hf b hb).2.1 q
  ·exact (hf b hb).2.2.1 q
 have hDcell:∀ x d,cl.lookup x=some d→d≠s.heap.objs.size:=fun x d e=>by
  obtain ⟨v,q⟩:=I.cell x d (c.cells.get e)
  exact Nat.ne_of_lt q.lt
 have fresh:H s.heap.objs.size=none:=I.hok.fresh 'l'
 obtain ⟨W,⟨m0,w0⟩,turn⟩:=hW
 have loop:∀ s₃:Shared,s₃ = { s with heap:=h₁,toks:=s.toks + ([]:List (Str×Value)).length } →
  codeAny 'b' X.A (.compLoop 'j' 0 (.ref it) (.ref s.heap.objs.size) (compEnvC scope cl H2.objs.size X.env)) (RR (.ref s.heap.objs.size) H2.objs.size) s₃:=by
  rintro s₃ rfl
  have I0:=mY (t':=s.toks + ([]:List (Str×Value)).length) c I hf hlt hCle old hns₁
  obtain ⟨hg,hi,he⟩:=inner H2.objs.size s H fp
  generalize hY:bv X scope cl (cJ X own js) H2.objs.size s H fp=Y at I0 hg hi he
  have Yp:Y.prog=X.prog:=by rw [← hY]; rfl
  have Yw:Y.w=X.w:=by rw [← hY]; rfl
  have YK:Y.K=X.K:=by rw [← hY]; rfl
  have YA:Y.A=X.A:=by rw [← hY]; rfl
  have Ye:Y.env=compEnvC scope cl H2.objs.size X.env:=by rw [← hY]; rfl
  have Yl:Y.env.locals=H2.objs.size:=by rw [← hY]; rfl
  have Yc:Y.env.cells=cl:=by rw [← hY]; rfl
  have Yf:Y.fs=frs X.stack:=by rw [← hY]; rfl
  have Yx:Y.ex=fp:=by rw [← hY]; rfl
  have Ys:Y.s₀=s:=by rw [← hY]; rfl
  have YH:Y.H₀=H:=by rw [← hY]; rfl
  have Yn:Y.pn=[]:=by rw [← hY]; rfl
  have Yo:Y.calm=true:=by rw [← hY]; exact hc
  have YE:Y.xe=fun _ _=>False:=by rw [← hY]; rfl
  have fpY:∀ {H':Hp} (pn:List 'h'),(∀ b∈fp,H' b=none)→(∀ b∈fp,∀ p∈pn,p.1≠b)→∀ b∈fp,gz Y pn H' b:=fun pn hn hp b hb =>
   ⟨hn b hb,by rw [Yl]; exact (below b (hlt b hb)).1,by rw [Yf]; exact hfs b hb,.inl (by rw [Yx]; exact hb),fun x d e=>(hf b hb).2.2.2.2.1 x d (c.cells.get (by rw [← Yc]; exact e)),fun p hp'=>hp b hb p (by rw [Yn] at hp'; exact hp')⟩
  refine fq (fun n s'=>∃ i acc its k H',Inv Y [] (bB own js σ) H' s'∧tn i s'.heap∧(∀ b∈fp,H' b=none)∧W i n acc H'∧H' s.heap.objs.size=none∧s'.heap.get? s.heap.objs.size=some { cls:=.type "list",data:=.seq (its:List Value).toArray k }∧aM acc its) ?_ m0
   ⟨0,[],[],0,H,I0,T.keep 0 _ _ t0 (fun b hb o e=>old b o e),fun b hb=>(hf b hb).1,w0,fresh,hD1,.nil⟩
  rintro n s' ⟨i,acc,its,k,H',I',tn',fr',w',hD',oD',hv'⟩
  have hpinD:∀ b∈fp,∀ p∈[(s.heap.objs.size,({ cls:=.type "list",data:=.seq its.toArray k }:Obj))],p.1≠b:=fun b hb p hp=>by
   rw [List.mem_singleton] at hp
   subst hp
   exact fun z=>(below b (hlt b hb)).2 z.symm
  have ID:Inv Y [(s.heap.objs.size,({ cls:=.type "list",data:=.seq its.toArray k }:Obj))] (bB own js σ) H' s':=I'.pins_of fun p hp=>by
   rw [List.mem_singleton] at hp
   subst hp
   exact ⟨oD',hD',by rw [Yl]; exact hDC,by rw [Yf]; exact hDfs,fun v z=>by cases z⟩
  rcases turn i n acc H' w' with ⟨stop,hlen,hz⟩ | ⟨go,hlen,N,hN,step⟩
  ·have hd:=T.done Y Yp Yw YK Yo i _ s' (bB own js σ) H' (fun _ _=>False) ID (fpY _ fr' hpinD) tn' stop
   rw [YA] at hd
   refine thn hd fun r s1 ⟨hr,I1⟩=>?_
   subst hr
   obtain ⟨oD1,_⟩:=I1.pin _ (List.mem_append_right _ (List.mem_singleton.mpr rfl))
   have hC0:H' H2.objs.size=none:=by have:=I1.free; rw [Yl] at this; exact this
   have B1:Un (frs X.stack) fp H H' s.heap s1.heap:=by have:=I1.base; rw [Yf,Yx,YH,Ys] at this; exact this
   refine hRR s.heap.objs.size H2.objs.size s1 acc H' (by obtain ⟨m,hn,_⟩:=I1.loc; rw [Yl] at hn; exact ⟨m,hn⟩) hD' hz hCle hCL (by rw [ah (Ne.symm hDC)]; exact hC0) fun h' hsb=>?_
   have at':∀ b o,b≠H2.objs.size→s1.heap.get? b=some o→h'.get? b=some o:=fun b o hb e=>by rw [hsb.2 b hb]; exact e
   refine I.call' (s':={ s1 with heap:=h' }) (ch:=fp) (by have:=I1.os; rw [Ys] at this; exact this) ⟨fun b o q nn hb hx=>?_,fun b o q nn hb hx=>?_,fun b o q nn hx=>?_,fun b o q hx=>?_,fun b xs q=>?_,fun b o u q=>?_,fun b ps q=>?_⟩ ?_ I1.bare fun b hb=>⟨(hf b hb).2.2.2.1,(hf b hb).2.1,(hf b hb).2.2.2.2.1,(hf b hb).2.2.2.2.2⟩
   ·exact at' b o (below b (Heap.lt_size q)).1 (B1.keep b o q nn hb hx)
   ·obtain ⟨sl,e⟩:=B1.slot b o q nn hb hx
    exact ⟨sl,at' b _ (below b (Heap.lt_size q)).1 e⟩
   ·rw [ah (below b (Heap.lt_size q)).2]; exact B1.free b o q nn hx
   ·obtain ⟨o',e⟩:=B1.there b o q hx
    exact ⟨o',at' b _ (below b (Heap.lt_size q)).1 e⟩
   ·have q':=B1.tups b xs q
    rw [ah (ar q' hD')]; exact q'
   ·have q':=B1.frzs b o u q
    rw [ah (ar q' hD')]; exact q'
   ·obtain ⟨more,q'⟩:=B1.tbls b ps q
    exact ⟨more,by rw [ah (ar q' hD')]; exact q'⟩
   ·have hok1:HOk X.prog X.w H' h':=fun a o e=>by
     have hok:=I1.hok
     rw [Yp,Yw] at hok
     refine (hok a o e).stay (fun b u hb q=>at' b u ?_ q) (fun _ q=>q) fun _ _ q=>q
     rcases hb with rfl | hb
     ·exact ar e hC0
     ·exact ar hb hC0
    exact hok1.adopt hD' ⟨hlen,its,k,hv',at' _ _ hDC oD1⟩
  ·have hd:=T.item Y Yp Yw YK Yo i _ s' (bB own js σ) H' (fun _ _=>False) ID (fpY _ fr' hpinD) tn' go
   rw [YA] at hd
   refine thn hd fun r s1 ⟨u,hr,h4⟩=>?_
   subst hr
   have h4:=h4
   refine thn h4 fun _ s2 ⟨x,H5,I5,r5,y5,tn5,fr5⟩=>?_
   have I5':=I5.pinned (fpY _ fr5 hpinD) (T.obj _ _ tn5)
   have hg':=hg.go _ s2 _ H5 x u _ I5' r5 (step x H5 y5)
   rw [Yp,Yw,YA,Ye,YE] at hg'
   refine thn hg' fun _ s3 ⟨σ6,H6,I6,kp6,q6⟩=>?_
   have hi':=hi.go _ s3 σ6 H6 _ I6 q6
   rw [Yp,Yw,YA,Ye,YE] at hi'
   refine thn hi' fun ok s4 ⟨H7,I7,q7⟩=>?_
   cases ok with
   | false =>
    rw [if_neg Bool.false_ne_true] at q7 ⊢
    obtain ⟨m',hm,w7⟩:=hN _ _ q7
    obtain ⟨oD7,hD7,_⟩:=I7.pin _ (List.mem_append_right _ (List.mem_append_left _ (List.mem_singleton.mpr rfl)))
    refine ⟨m',hm,i + 1,acc,its,k,H7,(I7.pins_of (pins':=[]) fun p hp=>(by cases hp)).weak (gk kp6) (eP kp6),T.keep _ _ _ tn5 fun b hb o e=>(I7.pin (b,o) (List.mem_append_right _ (List.mem_append_right _ (cn hb e)))).1,fun b hb=>?_,w7,hD7,oD7,hv'⟩
    obtain ⟨o,e,_⟩:=T.obj _ _ tn5 b hb
    exact (I7.pin (b,o) (List.mem_append_right _ (List.mem_append_right _ (cn hb e)))).2.1
   | true =>
    rw [if_pos rfl] at q7 ⊢
    have he':=he.go _ s4 σ6 H7 _ I7 q7
    rw [Yp,Yw,YA,Ye,YE] at he'
    refine thn he' fun v s5 ⟨xv,H8,I8,r8,n8⟩=>?_
    obtain ⟨m',hm,w8⟩:=hN _ _ n8
    obtain ⟨oD8,hD8,_⟩:=I8.pin _ (List.mem_append_right _ (List.mem_append_left _ (List.mem_singleton.mpr rfl)))
    have hsz:its.toArray.size<sizeLine:=by rw [List.size_toArray,← hv'.length]; exact hlen
    refine call_meets F.slot_list_append ⟨_,oD8,rfl⟩ F.entry_list_append (F.args_list_append_2 _ _) (PySem.list_append s.heap.objs.size its.toArray k v (Nat.le_of_lt hsz)) ⟨oD8,?_⟩
    have q:=PySem.IsL.update oD8 (fun a=>a.push v)
    have J8:Inv Y (iZ fp s2.heap) σ6 H8 s5:=I8.pins_of fun p hp=>I8.pin p (List.mem_append_right _ (List.mem_append_right _ hp))
    have ne8:∀ b,b∈fp→b≠s.heap.objs.size:=fun b hb=>(below b (hlt b hb)).2
    have J9:=J8.turned (t':=s5.toks) (h':=s5.heap.update s.heap.objs.size (Obj.mapSeq fun a=>a.push v)) (it:=s.heap.objs.size) (fun b o hb e=>(Heap.get?_update_other s5.heap _ (Ne.symm hb)).trans e) hD8 (by rw [Yl]; exact hDC) (.inr (by rw [Ys]; exact Nat.le_refl _)) (fun x d e=>hDcell x d (by rw [← Yc]; exact e))
     (fun p hp=>by
      rw [Yn,List.nil_append] at hp
      obtain ⟨hb,_⟩:=jG hp
      exact ne8 _ hb)
    have keep9:∀ b o,b∈fp→s2.heap.get? b=some o→(s5.heap.update s.heap.objs.size (Obj.mapSeq fun a=>a.push v)).get? b=some o:=fun b o hb e=>(J9.pin (b,o) (List.mem_append_right _ (cn hb e))).1
    refine ⟨m',hm,i + 1,acc++[xv],its++[v],(if ((its++[v]).toArray.size == its.toArray.size)=true then k else k + 1),H8,(J9.pins_of (pins':=[]) fun p hp=>(by cases hp)).weak (gk kp6) (eP kp6),T.keep _ _ _ tn5 fun b hb o e=>keep9 b o hb e,fun b hb=>?_,w8,hD8,?_,hv'.append (.cons r8 .nil)⟩
    ·obtain ⟨o,e,_⟩:=T.obj _ _ tn5 b hb
     exact (J9.pin (b,o) (List.mem_append_right _ (cn hb e))).2.1
    ·have q':=q
     simp only [List.push_toArray] at q'
     exact q'
 exact codeAny_compStart_list (loop _ rfl) (T.self _ 0 _ _ _ (T.keep 0 _ _ t0 (fun b hb o e=>old b o e)) (loop _ rfl))
def jq (wi:TI) (g:TG) (tt:TT) (te:TE) (own:List Str) (js:List Nat):TE:=fun σ H Q=>wi σ H fun J H1=>lW J g tt te (bB own js σ) H1 fun acc H2=>∀ p,H2 p=none→Q (.ref p) (upd H2 p (.lst acc))
theorem oE {elt tg iter:Expr} {ifs:List Expr} {pos:Pos} {wi:TI} {g:TG} {tt:TT} {te:TE} (own:List Str) (js:List Nat) (c:CompOk X scope cl own js) (hc:X.calm=true) (hi:PI X tg iter wi)
 (inner:∀ (C:Addr) (s₀:Shared) (H₀:Hp) (ex:List Addr),PG 'i' tg g∧PIf 'i' ifs tt∧PE 'i' elt te)
 (hs:∀ x,foldedSetIterable iter X.env x=pure x:=by intro _; rfl):PE X 'j' (jq wi g tt te own js):=by
 refine ⟨fun pins s σ H Q I h=>?_⟩
 rw [eval_ListComp]
 refine wpAny_comprehension_free (use:=none) rfl hs c.clos c.kind c.names (thn (hi.go pins s σ H _ I h) fun v s1 h1=>thn h1 fun itv s2 h2=>?_)
 obtain ⟨it,fp,tn,J,H2,e,I2,T,st2,f2,hW⟩:=h2
 subst e
 refine jJ (RR:=fun acc C=>compPost 'b' X.A X.xe none (EP X pins σ Q) acc C) c hc I2 T st2 f2 inner hW ?_
 intro D C s' acc H' hn hD hz hDC hCL hUC hI
 exact ⟨hn.choose,hn.choose_spec,fun h' hsb=>⟨.ref D,_,hI h' hsb,rfl,hz D hD⟩⟩
theorem d3 {elt tg iter:Expr} {ifs:List Expr} {pos spos py:Pos} {wi:TI} {g:TG} {tt:TT} {te:TE} {i:Nat} {y:Str} (own:List Str) (js:List Nat) (c:CompOk X scope cl own js) (hc:X.calm=true) (hN:X.N.Nodup) (hy:X.N[i]? = some y) (hx:Loc X.env.scope y) (hi:PI X tg iter wi)
 (inner:∀ (C:Addr) (s₀:Shared) (H₀:Hp) (ex:List Addr),PG 'i' tg g∧PIf 'i' ifs tt∧PE 'i' elt te)
 (hsw:swapsWith 'j' (some (.Name y py)) spos.line X.env=pure true:=by rfl)
 (hs:∀ x,foldedSetIterable iter X.env x=pure x:=by intro _; rfl) (hf:X.fn y=true∨X.env.scope.names.lookup y=some .local:=by first | exact .inl rfl | exact .inr rfl | assumption) :
 PS X (.Assign [.Name y py] 'j' spos) (p_ (jq wi g tt te own js) (hV i)):=by
 refine ⟨fun pins s σ H D I h=>?_⟩
 rw [exec_Assign_Name_used _ _ _ _ hsw]
 refine wpAny_bind (wpAny_standAt (wpAny_bind ?_))
 show wpAny _ X.A (do let _ ← comprehension 'j' scope X.env _ (newList []) false (eval iter X.env) (some (assign (.Name y py) X.env))) _ _ s
 refine wpAny_bind (wpAny_mono (wpAny_comprehension_free (use:=some (assign (.Name y py) X.env)) (Q:=fun _ s'=>SP X pins D .next s') rfl hs c.clos c.kind c.names
  (thn (hi.go pins s σ H _ I h) fun v s1 h1=>thn h1 fun itv s2 h2=>?_)) (fun _ s' hq=>wpAny_pure (wpAny_pure hq)) fun _ _ e=>e)
 obtain ⟨it,fp,tn,J,H2,e,I2,T,st2,f2,hW⟩:=h2
 subst e
 refine jJ (RR:=fun acc C=>compPost 'b' X.A X.xe (some (assign (.Name y py) X.env)) (fun _ s'=>SP X pins D .next s') acc C) c hc I2 T st2 f2 inner hW ?_
 intro D' C s' acc H' hn hD hz hDC hCL hUC hI
 show wpAny _ X.A (assign (.Name y py) X.env (.ref D')) _ _ _
 have I9:=hI s'.heap (Heap.SameBut.refl _ _)
 obtain ⟨m,hm⟩:=hn
 refine wpAny_assign_Name (jm (v:=.ref D') I9 hN hy hx rfl (fun s'' I'' ⟨a,sb,ha⟩=>?_) hf)
 have aC:C≠a:=by
  rcases ha with ha | ha
  ·rw [ha]; exact hCL
  ·intro z
   subst z
   obtain ⟨v,q⟩:=I2.cell y C ha
   exact absurd (Nat.lt_of_lt_of_le q.lt hDC) (Nat.lt_irrefl _)
 refine ⟨m,hm.sameBut sb aC,fun h' hsb=>?_⟩
 refine ⟨σ.set i (some (.ref D')),upd H' D' (.lst acc),I''.turned (t':=s''.toks) (it:=C) (fun b o hb e=>by rw [hsb.2 b hb]; exact e) ?_ hCL (.inr (Nat.le_trans I2.sz hDC)) (fun x d e z=>?_) (fun p hp z=>?_),hz D' hD⟩
 ·exact hUC
 ·obtain ⟨v,q⟩:=I2.cell x d e
  rw [z] at q
  exact absurd (Nat.lt_of_lt_of_le q.lt hDC) (Nat.lt_irrefl _)
 ·have q:=Heap.lt_size (I2.pin p hp).1
  rw [z] at q
  exact absurd (Nat.lt_of_lt_of_le q hDC) (Nat.lt_irrefl _)
end
def Ite (a:Addr):It :=
 ⟨fun i H=>∃ xs x,H a=some 'p'∧xs[i]? = some x,fun i H v H'=>∃ p x,H p=none∧v = .ref p∧H'=upd H p (.tup [.int i,x])∧∀ xs,H a=some 'p'→xs[i]? = some x,fun i H=>∃ xs,H a=some 'p'∧xs.length≤i⟩
theorem pG {P:Program} {w:World} {K:PySem.W.Frag} {es:List Expr} {k:Nat} {pos:Pos} (a e it:Addr) (hne:e≠it) :
 Turn P w K (.Tuple es k pos) (Ite a) [e,it] e (fun i h=>(∃ old,IsEnum h e it i old)∧h.IsListIter it a i) where
 mem:=by simp
 obj:=fun i h st b hb=>by
  rw [List.mem_cons,List.mem_singleton] at hb
  rcases hb with rfl | rfl
  ·obtain ⟨⟨old,q⟩,_⟩:=st
   exact ⟨_,q,fun v z=>by cases z⟩
  ·obtain ⟨_,o,q,c,d⟩:=st
   exact ⟨o,q,fun v z=>by rw [d] at z; cases z⟩
 keep:=fun i h h' st kp=>⟨by obtain ⟨old,q⟩:=st.1; exact ⟨old,kp e (by simp) _ q⟩,st.2.at fun o q=>kp it (by simp) o q⟩
 item:=by
  intro X hP hw hK hc i pins s σ H E I hf st hg
  subst hP hw hK
  obtain ⟨xs,x,hq,hx⟩:=hg
  obtain ⟨⟨old,he⟩,hit⟩:=st
  obtain ⟨its,rv,p,hz⟩:=I.list (SqL.of hq)
  obtain ⟨u,hu,ru⟩:=rv.get hx
  obtain ⟨f0,f1,f2,f3,f4,f5⟩:=hf e (by simp)
  obtain ⟨g0,g1,g2,g3,g4,g5⟩:=hf it (by simp)
  refine wpAny_pyNext_enum_item he hit p.isList (x:=u) (by simpa using hu) hne fun h' eo it' ht hsz hk=>?_
  refine ⟨.ref s.heap.objs.size,rfl,?_⟩
  refine wpAny_letOwnedTupleGo_enum eo fun h2 he2 hs2=>?_
  have fr:H s.heap.objs.size=none:=I.hok.fresh 'l'
  have ne2:∀ b,b<s.heap.objs.size→b≠s.heap.objs.size:=fun b hb=>Nat.ne_of_lt hb
  have ee:e<s.heap.objs.size:=Heap.lt_size he
  have k2:∀ b o,b≠e→b≠it→s.heap.get? b=some o→h2.get? b=some o:=fun b o h1 h2' q=>(hs2.2 b h1).trans (hk b o h1 h2' q)
  have ht2:h2.get? s.heap.objs.size=some { cls:=.type "tuple",data:=.seq #[.int i s.toks,u] }:=(hs2.2 _ (Nat.ne_of_gt ee)).trans ht
  have trk:∀ b v,H b=some v→b≠e∧b≠it:=fun b v q=>⟨ar q f0,ar q g0⟩
  have hok0:HOk X.prog X.w H h2:=fun b o q=>(I.hok b o q).stay (fun c v hc q'=>by
   rcases hc with rfl | hc
   ·exact k2 c v (trk c _ q).1 (trk c _ q).2 q'
   ·exact k2 c v (trk c _ hc).1 (trk c _ hc).2 q') (fun _ z=>z) fun _ _ z=>z
  have I1:Inv X pins σ (upd H s.heap.objs.size (.tup [.int i,x])) { s with heap:=h2,toks:=s.toks + 1 }:=by
   refine I.step (g':=s.gens) (d':=s.drawn) (ch:=[e,it]) (fun b hb=>?_) (fun b o _ _ hc q _=>k2 b o (fun z=>hc (by simp [z])) (fun z=>hc (by simp [z])) q) (fun b o _ _ hc q _=>⟨o.slots,k2 b o (fun z=>hc (by simp [z])) (fun z=>hc (by simp [z])) q⟩)
    (fun b o _ q n=>by rw [ah (ne2 b (Heap.lt_size q))]; exact n) (fun b o hc q=>⟨o,k2 b o (fun z=>hc (by simp [z])) (fun z=>hc (by simp [z])) q⟩) (fun b ys q=>by rw [ah (ar q fr)]; exact q) (fun b o v q=>by rw [ah (ar q fr)]; exact q)
    (fun b ps q=>⟨#[],by rw [ah (ar q fr),q]; simp⟩) (fun m hm=>?_) ?_ I.bare
   ·rw [List.mem_cons,List.mem_singleton] at hb
    rcases hb with rfl | rfl
    ·exact ⟨f3,f1,f4,f5⟩
    ·exact ⟨g3,g1,g4,g5⟩
   ·obtain ⟨o,es',ep,ho,r⟩:=hm
    exact ⟨o,es',ep,k2 _ o (Ne.symm f1) (Ne.symm g1) ho,r⟩
   ·exact hok0.adopt fr ⟨by show 2≤sizeLine; decide,[.int i s.toks,u],.cons ⟨_,rfl⟩ (.cons ru .nil),⟨_,ht2,rfl,_,rfl⟩⟩
  refine ⟨.ref s.heap.objs.size,_,I1,rfl,⟨_,x,fr,rfl,rfl,fun ys hy=>by rw [hq] at hy; cases hy; exact hx⟩,⟨⟨_,by simpa using he2⟩,it'.extBut hs2.extBut (Ne.symm hne)⟩,fun b hb=>?_⟩
  have:H b=none:=(hf b hb).1
  have hb':b<s.heap.objs.size:=by
   rw [List.mem_cons,List.mem_singleton] at hb
   rcases hb with rfl | rfl
   ·exact ee
   ·obtain ⟨o,q,_⟩:=hit; exact Heap.lt_size q
  rw [ah (ne2 b hb')]
  exact this
 done:=by
  intro X hP hw hK hc i pins s σ H E I hf st hg
  subst hP hw hK
  obtain ⟨xs,hq,hx⟩:=hg
  obtain ⟨⟨old,he⟩,hit⟩:=st
  obtain ⟨its,rv,p,hz⟩:=I.list (SqL.of hq)
  obtain ⟨g0,g1,g2,g3,g4,g5⟩:=hf it (by simp)
  have hl:=rv.length
  exact wpAny_pyNext_enum_end (I.ok.hd hc) he hit p.isList (by simp; omega) fun h' eb=>⟨rfl,I.turned (t':=s.toks) (fun b o hb e=>eb b o hb e) g0 g1 g3 g4 g5⟩
 self:=fun _ _ _ _ _ st h=>by
  obtain ⟨⟨old,he⟩,_⟩:=st
  exact wpAny_pyIter_enum he h
section
variable {X:Cx} {es:List Expr} {k:Nat} {tpos:Pos}
def iEnum (ta:TA):TI:=fun σ H R=>ta σ H fun vs H1=>∃ a,vs=[.ref a]∧(∃ xs,H1 a=some 'p')∧R (Ite a) H1
theorem u5 {l:Expr} {ta:TA} {p pos:Pos} (hg:Gl X "enumerate") (hm:X.mg "enumerate" = none) (ha:PA X [l] ta) (hs:starEach [l] X.env=[(false,eval l X.env)]:=by rfl):PI X (.Tuple es k tpos) (.Call (.Name "enumerate" p) [l] [] pos) (iEnum ta):=by
 refine ⟨fun pins s σ H R I h=>?_⟩
 refine wpAny_Call_Name_kw (eT I hg hm kg ?_)
 refine PyProof.Rows.callWith_type1 (thn (ha pos pins s σ H _ I h) fun us s1 ⟨vs,H1,I1,r1,a,e,⟨xs,hx⟩,q⟩=>?_) hs rfl
 subst e
 obtain ⟨u,rfl,ru⟩:=fw r1
 cases ru
 obtain ⟨_,its,n,rv,ho⟩:=(show aP X.prog X.w H1 s1.heap a 'p' from I1.hok a _ hx)
 refine call_enumerate_1 ho fun h' he hit hsz hk=>?_
 have I2:Inv X pins σ H1 { s1 with heap:=h' }:=I1.kept (t':=s1.toks) hk
 refine wpAny_pyIter_enum he ⟨s1.heap.objs.size + 1,[s1.heap.objs.size + 1,s1.heap.objs.size],_,Ite a,H1,rfl,I2,pG a (s1.heap.objs.size + 1) s1.heap.objs.size (Nat.succ_ne_self _),⟨⟨_,he⟩,hit⟩,fun b hb=>?_,q⟩
 have hb':s1.heap.objs.size≤b:=by
  rw [List.mem_cons,List.mem_singleton] at hb
  rcases hb with rfl | rfl <;> omega
 have z:=I1.fpOk (H':=H1) hb' (I1.hok.fresh hb')
 exact z
end
mutual
def toP:D→PyData
 | .non=>.none
 | .bl b=>.bool b
 | .int i=>.int i
 | .str x=>.str x
 | .tup ds=>.tuple (toPs ds)
 | .lst ds=>.list (toPs ds)
 | .dct=>.dict []
 | .dic _ _=>.dict []
 | .scr _ _=>.dict []
 | .ext _=>.dict []
def toPs:List D→List PyData
 | []=>[]
 | d :: ds=>toP d :: toPs ds
end
mutual
theorem dP {X:Cx} {pins:List 'h'} {σ:St} {H:Hp} {s:Shared} (I:Inv X pins σ H s):∀ (d:D) (v:V) (u:Value),Rep H d v→aT v u→(toP d).canLay0=true→∃ as,Reads s.heap u (toP d) as
 | .non,v,u,h,r,_=>by rw [Rep] at h; subst h; cases r; rw [toP]; exact ⟨_,.none⟩
 | .bl b,v,u,h,r,_=>by rw [Rep] at h; subst h; cases r; rw [toP]; exact ⟨_,.bool b⟩
 | .int i,v,u,h,r,_=>by rw [Rep] at h; subst h; obtain ⟨t,rfl⟩:=r; rw [toP]; exact ⟨_,.int i t⟩
 | .str x,v,u,h,r,_=>by rw [Rep] at h; subst h; obtain ⟨t,rfl⟩:=r; rw [toP]; exact ⟨_,.str x t⟩
 | .tup ds,v,u,h,r,c=>by
  rw [Rep] at h
  obtain ⟨a,xs,rfl,ha,hx⟩:=h
  cases r
  rw [toP] at c ⊢
  obtain ⟨_,its,rv,o,e1,e2,n,e3⟩:=(show aP X.prog X.w H s.heap a (.tup xs) from I.hok a _ ha)
  obtain ⟨as,q⟩:=reps_reads I ds xs its hx rv (by rw [PyData.canLay0] at c; exact c)
  exact ⟨_,reads_tuple_at e1 e2 e3 (by simpa using q)⟩
 | .lst ds,v,u,h,r,c=>by
  rw [Rep] at h
  obtain ⟨a,xs,rfl,ha,hx⟩:=h
  cases r
  rw [toP] at c ⊢
  obtain ⟨_,its,n,rv,e1⟩:=(show aP X.prog X.w H s.heap a 'p' from I.hok a _ ha)
  obtain ⟨as,q⟩:=reps_reads I ds xs its hx rv (by rw [PyData.canLay0] at c; exact c)
  exact ⟨_,reads_list_at e1 rfl rfl (by simpa using q)⟩
 | .dct,v,u,h,r,c=>by rw [toP,PyData.canLay0] at c; cases c
 | .dic _ _,v,u,h,r,c=>by rw [toP,PyData.canLay0] at c; cases c
 | .scr _ _,v,u,h,r,c=>by rw [toP,PyData.canLay0] at c; cases c
 | .ext _,v,u,h,r,c=>by rw [toP,PyData.canLay0] at c; cases c
theorem reps_reads {X:Cx} {pins:List 'h'} {σ:St} {H:Hp} {s:Shared} (I:Inv X pins σ H s):∀ (ds:List D) (vs:List V) (us:List Value),Reps H ds vs→aM vs us→PyData.canLayAll0 (toPs ds)=true→∃ as,ReadsAll s.heap us (toPs ds) as
 | [],vs,us,h,r,_=>by rw [Reps] at h; subst h; cases r; rw [toPs]; exact ⟨_,.nil⟩
 | d :: ds,vs,us,h,r,c=>by
  rw [Reps] at h
  obtain ⟨v,vs',rfl,h1,h2⟩:=h
  rw [toPs] at c ⊢
  rw [PyData.canLayAll0,Bool.and_eq_true] at c
  cases r with
  | cons r1 r2 =>
   obtain ⟨as,q1⟩:=dP I d v _ h1 r1 c.1
   obtain ⟨bs,q2⟩:=reps_reads I ds vs' _ h2 r2 c.2
   exact ⟨_,.cons q1 q2⟩
end
section
variable {X:Cx}
def rEqD:R2:=fun x y H Q=>∃ d e,Rep H d x∧Rep H e y∧SeqAt.shaped (toP d)=true∧SeqAt.shaped (toP e)=true∧Q (.bl (PyData.eqv (toP d) (toP e))) H
def rNeD:R2:=fun x y H Q=>∃ d e,Rep H d x∧Rep H e y∧SeqAt.shaped (toP d)=true∧SeqAt.shaped (toP e)=true∧Q (.bl (!PyData.eqv (toP d) (toP e))) H
theorem eO (hu:X.A.units + 64<cLine):OpR X (compareOp .Eq) rEqD:=by
 intro pins s σ H x y v u Q I rx ry h
 obtain ⟨d,e,h1,h2,c1,c2,q⟩:=h
 obtain ⟨as,r1⟩:=dP I d x v h1 rx (SeqAt.canLay_of_shaped c1)
 obtain ⟨bs,r2⟩:=dP I e y u h2 ry (SeqAt.canLay_of_shaped c2)
 exact eq_dataH r1 r2 c1 c2 hu ⟨.bl _,H,I,rfl,q⟩
theorem dJ (hu:X.A.units + 64<cLine):OpR X (compareOp .NotEq) rNeD:=by
 intro pins s σ H x y v u Q I rx ry h
 obtain ⟨d,e,h1,h2,c1,c2,q⟩:=h
 obtain ⟨as,r1⟩:=dP I d x v h1 rx (SeqAt.canLay_of_shaped c1)
 obtain ⟨bs,r2⟩:=dP I e y u h2 ry (SeqAt.canLay_of_shaped c2)
 exact ne_dataH r1 r2 c1 c2 hu ⟨.bl _,H,I,rfl,q⟩
end
def aL (ns:List Int):D:=.lst (ns.map .int)
theorem gM {H:Hp}:∀ ns:List Int,Reps H (ns.map .int) (ns.map V.int)
 | []=>bp
 | n :: r=>bf (ba n) (gM r)
def aQ (ns ms:List Int):D:=.tup [aL ns,aL ms]
section
variable {X:Cx}
def nv (lo:Int) (n:Nat):List Int:=(List.range n).map fun (i:Nat)=>lo + i
theorem g_:∀ {xs:List V} {us:List Value},xs.length=us.length→(∀ (i:Nat) x u,xs[i]? = some x→us[i]? = some u→aT x u)→aM xs us
 | [],[],_,_=>.nil
 | x :: xs,u :: us,hl,h=>.cons (h 0 x u rfl rfl) (g_ (by simpa using hl) fun i x' u' e1 e2=>h (i + 1) x' u' (by simpa using e1) (by simpa using e2))
 | [],_ :: _,hl,_=>by simp at hl
 | _ :: _,[],hl,_=>by simp at hl
end
abbrev DSt:=List (Option D)
abbrev Own:=Addr→Option (Nat×List Nat)
mutual
def Sep (G H:Hp) (O:Own) (i:Nat):D→List Nat→V→Prop
 | .non,_,v=>v = .non
 | .bl b,_,v=>v = .bl b
 | .int n,_,v=>v = .int n
 | .str x,_,v=>v = .str x
 | .tup ds,π,v=>∃ a xs,v = .ref a∧G a=some (.tup xs)∧Seps G H O i ds 0 π xs
 | .lst ds,π,v=>∃ a xs,v = .ref a∧O a=some (i,π)∧H a=some 'p'∧Seps G H O i ds 0 π xs
 | .dct,_,_=>False
 | .dic ks ds,π,v=>∃ a xs,v = .ref a∧O a=some (i,π)∧H a=some (.dK (ks.zip xs))∧ks.length=ds.length∧Seps G H O i ds 0 π xs
 | .scr _ _,_,_=>False
 | .ext _,_,_=>False
def Seps (G H:Hp) (O:Own) (i:Nat):List D→Nat→List Nat→List V→Prop
 | [],_,_,xs=>xs=[]
 | d :: ds,k,π,xs=>∃ v vs,xs=v :: vs∧Sep G H O i d (k :: π) v∧Seps G H O i ds (k + 1) π vs
end
def ce (G G':Hp):Prop:=∀ a xs,G a=some (.tup xs)→G' a=some (.tup xs)
theorem az.ts {G G':Hp} (h:az G G'):ce G G':=fun a xs e=>h a _ e
mutual
theorem Sep.map {G H G' H':Hp} {O O':Own} {i i':Nat} {f:List Nat→List Nat} (hG:ce G G') (hf:∀ k π,f (k :: π)=k :: f π) :
 ∀ (d:D) (π:List Nat) (v:V),(∀ a τ,O a=some (i,τ++π)→O' a=some (i',f (τ++π))∧H' a=H a)→Sep G H O i d π v→Sep G' H' O' i' d (f π) v
 | .non,_,_,_,h=>by rw [Sep] at *; exact h
 | .bl b,_,_,_,h=>by rw [Sep] at *; exact h
 | .int n,_,_,_,h=>by rw [Sep] at *; exact h
 | .str x,_,_,_,h=>by rw [Sep] at *; exact h
 | .tup ds,π,v,hO,h=>by
  rw [Sep] at *
  obtain ⟨a,xs,h1,h2,h3⟩:=h
  exact ⟨a,xs,h1,hG _ _ h2,Seps.map hG hf ds 0 π xs (fun a τ _=>hO a τ) h3⟩
 | .lst ds,π,v,hO,h=>by
  rw [Sep] at *
  obtain ⟨a,xs,h1,h2,h3,h4⟩:=h
  have q:=hO a [] h2
  exact ⟨a,xs,h1,q.1,q.2.trans h3,Seps.map hG hf ds 0 π xs (fun a τ _=>hO a τ) h4⟩
 | .dic ks ds,π,v,hO,h=>by
  rw [Sep] at *
  obtain ⟨a,xs,h1,h2,h3,h5,h4⟩:=h
  have q:=hO a [] h2
  exact ⟨a,xs,h1,q.1,q.2.trans h3,h5,Seps.map hG hf ds 0 π xs (fun a τ _=>hO a τ) h4⟩
 | .dct,_,_,_,h=>by rw [Sep] at h; exact h.elim
 | .scr _ _,_,_,_,h=>by rw [Sep] at h; exact h.elim
 | .ext _,_,_,_,h=>by rw [Sep] at h; exact h.elim
theorem Seps.map {G H G' H':Hp} {O O':Own} {i i':Nat} {f:List Nat→List Nat} (hG:ce G G') (hf:∀ k π,f (k :: π)=k :: f π) :
 ∀ (ds:List D) (k:Nat) (π:List Nat) (xs:List V),(∀ a τ,τ≠[]→O a=some (i,τ++π)→O' a=some (i',f (τ++π))∧H' a=H a)→Seps G H O i ds k π xs→Seps G' H' O' i' ds k (f π) xs
 | [],_,_,_,_,h=>by rw [Seps] at *; exact h
 | d :: ds,k,π,xs,hO,h=>by
  rw [Seps] at *
  obtain ⟨v,vs,h1,h2,h3⟩:=h
  refine ⟨v,vs,h1,?_,Seps.map hG hf ds (k + 1) π vs hO h3⟩
  rw [← hf]
  refine Sep.map hG hf d (k :: π) v (fun a τ e=>?_) h2
  have e' : τ++k :: π=(τ++[k])++π:=by simp
  rw [e'] at e ⊢
  exact hO a (τ++[k]) (by simp) e
end
theorem Sep.keep {G H G' H':Hp} {O O':Own} {i i':Nat} {d:D} {π:List Nat} {v:V} (hG:ce G G') (hO:∀ a τ,O a=some (i,τ++π)→O' a=some (i',τ++π)∧H' a=H a) (h:Sep G H O i d π v):Sep G' H' O' i' d π v :=
 Sep.map (f:=id) hG 'f' d π v hO h
theorem Seps.keep {G H G' H':Hp} {O O':Own} {i i':Nat} {ds:List D} {k:Nat} {π:List Nat} {xs:List V} (hG:ce G G') (hO:∀ a τ,τ≠[]→O a=some (i,τ++π)→O' a=some (i',τ++π)∧H' a=H a) (h:Seps G H O i ds k π xs):Seps G' H' O' i' ds k π xs :=
 Seps.map (f:=id) hG 'f' ds k π xs hO h
mutual
theorem Sep.rep {G H G':Hp} {O:Own} {i:Nat} (hG:ce G G'):∀ (d:D) (π:List Nat) (v:V),(∀ a τ (o:HO),O a=some (i,τ++π)→H a=some o→G' a=some o)→Sep G H O i d π v→Rep G' d v
 | .non,_,_,_,h=>by rw [Sep] at h; rw [Rep]; exact h
 | .bl b,_,_,_,h=>by rw [Sep] at h; rw [Rep]; exact h
 | .int n,_,_,_,h=>by rw [Sep] at h; rw [Rep]; exact h
 | .str x,_,_,_,h=>by rw [Sep] at h; rw [Rep]; exact h
 | .tup ds,π,v,hO,h=>by
  rw [Sep] at h; rw [Rep]
  obtain ⟨a,xs,h1,h2,h3⟩:=h
  exact ⟨a,xs,h1,hG _ _ h2,Seps.rep hG ds 0 π xs (fun a τ ys _=>hO a τ ys) h3⟩
 | .lst ds,π,v,hO,h=>by
  rw [Sep] at h; rw [Rep]
  obtain ⟨a,xs,h1,h2,h3,h4⟩:=h
  exact ⟨a,xs,h1,hO a [] _ h2 h3,Seps.rep hG ds 0 π xs (fun a τ ys _=>hO a τ ys) h4⟩
 | .dic ks ds,π,v,hO,h=>by
  rw [Sep] at h; rw [Rep]
  obtain ⟨a,xs,h1,h2,h3,h5,h4⟩:=h
  exact ⟨a,xs,h1,hO a [] _ h2 h3,h5,Seps.rep hG ds 0 π xs (fun a τ ys _=>hO a τ ys) h4⟩
 | .dct,_,_,_,h=>by rw [Sep] at h; exact h.elim
 | .scr _ _,_,_,_,h=>by rw [Sep] at h; exact h.elim
 | .ext _,_,_,_,h=>by rw [Sep] at h; exact h.elim
theorem Seps.rep {G H G':Hp} {O:Own} {i:Nat} (hG:ce G G'):∀ (ds:List D) (k:Nat) (π:List Nat) (xs:List V),(∀ a τ (o:HO),τ≠[]→O a=some (i,τ++π)→H a=some o→G' a=some o)→Seps G H O i ds k π xs→Reps G' ds xs
 | [],_,_,_,_,h=>by rw [Seps] at h; rw [Reps]; exact h
 | d :: ds,k,π,xs,hO,h=>by
  rw [Seps] at h; rw [Reps]
  obtain ⟨v,vs,h1,h2,h3⟩:=h
  refine ⟨v,vs,h1,Sep.rep hG d (k :: π) v (fun a τ ys e q=>?_) h2,Seps.rep hG ds (k + 1) π vs hO h3⟩
  have e' : τ++k :: π=(τ++[k])++π:=by simp
  rw [e'] at e
  exact hO a (τ++[k]) ys (by simp) e q
end
mutual
def imm:D→Bool
 | .tup ds=>imms ds
 | .lst _=>false
 | .dct=>false
 | .dic _ _=>false
 | .scr _ _=>false
 | .ext _=>false
 | _=>true
def imms:List D→Bool
 | []=>true
 | d :: ds=>imm d&&imms ds
end
mutual
theorem Rep.sep {G H:Hp} {O:Own} {i:Nat}:∀ (d:D) (π:List Nat) (v:V),imm d=true→Rep G d v→Sep G H O i d π v
 | .non,_,_,_,h=>by rw [Rep] at h; rw [Sep]; exact h
 | .bl b,_,_,_,h=>by rw [Rep] at h; rw [Sep]; exact h
 | .int n,_,_,_,h=>by rw [Rep] at h; rw [Sep]; exact h
 | .str x,_,_,_,h=>by rw [Rep] at h; rw [Sep]; exact h
 | .tup ds,π,v,hi,h=>by
  rw [Rep] at h; rw [Sep]
  obtain ⟨a,xs,h1,h2,h3⟩:=h
  exact ⟨a,xs,h1,h2,Reps.sep ds 0 π xs (by rw [imm] at hi; exact hi) h3⟩
 | .lst ds,_,_,hi,_=>by rw [imm] at hi; cases hi
 | .dct,_,_,hi,_=>by rw [imm] at hi; cases hi
 | .dic _ _,_,_,hi,_=>by rw [imm] at hi; cases hi
 | .scr _ _,_,_,hi,_=>by rw [imm] at hi; cases hi
 | .ext _,_,_,hi,_=>by rw [imm] at hi; cases hi
theorem Reps.sep {G H:Hp} {O:Own} {i:Nat}:∀ (ds:List D) (k:Nat) (π:List Nat) (xs:List V),imms ds=true→Reps G ds xs→Seps G H O i ds k π xs
 | [],_,_,_,_,h=>by rw [Reps] at h; rw [Seps]; exact h
 | d :: ds,k,π,xs,hi,h=>by
  rw [Reps] at h; rw [Seps]
  rw [imms,Bool.and_eq_true] at hi
  obtain ⟨v,vs,h1,h2,h3⟩:=h
  exact ⟨v,vs,h1,Rep.sep d (k :: π) v hi.1 h2,Reps.sep ds (k + 1) π vs hi.2 h3⟩
end
mutual
theorem Sep.imm {G H:Hp} {O:Own} {i:Nat}:∀ (d:D) (π:List Nat) (v:V),L2.imm d=true→Sep G H O i d π v→Rep G d v
 | .non,_,_,_,h=>by rw [Sep] at h; rw [Rep]; exact h
 | .bl b,_,_,_,h=>by rw [Sep] at h; rw [Rep]; exact h
 | .int n,_,_,_,h=>by rw [Sep] at h; rw [Rep]; exact h
 | .str x,_,_,_,h=>by rw [Sep] at h; rw [Rep]; exact h
 | .tup ds,π,v,hi,h=>by
  rw [Sep] at h; rw [Rep]
  obtain ⟨a,xs,h1,h2,h3⟩:=h
  exact ⟨a,xs,h1,h2,Seps.imm ds 0 π xs (by rw [L2.imm] at hi; exact hi) h3⟩
 | .lst ds,_,_,hi,_=>by rw [L2.imm] at hi; cases hi
 | .dct,_,_,hi,_=>by rw [L2.imm] at hi; cases hi
 | .dic _ _,_,_,hi,_=>by rw [L2.imm] at hi; cases hi
 | .scr _ _,_,_,hi,_=>by rw [L2.imm] at hi; cases hi
 | .ext _,_,_,hi,_=>by rw [L2.imm] at hi; cases hi
theorem Seps.imm {G H:Hp} {O:Own} {i:Nat}:∀ (ds:List D) (k:Nat) (π:List Nat) (xs:List V),imms ds=true→Seps G H O i ds k π xs→Reps G ds xs
 | [],_,_,_,_,h=>by rw [Seps] at h; rw [Reps]; exact h
 | d :: ds,k,π,xs,hi,h=>by
  rw [Seps] at h; rw [Reps]
  rw [imms,Bool.and_eq_true] at hi
  obtain ⟨v,vs,h1,h2,h3⟩:=h
  exact ⟨v,vs,h1,Sep.imm d (k :: π) v hi.1 h2,Seps.imm ds (k + 1) π vs hi.2 h3⟩
end
mutual
theorem Rep.imms {G G':Hp} (hG:ce G G'):∀ (d:D) (v:V),L2.imm d=true→Rep G d v→Rep G' d v
 | .non,_,_,h=>by rw [Rep] at *; exact h
 | .bl b,_,_,h=>by rw [Rep] at *; exact h
 | .int n,_,_,h=>by rw [Rep] at *; exact h
 | .str x,_,_,h=>by rw [Rep] at *; exact h
 | .tup ds,v,hi,h=>by
  rw [Rep] at *
  obtain ⟨a,xs,h1,h2,h3⟩:=h
  exact ⟨a,xs,h1,hG _ _ h2,Reps.imms hG ds xs (by rw [L2.imm] at hi; exact hi) h3⟩
 | .lst ds,_,hi,_=>by rw [L2.imm] at hi; cases hi
 | .dct,_,hi,_=>by rw [L2.imm] at hi; cases hi
 | .dic _ _,_,hi,_=>by rw [L2.imm] at hi; cases hi
 | .scr _ _,_,hi,_=>by rw [L2.imm] at hi; cases hi
 | .ext _,_,hi,_=>by rw [L2.imm] at hi; cases hi
theorem Reps.imms {G G':Hp} (hG:ce G G'):∀ (ds:List D) (xs:List V),L2.imms ds=true→Reps G ds xs→Reps G' ds xs
 | [],_,_,h=>by rw [Reps] at *; exact h
 | d :: ds,xs,hi,h=>by
  rw [Reps] at *
  rw [L2.imms,Bool.and_eq_true] at hi
  obtain ⟨v,vs,h1,h2,h3⟩:=h
  exact ⟨v,vs,h1,Rep.imms hG d v hi.1 h2,Reps.imms hG ds vs hi.2 h3⟩
end
theorem Seps.length {G H:Hp} {O:Own} {i:Nat}:∀ {ds:List D} {k:Nat} {π:List Nat} {xs:List V},Seps G H O i ds k π xs→xs.length=ds.length
 | [],_,_,_,h=>by rw [Seps] at h; subst h; rfl
 | d :: ds,k,π,xs,h=>by
  rw [Seps] at h
  obtain ⟨v,vs,rfl,_,h3⟩:=h
  simp [Seps.length h3]
abbrev WrO:=List V ⊕ List (Key×V)
def WrO.ho:WrO→HO
 | .inl xs=>.lst xs
 | .inr kvs=>.dK kvs
theorem WrO.ne {m:WrO} {xs:List V} (h:m.ho = .tup xs):False:=by cases m <;> cases h
structure Ctx where
 G:Hp
 H:Hp
 O:Own
 mu:List (Option V)
 np:Nat
def bE (G H:Hp) (O:Own):List (D×V)→Prop
 | []=>True
 | (d,v) :: r=>Sep G H O (2 * r.length + 1) d [] v∧bE G H O r
def Nw (C:Ctx) (a:Addr) (l:Nat):Prop:=C.H a=none∨∃ π,C.O a=some (l,π)
structure RO (C:Ctx) (ow:List Bool) (G:Hp) (ρ:DSt) (σ:St) (H:Hp) (pd:List (D×V)) (O:Own):Prop where
 len : ρ.length=σ.length
 gh:az G H
 g0:az C.G G
 gn:∀ a o,G a=some o→C.G a=some o∨C.H a=none
 og:∀ a l,O a=some l→G a=none∧(∃ xs:WrO,H a=some xs.ho)∧Nw C a l.1
 cok:∀ a l π,C.O a=some (l,π)→(∃ (i:Nat) (v:V),l=2 * i∧C.mu[i]? = some (some v))∨∃ j,l=2 * j + 1∧j<C.np
 fr:∀ a o,C.H a=some o→C.O a=none→H a=some o
 al:∀ a,H a=none→C.H a=none
 mp:∀ (i:Nat) v,C.mu[i]? = some (some v)→σ[i]? = some (some v)
 sl:∀ (i:Nat) d,ρ[i]? = some (some d)→∃ v,σ[i]? = some (some v)∧if ow[i]? = some true then Sep G H O (2 * i) d [] v else Rep G d v
 pn:bE G H O pd
 np:C.np≤pd.length
def R (C:Ctx) (ow:List Bool) (G:Hp) (ρ:DSt) (σ:St) (H:Hp) (pd:List (D×V)):Prop:=∃ O,RO C ow G ρ σ H pd O
theorem bE.keep {G H G' H':Hp} {O O':Own} (hG:ce G G'):∀ {pd:List (D×V)},(∀ a j π,j<pd.length→O a=some (2 * j + 1,π)→O' a=some (2 * j + 1,π)∧H' a=H a)→bE G H O pd→bE G' H' O' pd
 | [],_,_=>trivial
 | (d,v) :: r,hO,⟨h1,h2⟩=>⟨h1.keep hG fun a τ e=>hO a r.length _ (by simp) e,bE.keep hG (fun a j π hj=>hO a j π (by simp; omega)) h2⟩
section
variable {C:Ctx} {ow:List Bool} {G:Hp} {ρ:DSt} {σ:St} {H:Hp} {pd:List (D×V)} {O:Own}
theorem RO.new (h:RO C ow G ρ σ H pd O) {p:Addr} (hp:H p=none) (o:HO):RO C ow (upd G p o) ρ σ (upd H p o) pd O∧az G (upd G p o):=by
 have gp:G p=none:=by
  cases e:G p with
  | none=>rfl
  | some z=>rw [h.gh _ _ e] at hp; cases hp
 have sG:=k9 gp o
 have ne:∀ a l,O a=some l→a≠p:=fun a l e z=>by
  obtain ⟨_,⟨xs,q⟩,_⟩:=h.og a l e
  rw [z,hp] at q; cases q
 refine ⟨⟨h.len,?_,fun a u e=>sG _ _ (h.g0 a u e),?_,?_,h.cok,?_,?_,h.mp,?_,?_,h.np⟩,sG⟩
 ·intro a u e
  by_cases z:a=p
  ·subst z; rw [ao] at e ⊢; exact e
  ·rw [ah z] at e ⊢; exact h.gh _ _ e
 ·intro a u e
  by_cases z:a=p
  ·subst z; exact .inr (h.al _ hp)
  ·rw [ah z] at e; exact h.gn a u e
 ·intro a l e
  have z:=ne a l e
  rw [ah z,ah z]
  exact h.og a l e
 ·intro a u e n
  rw [ah (ar (h.fr a u e n) hp)]
  exact h.fr a u e n
 ·intro a e
  by_cases z:a=p
  ·subst z; rw [ao] at e; cases e
  ·rw [ah z] at e; exact h.al a e
 ·intro i d e
  obtain ⟨v,h1,h2⟩:=h.sl i d e
  refine ⟨v,h1,?_⟩
  split at h2
  ·rename_i c; rw [if_pos c]; exact h2.keep sG.ts fun a τ q=>⟨q,ah (ne a _ q)⟩
  ·rename_i c; rw [if_neg c]; exact h2.mono sG
 ·exact bE.keep sG.ts (fun a j π _ q=>⟨q,ah (ne a _ q)⟩) h.pn
theorem RO.newL (h:RO C ow G ρ σ H pd O) {p:Addr} (hp:H p=none) {xs:List V} {ds:List D} (hi:imms ds=true) (hr:Reps G ds xs) :
 R C ow G ρ σ (upd H p 'p') ((.lst ds,.ref p) :: pd):=by
 have gp:G p=none:=by
  cases e:G p with
  | none=>rfl
  | some z=>rw [h.gh _ _ e] at hp; cases hp
 have ne:∀ a l,O a=some l→a≠p:=fun a l e z=>by
  obtain ⟨_,⟨xs,q⟩,_⟩:=h.og a l e
  rw [z,hp] at q; cases q
 let O':Own:=fun a=>if a=p then some (2 * pd.length + 1,[]) else O a
 have old:∀ a l,O a=some l→O' a=some l:=fun a l e=>by
  show (if a=p then _ else _)=_
  rw [if_neg (ne a _ e),e]
 refine ⟨O',h.len,?_,h.g0,h.gn,?_,h.cok,?_,?_,h.mp,?_,⟨?_,?_⟩,Nat.le_succ_of_le h.np⟩
 ·intro a u e
  rw [ah (fun z=>by rw [z,gp] at e; cases e)]
  exact h.gh _ _ e
 ·intro a l e
  by_cases z:a=p
  ·subst z; exact ⟨gp,⟨.inl xs,ao⟩,.inl (h.al _ hp)⟩
  ·rw [ah z]
   change (if a=p then _ else _)=_ at e
   rw [if_neg z] at e
   exact h.og a _ e
 ·intro a u e n
  rw [ah (ar (h.fr a u e n) hp)]
  exact h.fr a u e n
 ·intro a e
  by_cases z:a=p
  ·subst z; rw [ao] at e; cases e
  ·rw [ah z] at e; exact h.al a e
 ·intro i d e
  obtain ⟨v,h1,h2⟩:=h.sl i d e
  refine ⟨v,h1,?_⟩
  split at h2
  ·rename_i c; rw [if_pos c]; exact h2.keep 'r' fun a τ q=>⟨old a _ q,ah (ne a _ q)⟩
  ·rename_i c; rw [if_neg c]; exact h2
 ·rw [Sep]
  exact ⟨p,xs,rfl,by show (if p=p then _ else _)=_; rw [if_pos rfl],ao,hr.sep ds 0 [] xs hi⟩
 ·exact bE.keep 'r' (fun a j π hj q=>⟨old a _ q,ah (ne a _ q)⟩) h.pn
end
theorem Seps.snoc {G H:Hp} {O:Own} {i:Nat} {d:D} {v:V}:∀ {ds:List D} {k:Nat} {π:List Nat} {xs:List V},Seps G H O i ds k π xs→Sep G H O i d ((k + ds.length) :: π) v→Seps G H O i (ds++[d]) k π (xs++[v])
 | [],k,π,xs,h,hd=>by rw [Seps] at h; subst h; show Seps _ _ _ _ [d] _ _ [v]; rw [Seps]; exact ⟨v,[],rfl,by simpa using hd,by rw [Seps]⟩
 | e :: ds,k,π,xs,h,hd=>by
  rw [Seps] at h
  obtain ⟨u,us,rfl,h2,h3⟩:=h
  show Seps _ _ _ _ (e :: (ds++[d])) _ _ (u :: (us++[v]))
  rw [Seps]
  refine ⟨u,us++[v],rfl,h2,Seps.snoc h3 ?_⟩
  have:k + 1 + ds.length=k + (e :: ds).length:=by simp; omega
  rw [this]; exact hd
theorem Seps.set {G H:Hp} {O:Own} {i:Nat} {d:D} {v:V}:∀ {ds:List D} {k:Nat} {π:List Nat} {xs:List V} {j:Nat},Seps G H O i ds k π xs→Sep G H O i d ((k + j) :: π) v→Seps G H O i (ds.set j d) k π (xs.set j v)
 | [],k,π,xs,j,h,hd=>by rw [Seps] at h; subst h; simp; rw [Seps]
 | e :: ds,k,π,xs,0,h,hd=>by
  rw [Seps] at h
  obtain ⟨u,us,rfl,h2,h3⟩:=h
  simp only [List.set_cons_zero]; rw [Seps]
  exact ⟨v,us,rfl,by simpa using hd,h3⟩
 | e :: ds,k,π,xs,j + 1,h,hd=>by
  rw [Seps] at h
  obtain ⟨u,us,rfl,h2,h3⟩:=h
  simp only [List.set_cons_succ]; rw [Seps]
  refine ⟨u,_,rfl,h2,Seps.set h3 ?_⟩
  have:k + 1 + j=k + (j + 1):=by omega
  rw [this]; exact hd
theorem Seps.at {G H:Hp} {O:Own} {i:Nat} {d:D}:∀ {ds:List D} {k:Nat} {π:List Nat} {xs:List V} {j:Nat},Seps G H O i ds k π xs→ds[j]? = some d→∃ v,xs[j]? = some v∧Sep G H O i d ((k + j) :: π) v
 | [],k,π,xs,j,h,e=>by simp at e
 | e :: ds,k,π,xs,0,h,q=>by
  rw [Seps] at h
  obtain ⟨u,us,rfl,h2,h3⟩:=h
  simp at q; subst q
  exact ⟨u,rfl,by simpa using h2⟩
 | e :: ds,k,π,xs,j + 1,h,q=>by
  rw [Seps] at h
  obtain ⟨u,us,rfl,h2,h3⟩:=h
  obtain ⟨v,h4,h5⟩:=Seps.at (j:=j) h3 (by simpa using q)
  refine ⟨v,by simpa using h4,?_⟩
  have:k + 1 + j=k + (j + 1):=by omega
  rw [← this]; exact h5
theorem Seps.front {G H:Hp} {O:Own} {i:Nat}:∀ {ds:List D} {k:Nat} {π:List Nat} {xs:List V},Seps G H O i ds k π xs→Seps G H O i ds.dropLast k π xs.dropLast
 | [],k,π,xs,h=>by rw [Seps] at h; subst h; show Seps _ _ _ _ [] _ _ []; rw [Seps]
 | [e],k,π,xs,h=>by
  rw [Seps] at h
  obtain ⟨u,us,rfl,h2,h3⟩:=h
  rw [Seps] at h3; subst h3
  show Seps _ _ _ _ [] _ _ []; rw [Seps]
 | e :: e' :: ds,k,π,xs,h=>by
  rw [Seps] at h
  obtain ⟨u,us,rfl,h2,h3⟩:=h
  have h3':=h3
  rw [Seps] at h3
  obtain ⟨u',us',rfl,_,_⟩:=h3
  show Seps _ _ _ _ (e :: (e' :: ds).dropLast) _ _ (u :: (u' :: us').dropLast)
  rw [Seps]
  exact ⟨u,_,rfl,h2,Seps.front h3'⟩
section
variable {C:Ctx} {ow:List Bool} {G:Hp} {ρ:DSt} {σ:St} {H:Hp} {pd:List (D×V)} {O:Own}
theorem dE {α:Type} {l:List (Option α)} {i j:Nat} {x:Option α} {d : α} (h:(l.set i x)[j]? = some (some d)):(j=i∧x=some d)∨(j≠i∧l[j]? = some (some d)):=by
 rw [List.getElem?_set] at h
 by_cases e:i=j
 ·rw [if_pos e] at h
  split at h
  ·exact .inl ⟨e.symm,Option.some.inj h⟩
  ·cases h
 ·rw [if_neg e] at h; exact .inr ⟨fun z=>e z.symm,h⟩
theorem dZ {α:Type} {l:List (Option α)} {i:Nat} {x:Option α} (h:l[i]? = some x):i<l.length:=(List.getElem?_eq_some_iff.mp h).1
theorem RO.setS (h:RO C ow G ρ σ H pd O) {i:Nat} {d:D} {v:V} (hi:ow[i]?≠some true) (hm:∀ v,C.mu[i]?≠some (some v)) (r:Rep G d v):RO C ow G (ρ.set i (some d)) (σ.set i (some v)) H pd O:=by
 refine ⟨by simp [h.len],h.gh,h.g0,h.gn,h.og,h.cok,h.fr,h.al,?_,?_,h.pn,h.np⟩
 ·intro j u e
  have:i≠j:=fun z=>hm u (z ▸ e)
  rw [List.getElem?_set_ne this]
  exact h.mp j u e
 ·intro j e q
  rcases dE q with ⟨rfl,z⟩ | ⟨z,q'⟩
  ·cases z
   have hl:j<σ.length:=by have:=dZ q; rw [List.length_set,h.len] at this; exact this
   exact ⟨v,by rw [List.getElem?_set_self hl],by rw [if_neg hi]; exact r⟩
  ·obtain ⟨u,h1,h2⟩:=h.sl j e q'
   exact ⟨u,by rw [List.getElem?_set_ne (Ne.symm z)]; exact h1,h2⟩
def lab (f:Nat→List Nat→Nat×List Nat) (O:Own):Own:=fun a=>(O a).map fun l=>f l.1 l.2
theorem bR {f:Nat→List Nat→Nat×List Nat} {a:Addr} {l:Nat} {π:List Nat} (h:O a=some (l,π)):lab f O a=some (f l π):=by unfold lab; rw [h]; rfl
theorem i7 {f:Nat→List Nat→Nat×List Nat} {a:Addr} {m:Nat×List Nat} (h:lab f O a=some m):∃ l π,O a=some (l,π)∧m=f l π:=by
 unfold lab at h
 cases e:O a with
 | none=>rw [e] at h; cases h
 | some l=>rw [e] at h; exact ⟨l.1,l.2,rfl,(Option.some.inj h).symm⟩
theorem cc {i j:Nat} : 2 * i≠2 * j + 1:=by omega
theorem RO.setO {d:D} {v:V} (h:RO C ow G ρ σ H ((d,v) :: pd) O) {i:Nat} (hi:ow[i]? = some true) (hm:∀ v,C.mu[i]?≠some (some v)) (hn:C.np≤pd.length) :
 R C ow G (ρ.set i (some d)) (σ.set i (some v)) H pd:=by
 refine ⟨lab (fun l π=>if l=2 * pd.length + 1 then (2 * i,π) else (l,π)) O,by simp [h.len],h.gh,h.g0,h.gn,?_,h.cok,h.fr,h.al,?_,?_,?_,hn⟩
 ·intro a m e
  obtain ⟨l,π,e1,rfl⟩:=i7 e
  obtain ⟨q1,q2,q3⟩:=h.og a _ e1
  refine ⟨q1,q2,?_⟩
  try dsimp only
  split
  ·rename_i z
   rcases q3 with q3 | ⟨_,q3⟩
   ·exact .inl q3
   ·rcases h.cok _ _ _ q3 with ⟨k,_,q4,_⟩ | ⟨k,q4,q5⟩
    ·exact absurd (q4.symm.trans z) cc
    ·omega
  ·exact q3
 ·intro j u e
  have:i≠j:=fun z=>hm u (z ▸ e)
  rw [List.getElem?_set_ne this]
  exact h.mp j u e
 ·intro j e q
  rcases dE q with ⟨rfl,z⟩ | ⟨z,q'⟩
  ·cases z
   have hl:j<σ.length:=by have:=dZ q; rw [List.length_set,h.len] at this; exact this
   refine ⟨v,by rw [List.getElem?_set_self hl],?_⟩
   rw [if_pos hi]
   exact h.pn.1.keep 'r' fun a τ q=>⟨by rw [bR q,if_pos rfl],rfl⟩
  ·obtain ⟨u,h1,h2⟩:=h.sl j e q'
   refine ⟨u,by rw [List.getElem?_set_ne (Ne.symm z)]; exact h1,?_⟩
   split at h2
   ·rename_i c; rw [if_pos c]; exact h2.keep 'r' fun a τ q=>⟨by rw [bR q,if_neg cc],rfl⟩
   ·rename_i c; rw [if_neg c]; exact h2
 ·exact bE.keep 'r' (fun a j π hj q=>⟨by rw [bR q,if_neg 'a'],rfl⟩) h.pn.2
theorem RO.move (h:RO C ow G ρ σ H pd O) {i:Nat} {d:D} (e : ρ[i]? = some (some d)) (hi:ow[i]? = some true) (hm:∀ v,C.mu[i]?≠some (some v)) :
 ∃ v,σ[i]? = some (some v)∧R C ow G (ρ.set i none) σ H ((d,v) :: pd):=by
 obtain ⟨v,hv,s⟩:=h.sl i d e
 rw [if_pos hi] at s
 refine ⟨v,hv,lab (fun l π=>if l=2 * i then (2 * pd.length + 1,π) else (l,π)) O,by simp [h.len],h.gh,h.g0,h.gn,?_,h.cok,h.fr,h.al,h.mp,?_,⟨?_,?_⟩,Nat.le_succ_of_le h.np⟩
 ·intro a m e
  obtain ⟨l,π,e1,rfl⟩:=i7 e
  obtain ⟨q1,q2,q3⟩:=h.og a _ e1
  refine ⟨q1,q2,?_⟩
  try dsimp only
  split
  ·rename_i z
   rcases q3 with q3 | ⟨_,q3⟩
   ·exact .inl q3
   ·rcases h.cok _ _ _ q3 with ⟨k,u,q4,q5⟩ | ⟨k,q4,_⟩
    ·have:k=i:=by have:=q4.symm.trans z; omega
     exact absurd (this ▸ q5) (hm u)
    ·omega
  ·exact q3
 ·intro j e q
  rcases dE q with ⟨rfl,z⟩ | ⟨z,q'⟩
  ·cases z
  ·obtain ⟨u,h1,h2⟩:=h.sl j e q'
   refine ⟨u,h1,?_⟩
   split at h2
   ·rename_i c; rw [if_pos c]; exact h2.keep 'r' fun a τ q=>⟨by rw [bR q,if_neg 'a'],rfl⟩
   ·rename_i c; rw [if_neg c]; exact h2
 ·exact s.keep 'r' fun a τ q=>⟨by rw [bR q,if_pos rfl],rfl⟩
 ·exact bE.keep 'r' (fun a j π hj q=>⟨by rw [bR q,if_neg (fun z=>cc z.symm)],rfl⟩) h.pn
def hasL (O:Own) (l:Nat) (a:Addr):Bool:=match O a with
 | some m=>m.1 == l
 | none=>false
theorem gm {l:Nat} {a:Addr}:hasL O l a=true↔∃ π,O a=some (l,π):=by
 unfold hasL
 cases e:O a with
 | none=>simp
 | some m=>obtain ⟨m1,m2⟩:=m; simp
theorem RO.share {d:D} {v:V} (h:RO C ow G ρ σ H ((d,v) :: pd) O) (hn:C.np≤pd.length):∃ G',az G G'∧R C ow G' ρ σ H pd∧Rep G' d v:=by
 let l₀:=2 * pd.length + 1
 let G':Hp:=fun a=>if hasL O l₀ a=true then H a else G a
 have sG:az G G':=fun a o e=>by
  show (if _ then _ else _)=_
  split
  ·exact h.gh _ _ e
  ·exact e
 have inH:∀ a τ (o:HO),O a=some (l₀,τ)→H a=some o→G' a=some o:=fun a τ xs q e=>by
  show (if _ then _ else _)=_
  rw [if_pos (gm.mpr ⟨_,q⟩)]; exact e
 refine ⟨G',sG,⟨fun a=>if hasL O l₀ a=true then none else O a,h.len,?_,fun a o e=>sG _ _ (h.g0 _ _ e),?_,?_,h.cok,h.fr,h.al,h.mp,?_,?_,hn⟩,h.pn.1.rep sG.ts d [] v (fun a τ xs q e=>inH a _ xs q e)⟩
 ·intro a o e
  change (if _ then _ else _)=_ at e
  split at e
  ·exact e
  ·exact h.gh _ _ e
 ·intro a o e
  change (if _ then _ else _)=_ at e
  split at e
  ·rename_i c
   obtain ⟨π,q⟩:=gm.mp c
   obtain ⟨_,_,q3⟩:=h.og a _ q
   rcases q3 with q3 | ⟨_,q3⟩
   ·exact .inr q3
   ·rcases h.cok _ _ _ q3 with ⟨k,_,q4,_⟩ | ⟨k,q4,q5⟩
    ·exact absurd q4.symm cc
    ·have q4' : 2 * pd.length + 1=2 * k + 1:=q4
     omega
  ·exact h.gn a o e
 ·intro a l e
  try dsimp only at e
  split at e
  ·cases e
  ·rename_i c
   obtain ⟨q1,q2,q3⟩:=h.og a l e
   exact ⟨by show (if _ then _ else _)=_; rw [if_neg c]; exact q1,q2,q3⟩
 ·intro j e q
  obtain ⟨u,h1,h2⟩:=h.sl j e q
  refine ⟨u,h1,?_⟩
  split at h2
  ·rename_i c; rw [if_pos c]
   refine h2.keep sG.ts fun a τ q=>⟨?_,rfl⟩
   rw [if_neg,q]
   intro z
   obtain ⟨π,z⟩:=gm.mp z
   rw [q] at z
   have:=(Prod.mk.inj (Option.some.inj z)).1
   omega
  ·rename_i c; rw [if_neg c]; exact h2.mono sG
 ·refine bE.keep sG.ts (fun a j π hj q=>⟨?_,rfl⟩) h.pn.2
  rw [if_neg,q]
  intro z
  obtain ⟨π,z⟩:=gm.mp z
  rw [q] at z
  have:=(Prod.mk.inj (Option.some.inj z)).1
  omega
theorem RO.write (h:RO C ow G ρ σ H pd O) {i:Nat} {ds:List D} (e : ρ[i]? = some (some (.lst ds))) (hi:ow[i]? = some true) :
 ∃ a xs,σ[i]? = some (some (.ref a))∧H a=some 'p'∧Seps G H O (2 * i) ds 0 [] xs ∧
  ∀ ds' xs',Seps G H O (2 * i) ds' 0 [] xs'→RO C ow G (ρ.set i (some (.lst ds'))) σ (upd H a (.lst xs')) pd O:=by
 obtain ⟨v,hv,s⟩:=h.sl i _ e
 rw [if_pos hi,Sep] at s
 obtain ⟨a,xs,rfl,hO,hH,hs⟩:=s
 refine ⟨a,xs,hv,hH,hs,fun ds' xs' hs'=>?_⟩
 obtain ⟨g0,_,nw⟩:=h.og a _ hO
 have ne:∀ b l π,O b=some (l,π)→(l≠2 * i∨π≠[])→b≠a:=fun b l π q n z=>by
  subst z
  rw [hO] at q
  obtain ⟨q1,q2⟩:=Prod.mk.inj (Option.some.inj q)
  rcases n with n | n
  ·exact n q1.symm
  ·exact n q2.symm
 refine ⟨by simp [h.len],?_,h.g0,h.gn,?_,h.cok,?_,?_,h.mp,?_,?_,h.np⟩
 ·intro b o q
  rw [ah (fun z=>by rw [z,g0] at q; cases q)]; exact h.gh _ _ q
 ·intro b l q
  obtain ⟨q1,⟨ys,q2⟩,q3⟩:=h.og b l q
  refine ⟨q1,?_,q3⟩
  by_cases z:b=a
  ·subst z; exact ⟨.inl _,ao⟩
  ·rw [ah z]; exact ⟨ys,q2⟩
 ·intro b o q n
  by_cases z:b=a
  ·subst z
   rcases nw with nw | ⟨_,nw⟩
   ·rw [nw] at q; cases q
   ·rw [nw] at n; cases n
  ·rw [ah z]; exact h.fr b o q n
 ·intro b q
  by_cases z:b=a
  ·subst z; rw [ao] at q; cases q
  ·rw [ah z] at q; exact h.al b q
 ·intro j u q
  rcases dE q with ⟨rfl,z⟩ | ⟨z,q'⟩
  ·cases z
   refine ⟨_,hv,?_⟩
   rw [if_pos hi,Sep]
   exact ⟨a,xs',rfl,hO,ao,hs'.keep 'r' fun b τ hτ q=>⟨q,ah (ne b _ _ q (.inr (by simpa using hτ)))⟩⟩
  ·obtain ⟨w,h1,h2⟩:=h.sl j u q'
   refine ⟨w,h1,?_⟩
   split at h2
   ·rename_i c; rw [if_pos c]; exact h2.keep 'r' fun b τ q=>⟨q,ah (ne b _ _ q (.inl 'a'))⟩
   ·rename_i c; rw [if_neg c]; exact h2
 ·exact bE.keep 'r' (fun b j π hj q=>⟨q,ah (ne b _ _ q (.inl (fun z=>cc z.symm)))⟩) h.pn
theorem RO.join {d:D} {v:V} (h:RO C ow G ρ σ H ((d,v) :: pd) O) (i n:Nat) (hn:C.np≤pd.length) :
 ∃ O',RO C ow G ρ σ H pd O'∧Sep G H O' (2 * i) d [n] v∧∀ (l:Nat) ds k π xs,l≠2 * pd.length + 1→Seps G H O l ds k π xs→Seps G H O' l ds k π xs:=by
 refine ⟨lab (fun l π=>if l=2 * pd.length + 1 then (2 * i,π++[n]) else (l,π)) O,⟨h.len,h.gh,h.g0,h.gn,?_,h.cok,h.fr,h.al,h.mp,?_,?_,hn⟩,?_,?_⟩
 ·intro a m e
  obtain ⟨l,π,e1,rfl⟩:=i7 e
  obtain ⟨q1,q2,q3⟩:=h.og a _ e1
  refine ⟨q1,q2,?_⟩
  try dsimp only
  split
  ·rename_i z
   rcases q3 with q3 | ⟨_,q3⟩
   ·exact .inl q3
   ·rcases h.cok _ _ _ q3 with ⟨k,_,q4,_⟩ | ⟨k,q4,q5⟩
    ·exact absurd (q4.symm.trans z) cc
    ·omega
  ·exact q3
 ·intro j e q
  obtain ⟨u,h1,h2⟩:=h.sl j e q
  refine ⟨u,h1,?_⟩
  split at h2
  ·rename_i c; rw [if_pos c]; exact h2.keep 'r' fun a τ q=>⟨by rw [bR q,if_neg cc],rfl⟩
  ·rename_i c; rw [if_neg c]; exact h2
 ·exact bE.keep 'r' (fun a j π hj q=>⟨by rw [bR q,if_neg 'a'],rfl⟩) h.pn.2
 ·exact Sep.map (f:=fun π=>π++[n]) 'r' 'f' d [] v (fun a τ q=>⟨by rw [bR q,if_pos rfl],rfl⟩) h.pn.1
 ·intro l ds k π xs hl hs
  exact hs.keep 'r' fun a τ _ q=>⟨by rw [bR q,if_neg hl],rfl⟩
end
def bor (js:List Nat) (ow:List Bool):List Bool:=ow.mapIdx fun j b=>b && !js.contains j
theorem cO {js:List Nat} {ow:List Bool} {j:Nat}:(bor js ow)[j]? = some true↔ow[j]? = some true∧js.contains j=false:=by
 unfold bor
 rw [List.getElem?_mapIdx]
 cases e:ow[j]? with
 | none=>simp
 | some b=>cases b <;> simp
def nS (ρ:DSt) (js:List Nat) (n l:Nat):Bool:=if l % 2=0 then (match ρ[l / 2]? with | some (some _)=>!js.contains (l / 2) | _=>false) else decide (l / 2<n)
def je (js:List Nat) (l:Nat):Bool:=decide (l % 2=0)&&js.contains (l / 2)
def df (f:Nat→Bool) (O:Own):Own:=fun a=>match O a with
 | some m=>if f m.1=true then some m else none
 | none=>none
theorem gq {f:Nat→Bool} {O:Own} {a:Addr} {m:Nat×List Nat} (h:O a=some m) (hf:f m.1=true):df f O a=some m:=by unfold df; rw [h]; show (if _ then _ else _)=_; rw [if_pos hf]
theorem dW {f:Nat→Bool} {O:Own} {a:Addr} {m:Nat×List Nat} (h:df f O a=some m):O a=some m∧f m.1=true:=by
 unfold df at h
 cases e:O a with
 | none=>rw [e] at h; cases h
 | some n =>
  rw [e] at h
  change (if _ then _ else _)=_ at h
  split at h
  ·rename_i c; cases h; exact ⟨rfl,c⟩
  ·cases h
def isSm {α:Type}:Option α→Bool
 | some _=>true
 | none=>false
section
variable {C:Ctx} {ow:List Bool} {G:Hp} {ρ:DSt} {σ:St} {H:Hp} {pd:List (D×V)} {O:Own}
def gBor (js:List Nat) (G H:Hp) (O:Own):Hp:=fun a=>if isSm (df (je js) O a)=true then H a else G a
def cBor (js:List Nat) (G H:Hp) (O:Own) (ρ:DSt) (σ:St) (n:Nat):Ctx:=⟨gBor js G H O,H,df (nS ρ js n) O,σ,n⟩
theorem jn (h:RO C ow G ρ σ H pd O) (js:List Nat):az G (gBor js G H O):=fun a o e=>by
 show (if _ then _ else _)=_
 split
 ·exact h.gh _ _ e
 ·exact e
theorem j6 {α:Type} {o:Option α} (h:isSm o=true):∃ x,o=some x:=by cases o with | none=>cases h | some x=>exact ⟨x,rfl⟩
theorem RO.enter (h:RO C ow G ρ σ H pd O) (js:List Nat):RO (cBor js G H O ρ σ pd.length) (bor js ow) (gBor js G H O) ρ σ H pd (df (nS ρ js pd.length) O):=by
 have sG:=jn h js
 refine ⟨h.len,?_,fun _ _ e=>e,fun _ _ e=>.inl e,?_,?_,fun _ _ e _=>e,fun _ e=>e,fun _ _ e=>e,?_,?_,Nat.le_refl _⟩
 ·intro a o e
  change (if _ then _ else _)=_ at e
  split at e
  ·exact e
  ·exact h.gh _ _ e
 ·intro a l e
  obtain ⟨e1,e2⟩:=dW e
  obtain ⟨q1,q2,q3⟩:=h.og a l e1
  refine ⟨?_,q2,.inr ⟨l.2,e⟩⟩
  ·show (if _ then _ else _)=_
   rw [if_neg]; exact q1
   intro z
   obtain ⟨m,z⟩:=j6 z
   obtain ⟨z1,z2⟩:=dW z
   rw [e1] at z1; cases z1
   unfold je at z2; unfold nS at e2
   simp only [Bool.and_eq_true,decide_eq_true_eq] at z2
   rw [if_pos z2.1] at e2
   split at e2
   ·rw [z2.2] at e2; cases e2
   ·cases e2
 ·intro a l π e
  obtain ⟨e1,e2⟩:=dW e
  unfold nS at e2
  split at e2
  ·rename_i c
   split at e2
   ·rename_i d hd
    obtain ⟨v,hv,_⟩:=h.sl _ _ hd
    exact .inl ⟨l / 2,v,by omega,hv⟩
   ·cases e2
  ·exact .inr ⟨l / 2,by omega,of_decide_eq_true e2⟩
 ·intro j d e
  obtain ⟨v,h1,h2⟩:=h.sl j d e
  refine ⟨v,h1,?_⟩
  by_cases c:ow[j]? = some true
  ·rw [if_pos c] at h2
   by_cases c2:js.contains j=true
   ·rw [if_neg (fun z=>by rw [cO] at z; rw [c2] at z; exact absurd z.2 'k')]
    refine h2.rep sG.ts d [] v fun a τ xs q e=>?_
    show (if _ then _ else _)=_
    rw [if_pos]; exact e
    rw [gq q]; rfl
    unfold je
    simp only [Bool.and_eq_true,decide_eq_true_eq]
    exact ⟨by omega,by rw [show 2 * j / 2=j by omega]; exact c2⟩
   ·rw [if_pos (cO.mpr ⟨c,by simpa using c2⟩)]
    refine h2.keep sG.ts fun a τ q=>⟨gq q ?_,rfl⟩
    unfold nS
    show (if 2 * j % 2=0 then _ else _)=_
    rw [if_pos 'a',show 2 * j / 2=j by omega,e]
    simp at c2 ⊢; exact c2
  ·rw [if_neg c] at h2
   rw [if_neg (fun z=>c (cO.mp z).1)]
   exact h2.mono sG
 ·refine bE.keep sG.ts (fun a j π hj q=>⟨gq q ?_,rfl⟩) h.pn
  unfold nS
  show (if (2 * j + 1) % 2=0 then _ else _)=_
  rw [if_neg 'a',show (2 * j + 1) / 2=j by omega]
  simpa using hj
def Kp (ow:List Bool) (ρ ρ':DSt):Prop:=∀ (j:Nat),ow[j]?≠some true→ρ'[j]? = ρ[j]?
def lH (js:List Nat) (O:Own) (G2:Hp):Hp:=fun a=>if isSm (df (je js) O a)=true then none else G2 a
def vL (js:List Nat) (O O2:Own):Own:=fun a=>match O2 a with
 | some l=>some l
 | none=>df (je js) O a
theorem RO.leave (h:RO C ow G ρ σ H pd O) {js:List Nat} {G2:Hp} {ρ2:DSt} {H2:Hp} {pd2:List (D×V)} {O2:Own}
 (h2:RO (cBor js G H O ρ σ pd.length) (bor js ow) G2 ρ2 σ H2 pd2 O2) (kp:Kp (bor js ow) ρ ρ2) :
 RO C ow (lH js O G2) ρ2 σ H2 pd2 (vL js O O2)∧az G (lH js O G2)∧ce G2 (lH js O G2):=by
 have sG:=jn h js
 have dm:∀ a m,df (je js) O a=some m→O a=some m∧G a=none∧∃ xs:WrO,H a=some xs.ho∧G2 a=some xs.ho:=fun a m e=>by
  obtain ⟨e1,e2⟩:=dW e
  obtain ⟨q1,⟨xs,q2⟩,q3⟩:=h.og a m e1
  refine ⟨e1,q1,xs,q2,h2.g0 a _ ?_⟩
  show (if _ then _ else _)=_
  rw [if_pos (by rw [e]; rfl)]; exact q2
 have nd:∀ a,G a≠none→¬ isSm (df (je js) O a)=true:=fun a g z=>by
  obtain ⟨m,z⟩:=j6 z
  exact g (dm a m z).2.1
 have sG3:az G (lH js O G2):=fun a o e=>by
  show (if _ then _ else _)=_
  rw [if_neg (nd a (by rw [e]; simp))]
  exact h2.g0 a o (sG a o e)
 have ts:ce G2 (lH js O G2):=fun a xs e=>by
  show (if _ then _ else _)=_
  rw [if_neg]; exact e
  intro z
  obtain ⟨m,z⟩:=j6 z
  obtain ⟨_,_,ys,_,q⟩:=dm a m z
  rw [e] at q; exact (WrO.ne (Option.some.inj q).symm).elim
 have o2:∀ a l,O2 a=some l→vL js O O2 a=some l:=fun a l e=>by show (match O2 a with | some l=>some l | none=>_)=_; rw [e]
 refine ⟨⟨h2.len,?_,fun a o e=>sG3 _ _ (h.g0 _ _ e),?_,?_,h.cok,?_,fun a e=>h.al a (h2.al a e),h.mp,?_,?_,Nat.le_trans h.np h2.np⟩,sG3,ts⟩
 ·intro a o e
  change (if _ then _ else _)=_ at e
  split at e
  ·cases e
  ·exact h2.gh _ _ e
 ·intro a o e
  change (if _ then _ else _)=_ at e
  split at e
  ·cases e
  ·rename_i c
   rcases h2.gn a o e with q | q
   ·change (if _ then _ else _)=_ at q
    rw [if_neg c] at q
    exact h.gn a o q
   ·exact .inr (h.al a q)
 ·intro a l e
  change (match O2 a with | some l=>some l | none=>_)=_ at e
  cases q:O2 a with
  | some l' =>
   rw [q] at e; cases e
   obtain ⟨q1,q2,q3⟩:=h2.og a l q
   refine ⟨by show (if _ then _ else _)=_; split <;> first | rfl | exact q1,q2,?_⟩
   rcases q3 with q3 | ⟨q3,q4⟩
   ·exact .inl (h.al a q3)
   ·exact (h.og a _ (dW q4).1).2.2
  | none =>
   rw [q] at e
   change df (je js) O a=some l at e
   obtain ⟨e1,q1,xs,q2,q3⟩:=dm a l e
   refine ⟨by show (if _ then _ else _)=_; rw [if_pos (by rw [e]; rfl)],⟨xs,h2.gh _ _ q3⟩,(h.og a l e1).2.2⟩
 ·intro a o e n
  have q:=h.fr a o e n
  refine h2.fr a o q ?_
  show df _ O a=none
  cases z:df (nS ρ js pd.length) O a with
  | none=>rfl
  | some m =>
   obtain ⟨z1,_⟩:=dW z
   obtain ⟨_,_,z3⟩:=h.og a m z1
   rcases z3 with z3 | ⟨_,z3⟩
   ·rw [z3] at e; cases e
   ·rw [z3] at n; cases n
 ·intro j d e
  by_cases c:(bor js ow)[j]? = some true
  ·obtain ⟨v,q1,q2⟩:=h2.sl j d e
   rw [if_pos c] at q2
   refine ⟨v,q1,?_⟩
   rw [if_pos (cO.mp c).1]
   exact q2.keep ts fun a τ q=>⟨o2 _ _ q,rfl⟩
  ·rw [kp j c] at e
   obtain ⟨v,q1,q2⟩:=h.sl j d e
   refine ⟨v,q1,?_⟩
   by_cases c2:ow[j]? = some true
   ·rw [if_pos c2] at q2 ⊢
    have hj:js.contains j=true:=by
     cases z:js.contains j with
     | true=>rfl
     | false=>exact absurd (cO.mpr ⟨c2,z⟩) c
    refine q2.keep sG3.ts fun a τ q=>?_
    have dd:df (je js) O a=some (2 * j,τ++[]):=gq q (by
     unfold je
     simp only [Bool.and_eq_true,decide_eq_true_eq]
     exact ⟨by omega,by rw [show 2 * j / 2=j by omega]; exact hj⟩)
    obtain ⟨_,_,xs,q4,q5⟩:=dm a _ dd
    refine ⟨?_,by rw [q4]; exact h2.gh _ _ q5⟩
    show (match O2 a with | some l=>some l | none=>_)=_
    cases z:O2 a with
    | some l=>have:=(h2.og a l z).1; rw [q5] at this; cases this
    | none=>exact dd
   ·rw [if_neg c2] at q2 ⊢
    exact q2.mono sG3
 ·exact bE.keep ts (fun a j π hj q=>⟨o2 _ _ q,rfl⟩) h2.pn
end
abbrev ME:=DSt→(D→DSt→Prop)→Prop
abbrev MT:=DSt→(Bool→DSt→Prop)→Prop
abbrev MA:=DSt→(List D→DSt→Prop)→Prop
def SE (ow:List Bool) (t:TE) (m:ME):Prop:=∀ (C:Ctx) (G:Hp) (ρ:DSt) (σ:St) (H:Hp) (pd:List (D×V)) (q:D→DSt→Prop) (Q:VK),R C ow G ρ σ H pd→m ρ q →
 (∀ d ρ' v G' H',q d ρ'→az G G'→Kp ow ρ ρ'→R C ow G' ρ' σ H' pd→Rep G' d v→Q v H')→t σ H Q
def SF (ow:List Bool) (t:TE) (m:ME):Prop:=∀ (C:Ctx) (G:Hp) (ρ:DSt) (σ:St) (H:Hp) (pd:List (D×V)) (q:D→DSt→Prop) (Q:VK),R C ow G ρ σ H pd→m ρ q →
 (∀ d ρ' v G' H',q d ρ'→az G G'→Kp ow ρ ρ'→R C ow G' ρ' σ H' ((d,v) :: pd)→Q v H')→t σ H Q
def STe (ow:List Bool) (t:TT) (m:MT):Prop:=∀ (C:Ctx) (G:Hp) (ρ:DSt) (σ:St) (H:Hp) (pd:List (D×V)) (q:Bool→DSt→Prop) (Q:Bool→Hp→Prop),R C ow G ρ σ H pd→m ρ q →
 (∀ b ρ' G' H',q b ρ'→az G G'→Kp ow ρ ρ'→R C ow G' ρ' σ H' pd→Q b H')→t σ H Q
def SA (ow:List Bool) (n:Nat) (t:TA) (m:MA):Prop:=∀ (C:Ctx) (G:Hp) (ρ:DSt) (σ:St) (H:Hp) (pd:List (D×V)) (q:List D→DSt→Prop) (Q:List V→Hp→Prop),R C ow G ρ σ H pd→m ρ q →
 (∀ ds ρ' vs G' H',q ds ρ'→az G G'→Kp ow ρ ρ'→R C ow G' ρ' σ H' pd→Reps G' ds vs→vs.length=n→Q vs H')→t σ H Q
structure QE (X:Cx) (ow:List Bool) (e:Expr) (m:ME):Prop where
 ex:∃ t,PE X e t∧SE ow t m
structure QF (X:Cx) (ow:List Bool) (e:Expr) (m:ME):Prop where
 ex:∃ t,PE X e t∧SF ow t m
structure QT (X:Cx) (ow:List Bool) (e:Expr) (m:MT):Prop where
 ex:∃ t,PT X e t∧STe ow t m
structure QW (X:Cx) (ow:List Bool) (e:Expr) (m:MT):Prop where
 ex:∃ t,PW X e t∧STe ow t m
structure QA (X:Cx) (ow:List Bool) (es:List Expr) (m:MA):Prop where
 ex:∃ t,PA X es t∧SA ow es.length t m
theorem Kp.refl {ow:List Bool} {ρ:DSt}:Kp ow ρ ρ:=fun _ _=>rfl
theorem Kp.trans {ow:List Bool} {ρ ρ1 ρ2:DSt} (a:Kp ow ρ ρ1) (b:Kp ow ρ1 ρ2):Kp ow ρ ρ2:=fun j h=>(b j h).trans (a j h)
theorem R.gh {C:Ctx} {ow:List Bool} {G:Hp} {ρ:DSt} {σ:St} {H:Hp} {pd:List (D×V)} (h:R C ow G ρ σ H pd):az G H:=let ⟨_,h⟩:=h; h.gh
theorem R.np {C:Ctx} {ow:List Bool} {G:Hp} {ρ:DSt} {σ:St} {H:Hp} {pd:List (D×V)} (h:R C ow G ρ σ H pd):C.np≤pd.length:=let ⟨_,h⟩:=h; h.np
section
variable {X:Cx} {ow:List Bool} {a b c e:Expr} {ma mb mc:ME} {pos:Pos}
def mVar (i:Nat):ME:=fun ρ q=>match ρ[i]? with
 | some (some d)=>q d ρ
 | _=>False
theorem ad (i:Nat) {x:Str} (hs:ow[i]?≠some true:=by decide) (hN:X.N[i]? = some x:=by rfl) (hv:Vis X.env.scope x:=by first | exact Or.inl rfl | exact Or.inr 'c' | exact Or.inr (Or.inr rfl)) (hd:'d'=false:=by decide)
 (hcd:(x == ("__classdict__":Str))=false:=by decide):QE X ow (.Name x pos) (mVar i):=⟨_,dq hN hv hd hcd,fun C G ρ σ H pd q Q r h k=>by
 unfold mVar at h
 split at h
 ·rename_i d e
  obtain ⟨O,ro⟩:=r
  obtain ⟨v,h1,h2⟩:=ro.sl i d e
  rw [if_neg hs] at h2
  exact ⟨v,h1,k d ρ v G H h (az.refl _) Kp.refl ⟨O,ro⟩ h2⟩
 ·exact h.elim⟩
def mC (d:D):ME:=fun ρ q=>q d ρ
theorem pM {v:V} {d:D} (h:PE X e (tC v)) (hr:∀ G,Rep G d v):QE X ow e (mC d):=⟨_,h,fun C G ρ σ H pd q Q r h k=>k d ρ v G H h (az.refl _) Kp.refl r (hr G)⟩
theorem ae {i j}:QE X ow (.Constant (.int i) j pos) (mC (.int i)):=pM jY fun _=>ba _
theorem ci {i j}:QE X ow (.Constant (.bool i) j pos) (mC (.bl i)):=pM sC fun _=>bN _
theorem bJ {j}:QE X ow (.Constant .none j pos) (mC .non):=pM w_ fun _=>kC
theorem a7 {i j}:QE X ow (.Constant (.str i) j pos) (mC (.str i)):=pM rJ fun _=>uV _
theorem cz {x:Str} {i:Int} (hg:Gl X x) (hm:∃ t,X.mg x=some (.int i t)) (hd:'d'=false:=by decide):QE X ow (.Name x pos) (mC (.int i)):=by
 obtain ⟨t,hm⟩:=hm
 exact pM (fX (v:=.int i) hg hm ⟨t,rfl⟩ hd) fun _=>ba _
theorem gO {ta tb:TE} (ha:SE ow ta ma) (hb:SE ow tb mb) {C:Ctx} {G:Hp} {ρ:DSt} {σ:St} {H:Hp} {pd:List (D×V)} {f:D→D→DSt→Prop} {Q:V→V→Hp→Prop}
 (r:R C ow G ρ σ H pd) (h:ma ρ fun x ρ1=>mb ρ1 fun y ρ2=>f x y ρ2)
 (k:∀ dx dy ρ' x y G' H',f dx dy ρ'→az G G'→Kp ow ρ ρ'→R C ow G' ρ' σ H' pd→Rep G' dx x→Rep G' dy y→Q x y H'):ta σ H fun x H1=>tb σ H1 fun y H2=>Q x y H2:=by
 refine ha C G ρ σ H pd _ _ r h fun dx ρ1 x G1 H1 h1 s1 k1 r1 p1=>?_
 refine hb C G1 ρ1 σ H1 pd _ _ r1 h1 fun dy ρ2 y G2 H2 h2 s2 k2 r2 p2=>?_
 exact k dx dy ρ2 x y G2 H2 h2 (s1.trans s2) (k1.trans k2) r2 (Rep.mono s2 _ _ p1) p2
def DOp (r:R2) (f:D→D→(D→Prop)→Prop):Prop:=∀ (G H:Hp) (x y:V) (dx dy:D) (q:D→Prop) (Q:VK),az G H→Rep G dx x→Rep G dy y→f dx dy q→(∀ d v,q d→Rep G d v→Q v H)→r x y H Q
def mOp (f:D→D→(D→Prop)→Prop) (ma mb:ME):ME:=fun ρ q=>ma ρ fun x ρ1=>mb ρ1 fun y ρ2=>f x y fun d=>q d ρ2
theorem oU {r:R2} {f:D→D→(D→Prop)→Prop} {ta tb:TE} (hd:DOp r f) (ha:SE ow ta ma) (hb:SE ow tb mb):SE ow (tOp r ta tb) (mOp f ma mb):=fun C G ρ σ H pd q Q hr h k=>by
 refine gO ha hb hr h fun dx dy ρ' x y G' H' hf s kp r' p1 p2=>?_
 exact hd G' H' x y dx dy _ _ r'.gh p1 p2 hf fun d v hq p=>k d ρ' v G' H' hq s kp r' p
theorem aH {op:Operator} {r:R2} {f:D→D→(D→Prop)→Prop} (ho:OpR X (binaryOp op) r) (hd:DOp r f) (ha:QE X ow a ma) (hb:QE X ow b mb):QE X ow (.BinOp a op b pos) (mOp f ma mb):=by
 obtain ⟨ta,pa,sa⟩:=ha; obtain ⟨tb,pb,sb⟩:=hb
 exact ⟨_,lE ho pa pb,oU hd sa sb⟩
theorem fD {op:CmpOp} {r:R2} {f:D→D→(D→Prop)→Prop} (ho:OpR X (compareOp op) r) (hd:DOp r f) (ha:QE X ow a ma) (hb:QE X ow b mb) (hm:behindInMarks op b=false):QE X ow (.Compare a [op] [b] pos) (mOp f ma mb):=by
 obtain ⟨ta,pa,sa⟩:=ha; obtain ⟨tb,pb,sb⟩:=hb
 exact ⟨_,nX ho pa pb hm,oU hd sa sb⟩
theorem aJ {r:R2} {f:D→D→(D→Prop)→Prop} (ho:IxR X r) (hd:DOp r f) (ha:QE X ow a ma) (hb:QE X ow b mb) (hs:iw b):QE X ow (.Subscript a b pos) (mOp f ma mb):=by
 obtain ⟨ta,pa,sa⟩:=ha; obtain ⟨tb,pb,sb⟩:=hb
 exact ⟨_,sw ho pa pb hs,oU hd sa sb⟩
def mB (m:ME):MT:=fun ρ q=>m ρ fun d ρ'=>match d with
 | .bl b=>q b ρ'
 | _=>False
theorem bP {G:Hp} {b:Bool} {v:V} (h:Rep G (.bl b) v):v = .bl b:=by rw [Rep] at h; exact h
theorem ay {G:Hp} {b:Int} {v:V} (h:Rep G (.int b) v):v = .int b:=by rw [Rep] at h; exact h
theorem sY {t:TE} {m:ME} (h:SE ow t m):STe ow (sL t) (mB m):=fun C G ρ σ H pd q Q r hm k=>by
 refine h C G ρ σ H pd _ _ r hm fun d ρ' v G' H' hq s kp r' p=>?_
 cases d with
 | bl b=>exact ⟨b,bP p,k b ρ' G' H' hq s kp r'⟩
 | _=>exact hq.elim
theorem bh {op:CmpOp} {r:R2} {f:D→D→(D→Prop)→Prop} (ho:OpR X (compareOp op) r) (hd:DOp r f) (ha:QE X ow a ma) (hb:QE X ow b mb) (hm:behindInMarks op b=false):QT X ow (.Compare a [op] [b] pos) (mB (mOp f ma mb)):=by
 obtain ⟨ta,pa,sa⟩:=ha; obtain ⟨tb,pb,sb⟩:=hb
 exact ⟨_,ul ho pa pb hm,sY (oU hd sa sb)⟩
theorem a6 (h:QE X ow e ma) (he:∀ whole,isTrue e X.env whole=(do let v ← whole; standAt e.pos; holding [v] (truthy v)):=by intro _; rfl):QT X ow e (mB ma):=by
 obtain ⟨ta,pa,sa⟩:=h
 exact ⟨_,wa pa he,sY sa⟩
def mTru (m:ME):MT:=fun ρ q=>m ρ fun d ρ'=>match d with
 | .bl b=>q b ρ'
 | .lst ds=>q (!ds.isEmpty) ρ'
 | .tup ds=>q (!ds.isEmpty) ρ'
 | .int i=>q (i != 0) ρ'
 | .non=>q false ρ'
 | _=>False
theorem sV {α β:Type} {xs:List α} {ds:List β} (h:xs.length=ds.length):(!xs.isEmpty) = !ds.isEmpty:=by
 cases xs <;> cases ds <;> simp_all
theorem i4 (h:QE X ow e ma) (he:∀ whole,isTrue e X.env whole=(do let v ← whole; standAt e.pos; holding [v] (truthy v)):=by intro _; rfl):QT X ow e (mTru ma):=by
 obtain ⟨ta,pa,sa⟩:=h
 refine ⟨_,rR pa he,fun C G ρ σ H pd q Q r hm k=>?_⟩
 refine sa C G ρ σ H pd _ _ r hm fun d ρ' v G' H' hq s kp r' p=>?_
 cases d with
 | bl b=>exact ⟨b,by rw [bP p]; rfl,k b ρ' G' H' hq s kp r'⟩
 | int i=>exact ⟨_,by rw [ay p]; rfl,k _ ρ' G' H' hq s kp r'⟩
 | non=>exact ⟨_,by rw [Rep] at p; rw [p]; rfl,k _ ρ' G' H' hq s kp r'⟩
 | lst ds=>rw [Rep] at p; obtain ⟨a,xs,rfl,h1,h2⟩:=p; exact ⟨_,.inl ⟨xs,SqL.of (r'.gh _ _ h1),(sV h2.length).symm⟩,k _ ρ' G' H' hq s kp r'⟩
 | tup ds=>rw [Rep] at p; obtain ⟨a,xs,rfl,h1,h2⟩:=p; exact ⟨_,.inr (.inl ⟨xs,SqT.of (r'.gh _ _ h1),(sV h2.length).symm⟩),k _ ρ' G' H' hq s kp r'⟩
 | _=>exact hq.elim
def mIf {α:Type} (m:MT) (x y:DSt→(α→DSt→Prop)→Prop):DSt→(α→DSt→Prop)→Prop:=fun ρ q=>m ρ fun b ρ1=>if b=true then x ρ1 q else y ρ1 q
def lf (b:Bool):MT:=fun ρ q=>q b ρ
theorem vy {t t1 t2:TT} {m m1 m2:MT} (h:STe ow t m) (h1:STe ow t1 m1) (h2:STe ow t2 m2):STe ow (fun σ H Q=>t σ H fun c H1=>if c=true then t1 σ H1 Q else t2 σ H1 Q) (mIf m m1 m2):=fun C G ρ σ H pd q Q r hm k=>by
 refine h C G ρ σ H pd _ _ r hm fun b ρ' G' H' hq s kp r'=>?_
 cases b with
 | true=>rw [if_pos rfl] at hq ⊢; exact h1 C G' ρ' σ H' pd _ _ r' hq fun b ρ2 G2 H2 hq2 s2 kp2 r2=>k b ρ2 G2 H2 hq2 (s.trans s2) (kp.trans kp2) r2
 | false=>rw [if_neg 'k'] at hq ⊢; exact h2 C G' ρ' σ H' pd _ _ r' hq fun b ρ2 G2 H2 hq2 s2 kp2 r2=>k b ρ2 G2 H2 hq2 (s.trans s2) (kp.trans kp2) r2
theorem mT (b:Bool):STe ow (fun _ H Q=>Q b H) (lf b):=fun C G ρ σ H pd q Q r hm k=>k b ρ G H hm (az.refl _) Kp.refl r
variable {mt mu mv:MT} {rest:List Expr}
theorem t3 (h:QT X ow a mt):QW X ow (.BoolOp .And [a] pos) mt:=by obtain ⟨t,p,s⟩:=h; exact ⟨_,tT p,s⟩
theorem d8 (h:QT X ow a mt):QW X ow (.BoolOp .Or [a] pos) mt:=by obtain ⟨t,p,s⟩:=h; exact ⟨_,yc p,s⟩
theorem qk (h:QT X ow a mt) (h2:QW X ow (.BoolOp .And (b :: rest) pos) mu):QW X ow (.BoolOp .And (a :: b :: rest) pos) (mIf mt mu (lf false)):=by
 obtain ⟨t,p,s⟩:=h; obtain ⟨t2,p2,s2⟩:=h2; exact ⟨_,x9 p p2,vy s s2 (mT false)⟩
theorem f7 (h:QT X ow a mt) (h2:QW X ow (.BoolOp .Or (b :: rest) pos) mu):QW X ow (.BoolOp .Or (a :: b :: rest) pos) (mIf mt (lf true) mu):=by
 obtain ⟨t,p,s⟩:=h; obtain ⟨t2,p2,s2⟩:=h2; exact ⟨_,pw_or p p2,vy s (mT true) s2⟩
theorem QW.qt (h:QW X ow e mt):QT X ow e mt:=by obtain ⟨t,p,s⟩:=h; exact ⟨_,p.pt,s⟩
def mNot (m:MT):MT:=fun ρ q=>m ρ fun b ρ'=>q (!b) ρ'
theorem bg (h:QT X ow a mt):QT X ow (.UnaryOp .Not a pos) (mNot mt):=by
 obtain ⟨t,p,s⟩:=h
 exact ⟨_,wf p,fun C G ρ σ H pd q Q r hm k=>s C G ρ σ H pd _ _ r hm fun b ρ' G' H' hq s kp r'=>k _ ρ' G' H' hq s kp r'⟩
def mV (m:MT):ME:=fun ρ q=>m ρ fun b ρ'=>q (.bl b) ρ'
theorem eU {op} (h:QE X ow a ma):QE X ow (.BoolOp op [a] pos) ma:=by obtain ⟨t,p,s⟩:=h; exact ⟨_,wQ p,s⟩
theorem mK (h:QE X ow a ma):QE X ow (.UnaryOp .Not a pos) (mV (mNot (mB ma))):=by
 obtain ⟨t,p,s⟩:=h
 refine ⟨_,xB p,fun C G ρ σ H pd q Q r hm k=>?_⟩
 refine s C G ρ σ H pd _ _ r hm fun d ρ' v G' H' hq s kp r' p=>?_
 cases d with
 | bl b=>exact ⟨b,bP p,k _ ρ' _ G' H' hq s kp r' (bN _)⟩
 | _=>exact hq.elim
theorem dM (h:QE X ow a ma) (h2:QE X ow (.BoolOp .And (b :: rest) pos) mb):QE X ow (.BoolOp .And (a :: b :: rest) pos) (mIf (mB ma) mb (mC (.bl false))):=by
 obtain ⟨t,p,s⟩:=h; obtain ⟨t2,p2,s2⟩:=h2
 refine ⟨_,wE p p2,fun C G ρ σ H pd q Q r hm k=>?_⟩
 refine s C G ρ σ H pd _ _ r hm fun d ρ' v G' H' hq s kp r' p=>?_
 cases d with
 | bl b =>
  refine ⟨b,bP p,?_⟩
  change (if b=true then _ else _) at hq
  cases b with
  | true=>rw [if_pos rfl] at hq ⊢; exact s2 C G' ρ' σ H' pd _ _ r' hq fun d ρ2 v G2 H2 hq2 z2 kp2 r2 p2=>k d ρ2 v G2 H2 hq2 (s.trans z2) (kp.trans kp2) r2 p2
  | false=>rw [if_neg 'k'] at hq ⊢; exact k _ ρ' _ G' H' hq s kp r' (bN _)
 | _=>exact hq.elim
theorem qN (h:QT X ow c mt) (ha:QE X ow a ma) (hb:QE X ow b mb):QE X ow (.IfExp c a b pos) (mIf mt ma mb):=by
 obtain ⟨t,p,s⟩:=h; obtain ⟨t1,p1,s1⟩:=ha; obtain ⟨t2,p2,s2⟩:=hb
 refine ⟨_,rp p p1 p2,fun C G ρ σ H pd q Q r hm k=>?_⟩
 refine s C G ρ σ H pd _ _ r hm fun d ρ' G' H' hq s kp r'=>?_
 cases d with
 | true=>rw [if_pos rfl] at hq ⊢; exact s1 C G' ρ' σ H' pd _ _ r' hq fun d ρ2 v G2 H2 hq2 z2 kp2 r2 p2=>k d ρ2 v G2 H2 hq2 (s.trans z2) (kp.trans kp2) r2 p2
 | false=>rw [if_neg 'k'] at hq ⊢; exact s2 C G' ρ' σ H' pd _ _ r' hq fun d ρ2 v G2 H2 hq2 z2 kp2 r2 p2=>k d ρ2 v G2 H2 hq2 (s.trans z2) (kp.trans kp2) r2 p2
theorem QF.qe (h:QF X ow e ma):QE X ow e ma:=by
 obtain ⟨t,p,s⟩:=h
 refine ⟨_,p,fun C G ρ σ H pd q Q r hm k=>s C G ρ σ H pd _ _ r hm fun d ρ' v G' H' hq s kp r'=>?_⟩
 obtain ⟨O,r'⟩:=r'
 obtain ⟨G2,s2,r2,p2⟩:=r'.share r.np
 exact k d ρ' v G2 H' hq (s.trans s2) kp r2 p2
def mImm (m:ME):ME:=fun ρ q=>m ρ fun d ρ'=>imm d=true∧q d ρ'
theorem QE.qf (h:QE X ow e ma):QF X ow e (mImm ma):=by
 obtain ⟨t,p,s⟩:=h
 refine ⟨_,p,fun C G ρ σ H pd q Q r hm k=>s C G ρ σ H pd _ _ r hm fun d ρ' v G' H' hq s kp r' p=>?_⟩
 obtain ⟨O,r'⟩:=r'
 exact k d ρ' v G' H' hq.2 s kp ⟨O,r'.len,r'.gh,r'.g0,r'.gn,r'.og,r'.cok,r'.fr,r'.al,r'.mp,r'.sl,⟨p.sep d [] v hq.1,r'.pn⟩,Nat.le_succ_of_le r'.np⟩
theorem kL {js:List Nat} {ρ ρ':DSt} (h:Kp (bor js ow) ρ ρ'):Kp ow ρ ρ':=fun j n=>h j fun z=>n (cO.mp z).1
theorem QE.bor (js:List Nat) (h:QE X (bor js ow) e ma):QE X ow e (mImm ma):=by
 obtain ⟨t,p,s⟩:=h
 refine ⟨_,p,fun C G ρ σ H pd q Q r hm k=>?_⟩
 obtain ⟨O,r⟩:=r
 refine s _ _ ρ σ H pd _ _ ⟨_,r.enter js⟩ hm fun d ρ' v G' H' hq s kp r' p=>?_
 obtain ⟨O',r'⟩:=r'
 obtain ⟨r2,s2,ts⟩:=r.leave r' kp
 exact k d ρ' v _ H' hq.2 s2 (kL kp) ⟨_,r2⟩ (p.imms ts d v hq.1)
theorem QF.bor (js:List Nat) (h:QF X (bor js ow) e ma):QF X ow e ma:=by
 obtain ⟨t,p,s⟩:=h
 refine ⟨_,p,fun C G ρ σ H pd q Q r hm k=>?_⟩
 obtain ⟨O,r⟩:=r
 refine s _ _ ρ σ H pd _ _ ⟨_,r.enter js⟩ hm fun d ρ' v G' H' hq s kp r'=>?_
 obtain ⟨O',r'⟩:=r'
 obtain ⟨r2,s2,ts⟩:=r.leave r' kp
 exact k d ρ' v _ H' hq s2 (kL kp) ⟨_,r2⟩
theorem QT.bor (js:List Nat) (h:QT X (bor js ow) e mt):QT X ow e mt:=by
 obtain ⟨t,p,s⟩:=h
 refine ⟨_,p,fun C G ρ σ H pd q Q r hm k=>?_⟩
 obtain ⟨O,r⟩:=r
 refine s _ _ ρ σ H pd _ _ ⟨_,r.enter js⟩ hm fun d ρ' G' H' hq s kp r'=>?_
 obtain ⟨O',r'⟩:=r'
 obtain ⟨r2,s2,ts⟩:=r.leave r' kp
 exact k d ρ' _ H' hq s2 (kL kp) ⟨_,r2⟩
def pw:MA:=fun ρ q=>q [] ρ
def fv (m:ME) (r:MA):MA:=fun ρ q=>m ρ fun d ρ1=>r ρ1 fun ds ρ2=>q (d :: ds) ρ2
variable {mr:MA} {es:List Expr}
theorem af:QA X ow [] pw:=⟨_,bI,fun C G ρ σ H pd q Q r h k=>k [] ρ [] G H h (az.refl _) Kp.refl r bp rfl⟩
theorem aa (ha:QE X ow e ma) (hr:QA X ow es mr) (hs:starEach (e :: es) X.env='n' :: starEach es X.env:=by rfl):QA X ow (e :: es) (fv ma mr):=by
 obtain ⟨t,p,s⟩:=ha; obtain ⟨t2,p2,s2⟩:=hr
 refine ⟨_,aX p p2 hs,fun C G ρ σ H pd q Q r hm k=>?_⟩
 refine s C G ρ σ H pd _ _ r hm fun d ρ' v G' H' hq z kp r' p=>?_
 refine s2 C G' ρ' σ H' pd _ _ r' hq fun ds ρ2 vs G2 H2 hq2 z2 kp2 r2 p2 hl=>?_
 exact k (d :: ds) ρ2 (v :: vs) G2 H2 hq2 (z.trans z2) (kp.trans kp2) r2 (bf (Rep.mono z2 _ _ p) p2) (by simp [hl])
def mTup (m:MA):ME:=fun ρ q=>m ρ fun ds ρ'=>q (.tup ds) ρ'
def mLst (m:MA):ME:=fun ρ q=>m ρ fun ds ρ'=>q (.lst ds) ρ'
def mLstI (m:MA):ME:=fun ρ q=>m ρ fun ds ρ'=>imms ds=true∧q (.lst ds) ρ'
theorem b8 {n:Nat} (h:n≤1000):n≤sizeLine:=Nat.le_of_lt (bH h)
theorem aF {x1} (h:QA X ow es mr) (hl:es.length≤1000:=by decide):QE X ow (.Tuple es x1 pos) (mTup mr):=by
 obtain ⟨t,p,s⟩:=h
 refine ⟨_,mP p,fun C G ρ σ H pd q Q r hm k=>s C G ρ σ H pd _ _ r hm fun ds ρ' vs G' H' hq z kp r' p hn=>⟨b8 'a',fun a ha=>?_⟩⟩
 obtain ⟨O,r'⟩:=r'
 obtain ⟨r2,s2⟩:=r'.new ha (.tup vs)
 exact k _ ρ' _ _ _ hq (z.trans s2) kp ⟨O,r2⟩ (gl ao (Reps.mono s2 _ _ p))
theorem av (h:QA X ow es mr) (hl:es.length≤1000:=by decide):QE X ow (.List es pos) (mLst mr):=by
 obtain ⟨t,p,s⟩:=h
 refine ⟨_,j7 p,fun C G ρ σ H pd q Q r hm k=>s C G ρ σ H pd _ _ r hm fun ds ρ' vs G' H' hq z kp r' p hn=>⟨b8 'a',fun a ha=>?_⟩⟩
 obtain ⟨O,r'⟩:=r'
 obtain ⟨r2,s2⟩:=r'.new ha (.lst vs)
 exact k _ ρ' _ _ _ hq (z.trans s2) kp ⟨O,r2⟩ (fK ao (Reps.mono s2 _ _ p))
theorem fA (h:QA X ow es mr) (hl:es.length≤1000:=by decide):QF X ow (.List es pos) (mLstI mr):=by
 obtain ⟨t,p,s⟩:=h
 refine ⟨_,j7 p,fun C G ρ σ H pd q Q r hm k=>s C G ρ σ H pd _ _ r hm fun ds ρ' vs G' H' hq z kp r' p hn=>⟨b8 'a',fun a ha=>?_⟩⟩
 obtain ⟨O,r'⟩:=r'
 exact k _ ρ' _ _ _ hq.2 z kp (r'.newL ha hq.1 p)
def fP (r:List V→Hp→VK→Prop) (f:List D→(D→Prop)→Prop):Prop:=∀ (G H:Hp) (xs:List V) (ds:List D) (q:D→Prop) (Q:VK),az G H→Reps G ds xs→f ds q→(∀ d v,q d→Rep G d v→Q v H)→r xs H Q
def mCB (f:List D→(D→Prop)→Prop) (m:MA):ME:=fun ρ q=>m ρ fun ds ρ'=>f ds fun d=>q d ρ'
theorem vG {r:List V→Hp→VK→Prop} {f:List D→(D→Prop)→Prop} {t:TA} {n:Nat} (hd:fP r f) (s:SA ow n t mr):SE ow (tCB r t) (mCB f mr):=fun C G ρ σ H pd q Q hr hm k =>
 s C G ρ σ H pd _ _ hr hm fun ds ρ' vs G' H' hq z kp r' p hn=>hd G' H' vs ds _ _ r'.gh p hq fun d v hq p=>k d ρ' v G' H' hq z kp r' p
variable {x:Str} {p':Pos}
theorem aE {id:String} {r:List V→Hp→VK→Prop} {f:List D→(D→Prop)→Prop} (hc:cj X (.builtin id) r) (hd:fP r f) (hg:Gl X x) (hm:X.mg x=none) (hv:bootBuiltins x=some (.builtin id)) (ha:QA X ow (e :: es) mr) (hn:x ≠ "__name__":=by decide) (hdb:'d'=false:=by decide)
 (he:starEach (e :: es) X.env='n' :: starEach es X.env:=by rfl) (hpl:'m'.any (·.1)=false:=by rfl):QE X ow (.Call (.Name x p') (e :: es) [] pos) (mCB f mr):=by
 obtain ⟨t,p,s⟩:=ha
 exact ⟨_,eK hc hg hm hv p hn hdb he hpl,vG hd s⟩
theorem gQ {id:String} {r:List V→Hp→VK→Prop} {f:List D→(D→Prop)→Prop} (hc:cj X (.type id) r) (hd:fP r f) (hg:Gl X x) (hm:X.mg x=none) (hv:bootBuiltins x=some (.type id)) (ha:QA X ow (e :: es) mr) (hn:x ≠ "__name__":=by decide) (hdb:'d'=false:=by decide)
 (he:starEach (e :: es) X.env='n' :: starEach es X.env:=by rfl) (hpl:'m'.any (·.1)=false:=by rfl):QE X ow (.Call (.Name x p') (e :: es) [] pos) (mCB f mr):=by
 obtain ⟨t,p,s⟩:=ha
 exact ⟨_,e6 hc hg hm hv p hn hdb he hpl,vG hd s⟩
end
def fI (g:Int→Int→Int):D→D→(D→Prop)→Prop:=fun a b q=>match a,b with
 | .int i,.int j=>q (.int (g i j))
 | _,_=>False
def fIC (C:Int→Int→Prop) (g:Int→Int→Int):D→D→(D→Prop)→Prop:=fun a b q=>match a,b with
 | .int i,.int j=>C i j∧q (.int (g i j))
 | _,_=>False
def fB (g:Int→Int→Bool):D→D→(D→Prop)→Prop:=fun a b q=>match a,b with
 | .int i,.int j=>q (.bl (g i j))
 | _,_=>False
theorem dI {g:Int→Int→Int}:DOp (rI0 fun i j=>.int (g i j)) (fI g):=fun G H x y dx dy q Q s p1 p2 hf k=>by
 unfold fI at hf
 split at hf
 ·exact ⟨_,_,ay p1,ay p2,k _ _ hf (ba _)⟩
 ·exact hf.elim
theorem dIC {C:Int→Int→Prop} {g:Int→Int→Int}:DOp (rI C fun i j=>.int (g i j)) (fIC C g):=fun G H x y dx dy q Q s p1 p2 hf k=>by
 unfold fIC at hf
 split at hf
 ·exact ⟨_,_,ay p1,ay p2,hf.1,k _ _ hf.2 (ba _)⟩
 ·exact hf.elim
theorem dB {g:Int→Int→Bool}:DOp (rI0 fun i j=>.bl (g i j)) (fB g):=fun G H x y dx dy q Q s p1 p2 hf k=>by
 unfold fB at hf
 split at hf
 ·exact ⟨_,_,ay p1,ay p2,k _ _ hf (bN _)⟩
 ·exact hf.elim
def eqD (a b:D):Bool:=PyData.eqv (toP a) (toP b)
def okD (a:D):Bool:=SeqAt.shaped (toP a)
def fEq:D→D→(D→Prop)→Prop:=fun a b q=>match a,b with
 | .int i,.int j=>q (.bl (decide (i=j)))
 | a,b=>okD a=true∧okD b=true∧q (.bl (eqD a b))
def fNe:D→D→(D→Prop)→Prop:=fun a b q=>match a,b with
 | .int i,.int j=>q (.bl (!decide (i=j)))
 | a,b=>okD a=true∧okD b=true∧q (.bl (!eqD a b))
theorem oq (i j:Int):eqD (.int i) (.int j)=decide (i=j):=by
 unfold eqD; rw [toP,toP,PyData.eqv]; first | rfl | (rw [Bool.beq_eq_decide_eq])
theorem iz (i:Int):okD (.int i)=true:=by unfold okD; rw [toP]; rfl
theorem dEq:DOp rEqD fEq:=fun G H x y dx dy q Q s p1 p2 hf k=>by
 have main:okD dx=true∧okD dy=true∧q (.bl (eqD dx dy)):=by
  unfold fEq at hf
  split at hf
  ·exact ⟨iz _,iz _,by rw [oq]; exact hf⟩
  ·exact hf
 exact ⟨dx,dy,Rep.mono s _ _ p1,Rep.mono s _ _ p2,main.1,main.2.1,k _ _ main.2.2 (bN _)⟩
theorem dNe:DOp rNeD fNe:=fun G H x y dx dy q Q s p1 p2 hf k=>by
 have main:okD dx=true∧okD dy=true∧q (.bl (!eqD dx dy)):=by
  unfold fNe at hf
  split at hf
  ·exact ⟨iz _,iz _,by rw [oq]; exact hf⟩
  ·exact hf
 exact ⟨dx,dy,Rep.mono s _ _ p1,Rep.mono s _ _ p2,main.1,main.2.1,k _ _ main.2.2 (bN _)⟩
def su:D→Bool
 | .non=>true
 | _=>false
theorem gY {G:Hp} {d:D} {v:V} (h:Rep G d v):decide (v = .non)=su d:=by
 cases d <;> rw [Rep] at h
 case non=>subst h; rfl
 case tup=>obtain ⟨a,xs,rfl,_⟩:=h; rfl
 case lst=>obtain ⟨a,xs,rfl,_⟩:=h; rfl
 case dct=>obtain ⟨a,xs,rfl,_⟩:=h; rfl
 case dic=>obtain ⟨a,xs,rfl,_⟩:=h; rfl
 case scr=>obtain ⟨a,rfl,_⟩:=h; rfl
 case ext=>obtain ⟨a,H0,rfl,_⟩:=h; rfl
 all_goals subst h; rfl
def fIsN:D→D→(D→Prop)→Prop:=fun a b q=>match b with
 | .non=>q (.bl (su a))
 | _=>False
def vD:D→D→(D→Prop)→Prop:=fun a b q=>match b with
 | .non=>q (.bl (!su a))
 | _=>False
theorem dIsN:DOp (fun x y H Q=>y = .non∧Q (.bl (decide (x = .non))) H) fIsN:=fun G H x y dx dy q Q s p1 p2 hf k=>by
 unfold fIsN at hf
 split at hf
 ·rw [Rep] at p2; exact ⟨p2,by rw [gY p1]; exact k _ _ hf (bN _)⟩
 ·exact hf.elim
theorem dNotN:DOp (fun x y H Q=>y = .non∧Q (.bl (!decide (x = .non))) H) vD:=fun G H x y dx dy q Q s p1 p2 hf k=>by
 unfold vD at hf
 split at hf
 ·rw [Rep] at p2; exact ⟨p2,by rw [gY p1]; exact k _ _ hf (bN _)⟩
 ·exact hf.elim
def fIsB:D→D→(D→Prop)→Prop:=fun a b q=>match a,b with
 | .bl x,.bl y=>q (.bl (x == y))
 | _,_=>False
def dD:D→Bool
 | .non=>true
 | .bl _=>true
 | .int _=>true
 | .str _=>true
 | _=>false
def eqF:D→D→Bool
 | .non,.non=>true
 | .bl a,.bl b=>a == b
 | .bl a,.int b=>(if a then 1 else 0) == b
 | .int a,.bl b=>a == (if b then 1 else 0)
 | .int a,.int b=>a == b
 | .str a,.str b=>a == b
 | _,_=>false
def toV:D→V
 | .non=>.non
 | .bl b=>.bl b
 | .int i=>.int i
 | .str x=>.str x
 | _=>.non
theorem di {G:Hp} {d:D} {v:V} (h:Rep G d v) (f:dD d=true):v=toV d:=by
 cases d <;> first | (rw [Rep] at h; exact h) | cases f
theorem uE:∀ {a b:D},dD a=true→dD b=true→eqV (toV a) (toV b)=eqF a b:=by
 intro a b f g
 cases a <;> cases b <;> first | rfl | exact absurd f Bool.false_ne_true | exact absurd g Bool.false_ne_true
theorem e8 {d:D} (f:dD d=true):fu (toV d)=true:=by
 cases d <;> first | rfl | cases f
theorem dX {G:Hp}:∀ {ds:List D} {xs:List V},Reps G ds xs→ds.all dD=true→xs=ds.map toV
 | [],xs,h,_=>by rw [Reps] at h; subst h; rfl
 | d :: ds,xs,h,f=>by
  rw [Reps] at h
  obtain ⟨v,vs,rfl,h1,h2⟩:=h
  rw [List.all_cons,Bool.and_eq_true] at f
  rw [di h1 f.1,dX h2 f.2]; rfl
def inD (a:D) (ds:List D):Bool:=ds.any fun y=>eqF y a
theorem ik {a:D} (f:dD a=true):∀ {ds:List D},ds.all dD=true→inV (toV a) (ds.map toV)=inD a ds
 | [],_=>rfl
 | d :: ds,g=>by
  rw [List.all_cons,Bool.and_eq_true] at g
  have:=ik f g.2
  unfold inV inD at *
  rw [List.map_cons,List.any_cons,List.any_cons,uE g.1 f,this]
theorem fJ:∀ {ds:List D},ds.all dD=true→(ds.map toV).all fu=true
 | [],_=>rfl
 | d :: ds,g=>by
  rw [List.all_cons,Bool.and_eq_true] at g
  rw [List.map_cons,List.all_cons,e8 g.1,fJ g.2]; rfl
def fIn (neg:Bool):D→D→(D→Prop)→Prop:=fun a b q=>match b with
 | .lst ds=>dD a=true∧ds.all dD=true∧q (.bl (if neg then !inD a ds else inD a ds))
 | .tup ds=>dD a=true∧ds.all dD=true∧q (.bl (if neg then !inD a ds else inD a ds))
 | _=>False
theorem dIn {K:PySem.W.Frag} {neg:Bool}:DOp (rIn K neg) (fIn neg):=fun G H x y dx dy q Q s p1 p2 hf k=>by
 unfold fIn at hf
 split at hf
 ·rw [Rep] at p2
  obtain ⟨a,xs,rfl,h1,h2⟩:=p2
  obtain ⟨f1,f2,hq⟩:=hf
  refine ⟨a,xs,rfl,.inl (SqL.of (s _ _ h1)),?_,?_,?_⟩
  ·rw [di p1 f1]; exact e8 f1
  ·rw [dX h2 f2]; exact fJ f2
  ·rw [di p1 f1,dX h2 f2,ik f1 f2]; exact k _ _ hq (bN _)
 ·rw [Rep] at p2
  obtain ⟨a,xs,rfl,h1,h2⟩:=p2
  obtain ⟨f1,f2,hq⟩:=hf
  refine ⟨a,xs,rfl,.inr (SqT.of (s _ _ h1)),?_,?_,?_⟩
  ·rw [di p1 f1]; exact e8 f1
  ·rw [dX h2 f2]; exact fJ f2
  ·rw [di p1 f1,dX h2 f2,ik f1 f2]; exact k _ _ hq (bN _)
 ·exact hf.elim
def atD (ds:List D) (i:Int) (q:D→Prop):Prop:=match atI ds i with
 | some d=>q d
 | none=>False
def fIx (K:PySem.W.Frag):D→D→(D→Prop)→Prop:=fun a b q=>match a,b with
 | .lst ds,.int i=>atD ds i q
 | .tup ds,.int i=>atD ds i q
 | .scr φ ns,.int i=>(∀ a H,φ a→SqL K H a (ns.map V.int))∧match atI ns i with
  | some n=>q (.int n)
  | none=>False
 | _,_=>False
theorem c0 {G:Hp}:∀ {ds:List D} {xs:List V} {j:Nat} {d:D},Reps G ds xs→ds[j]? = some d→∃ v,xs[j]? = some v∧Rep G d v
 | [],_,_,_,_,e=>by simp at e
 | d :: ds,xs,0,e,h,q=>by rw [Reps] at h; obtain ⟨v,vs,rfl,h1,_⟩:=h; simp at q; subst q; exact ⟨v,rfl,h1⟩
 | d :: ds,xs,j + 1,e,h,q=>by
  rw [Reps] at h
  obtain ⟨v,vs,rfl,_,h2⟩:=h
  obtain ⟨u,e1,e2⟩:=c0 (j:=j) h2 (by simpa using q)
  exact ⟨u,by simpa using e1,e2⟩
theorem lB {G:Hp} {ds:List D} {xs:List V} {i:Int} {d:D} (h:Reps G ds xs) (e:atI ds i=some d):∃ v,atI xs i=some v∧Rep G d v:=by
 unfold atI at *
 rw [h.length]
 cases q:ixN ds.length i with
 | none=>rw [q] at e; cases e
 | some j=>rw [q] at e; exact c0 h e
theorem uw {α β:Type} {f : α→β} {xs:List α} {i:Int} {x : α} (h:atI xs i=some x):atI (xs.map f) i=some (f x):=by
 unfold atI at *
 rw [List.length_map]
 cases q:ixN xs.length i with
 | none=>rw [q] at h; cases h
 | some j=>rw [q] at h; rw [show (Option.some j).bind _=(xs.map f)[j]? from rfl,List.getElem?_map,show xs[j]? = some x from h]; rfl
theorem dIx {K:PySem.W.Frag}:DOp (rIx K) (fIx K):=fun G H x y dx dy q Q s p1 p2 hf k=>by
 unfold fIx at hf
 split at hf
 ·rw [Rep] at p1
  obtain ⟨a,xs,rfl,h1,h2⟩:=p1
  unfold atD at hf
  split at hf
  ·rename_i e
   obtain ⟨v,e1,e2⟩:=lB h2 e
   exact .inl ⟨a,xs,_,v,rfl,ay p2,SqL.of (s _ _ h1),e1,k _ _ hf e2⟩
  ·exact hf.elim
 ·rw [Rep] at p1
  obtain ⟨a,xs,rfl,h1,h2⟩:=p1
  unfold atD at hf
  split at hf
  ·rename_i e
   obtain ⟨v,e1,e2⟩:=lB h2 e
   exact .inr (.inl ⟨a,xs,_,v,rfl,ay p2,SqT.of (s _ _ h1),e1,k _ _ hf e2⟩)
  ·exact hf.elim
 ·rw [Rep] at p1
  obtain ⟨a,rfl,h1⟩:=p1
  obtain ⟨hk,hf⟩:=hf
  split at hf
  ·rename_i e
   refine .inl ⟨a,_,_,_,rfl,ay p2,?_,uw e,k _ _ hf (ba _)⟩
   rcases h1 with ⟨o,h1⟩ | h1
   ·exact .inl (.inr ⟨o,s _ _ h1⟩)
   ·exact hk a H h1
  ·exact hf.elim
 ·exact hf.elim
def fLen (K:PySem.W.Frag):List D→(D→Prop)→Prop:=fun ds q=>match ds with
 | [.lst ds]=>q (.int ds.length)
 | [.tup ds]=>q (.int ds.length)
 | [.scr φ ns]=>(∀ a H,φ a→SqL K H a (ns.map V.int))∧q (.int ns.length)
 | _=>False
theorem a8 {G:Hp} {ds:List D} {v:V} (h:Rep G (.lst ds) v):∃ a xs,v = .ref a∧G a=some 'p'∧Reps G ds xs:=by rw [Rep] at h; exact h
theorem el {G:Hp} {ds:List D} {v:V} (h:Rep G (.tup ds) v):∃ a xs,v = .ref a∧G a=some (.tup xs)∧Reps G ds xs:=by rw [Rep] at h; exact h
theorem nF {G:Hp} {φ:Addr→Prop} {ns:List Int} {v:V} (h:Rep G (.scr φ ns) v):∃ a,v = .ref a∧((∃ o,G a=some (.frz o (.lst (ns.map V.int))))∨φ a):=by rw [Rep] at h; exact h
theorem bG {G:Hp} {d:D} {xs:List V} (h:Reps G [d] xs):∃ v,xs=[v]∧Rep G d v:=by
 rw [Reps] at h; obtain ⟨v,vs,rfl,h1,h2⟩:=h; rw [Reps] at h2; subst h2; exact ⟨v,rfl,h1⟩
theorem dh {G:Hp} {d e:D} {xs:List V} (h:Reps G [d,e] xs):∃ v u,xs=[v,u]∧Rep G d v∧Rep G e u:=by
 rw [Reps] at h; obtain ⟨v,vs,rfl,h1,h2⟩:=h; obtain ⟨u,rfl,h3⟩:=bG h2; exact ⟨v,u,rfl,h1,h3⟩
theorem cP {K:PySem.W.Frag}:fP (fun xs H Q=>∃ p ys,xs=[.ref p]∧(SqL K H p ys∨SqT K H p ys)∧Q (.int ys.length) H) (fLen K):=fun G H xs ds q Q s p hf k=>by
 unfold fLen at hf
 split at hf
 ·obtain ⟨v,rfl,p1⟩:=bG p
  obtain ⟨a,xs,rfl,h1,h2⟩:=a8 p1
  exact ⟨a,xs,rfl,.inl (SqL.of (s _ _ h1)),by rw [h2.length]; exact k _ _ hf (ba _)⟩
 ·obtain ⟨v,rfl,p1⟩:=bG p
  obtain ⟨a,xs,rfl,h1,h2⟩:=el p1
  exact ⟨a,xs,rfl,.inr (SqT.of (s _ _ h1)),by rw [h2.length]; exact k _ _ hf (ba _)⟩
 ·obtain ⟨v,rfl,p1⟩:=bG p
  obtain ⟨a,rfl,h1⟩:=nF p1
  rename_i φ ns
  have hS:SqL K H a (ns.map V.int):=by
   rcases h1 with ⟨o,h1⟩ | h1
   ·exact .inl (.inr ⟨o,s _ _ h1⟩)
   ·exact hf.1 a H h1
  exact ⟨a,_,rfl,.inl hS,by rw [List.length_map]; exact k _ _ hf.2 (ba _)⟩
 ·exact hf.elim
def fMax:List D→(D→Prop)→Prop:=fun ds q=>match ds with
 | [.int i,.int j]=>q (.int (if j > i then j else i))
 | _=>False
def fMin:List D→(D→Prop)→Prop:=fun ds q=>match ds with
 | [.int i,.int j]=>q (.int (if j<i then j else i))
 | _=>False
theorem dMax:fP (fun xs H Q=>∃ i j,xs=[.int i,.int j]∧Q (.int (if j > i then j else i)) H) fMax:=fun G H xs ds q Q s p hf k=>by
 unfold fMax at hf
 split at hf
 ·obtain ⟨v,u,rfl,p1,p2⟩:=dh p
  rw [ay p1,ay p2]
  exact ⟨_,_,rfl,k _ _ hf (ba _)⟩
 ·exact hf.elim
theorem dMin:fP (fun xs H Q=>∃ i j,xs=[.int i,.int j]∧Q (.int (if j<i then j else i)) H) fMin:=fun G H xs ds q Q s p hf k=>by
 unfold fMin at hf
 split at hf
 ·obtain ⟨v,u,rfl,p1,p2⟩:=dh p
  rw [ay p1,ay p2]
  exact ⟨_,_,rfl,k _ _ hf (ba _)⟩
 ·exact hf.elim
def vB:List D→(D→Prop)→Prop:=fun ds q=>match ds with
 | [.int i]=>q (.int i)
 | [.bl k]=>q (.int (if k then 1 else 0))
 | _=>False
theorem ql:fP (fun xs H Q=>(∃ i,xs=[.int i]∧Q (.int i) H)∨∃ k,xs=[.bl k]∧Q (.int (if k then 1 else 0)) H) vB:=fun G H xs ds q Q s p hf k=>by
 unfold vB at hf
 split at hf
 ·obtain ⟨v,rfl,p1⟩:=bG p
  rw [ay p1]
  exact .inl ⟨_,rfl,k _ _ hf (ba _)⟩
 ·obtain ⟨v,rfl,p1⟩:=bG p
  rw [bP p1]
  exact .inr ⟨_,rfl,k _ _ hf (ba _)⟩
 ·exact hf.elim
def fAbs:List D→(D→Prop)→Prop:=fun ds q=>match ds with
 | [.int i]=>q (.int (if i<0 then -i else i))
 | _=>False
theorem dAbs:fP (fun xs H Q=>∃ i,xs=[.int i]∧Q (.int (if i<0 then -i else i)) H) fAbs:=fun G H xs ds q Q s p hf k=>by
 unfold fAbs at hf
 split at hf
 ·obtain ⟨v,rfl,p1⟩:=bG p
  rw [ay p1]
  exact ⟨_,rfl,k _ _ hf (ba _)⟩
 ·exact hf.elim
section
variable {X:Cx} {ow:List Bool} {a b c e:Expr} {ma mb mc:ME} {pos:Pos} {mr:MA} {es:List Expr}
def mNeg (m:ME):ME:=fun ρ q=>m ρ fun d ρ'=>match d with
 | .int i=>q (.int (-i)) ρ'
 | _=>False
theorem jZ (h:QE X ow a ma):QE X ow (.UnaryOp .USub a pos) (mNeg ma):=by
 obtain ⟨t,p,s⟩:=h
 refine ⟨_,pe_un ye p,fun C G ρ σ H pd q Q r hm k=>s C G ρ σ H pd _ _ r hm fun d ρ' v G' H' hq s kp r' p=>?_⟩
 cases d with
 | int i=>exact ⟨i,ay p,k _ ρ' _ G' H' hq s kp r' (ba _)⟩
 | _=>exact hq.elim
def mIsT (T:String) (m:ME):ME:=fun ρ q=>m ρ fun d ρ'=>match pe d T with
 | some b=>q (.bl b) ρ'
 | none=>False
theorem cW {T:String} {x y:Str} {p1 p2:Pos} (hg:Gl X x) (hm:X.mg x=none) (hv:bootBuiltins x=some (.builtin "isinstance")) (ha:QE X ow a ma) (ht:PE X (.Name y p2) (tC (.ty T)))
 (hn:x ≠ "__name__":=by decide) (hdb:'d'=false:=by decide)
 (hs:starEach [.Name y p2] X.env=[(false,eval (.Name y p2) X.env)]:=by rfl)
 (he:starEach [a,.Name y p2] X.env=(false,eval a X.env) :: starEach [.Name y p2] X.env:=by rfl) (hpl:(backTo pos (starEach [.Name y p2] X.env)).any (·.1)=false:=by rfl) :
 QE X ow (.Call (.Name x p1) [a,.Name y p2] [] pos) (mIsT T ma):=by
 obtain ⟨t,p,s⟩:=ha
 refine ⟨_,eK lF hg hm hv (aX p (aX ht bI hs) he) hn hdb he hpl,fun C G ρ σ H pd q Q r hm k=>s C G ρ σ H pd _ _ r hm fun d ρ' v G' H' hq s kp r' p=>?_⟩
 cases e:pe d T with
 | none=>rw [e] at hq; exact hq.elim
 | some b=>rw [e] at hq; exact ⟨v,T,d,b,rfl,Rep.mono r'.gh _ _ p,e,k _ ρ' _ G' H' hq s kp r' (bN _)⟩
def md (f g:D→D→(D→Prop)→Prop) (ma mb mc:ME):ME:=fun ρ q=>ma ρ fun x ρ1=>mb ρ1 fun y ρ2=>f x y fun z=>match z with
 | .bl k=>if k=true then mc ρ2 fun w ρ3=>g y w fun d=>q d ρ3 else q (.bl false) ρ2
 | _=>False
theorem k_ {r r':R2} {f g:D→D→(D→Prop)→Prop} {ta tb tc:TE} (hf:DOp r f) (hg:DOp r' g) (ha:SE ow ta ma) (hb:SE ow tb mb) (hc:SE ow tc mc):SE ow (nP r r' ta tb tc) (md f g ma mb mc):=fun C G ρ σ H pd q Q hr h k=>by
 refine gO (Q:=fun x y H2=>r x y H2 _) ha hb hr h fun dx dy ρ' x y G' H' h1 s kp r1 p1 p2=>?_
 refine hf G' H' x y dx dy _ _ r1.gh p1 p2 h1 fun d v hq p=>?_
 cases d with
 | bl b =>
  refine ⟨b,bP p,?_⟩
  change (if b=true then _ else _) at hq
  cases b with
  | true =>
   rw [if_pos rfl] at hq ⊢
   refine hc C G' ρ' σ H' pd _ _ r1 hq fun dw ρ3 w G3 H3 h3 s3 kp3 r3 p3=>?_
   exact hg G3 H3 y w dy dw _ _ r3.gh (Rep.mono s3 _ _ p2) p3 h3 fun d v hq p=>k d ρ3 v G3 H3 hq (s.trans s3) (kp.trans kp3) r3 p
  | false=>rw [if_neg 'k'] at hq ⊢; exact k _ ρ' _ G' H' hq s kp r1 (bN _)
 | _=>exact hq.elim
theorem kX {op op':CmpOp} {r r':R2} {f g:D→D→(D→Prop)→Prop} (ho:OpR X (compareOp op) r) (ho':OpR X (compareOp op') r') (hf:DOp r f) (hg:DOp r' g) (ha:QE X ow a ma) (hb:QE X ow b mb) (hc:QE X ow c mc)
 (hm:lastMarks [op,op'] [b,c]=false:=by with_unfolding_all rfl):QE X ow (.Compare a [op,op'] [b,c] pos) (md f g ma mb mc):=by
 obtain ⟨ta,pa,sa⟩:=ha; obtain ⟨tb,pb,sb⟩:=hb; obtain ⟨tc,pc,sc⟩:=hc
 exact ⟨_,sB ho ho' pa pb pc hm,k_ hf hg sa sb sc⟩
theorem qy {op op':CmpOp} {r r':R2} {f g:D→D→(D→Prop)→Prop} (ho:OpR X (compareOp op) r) (ho':OpR X (compareOp op') r') (hf:DOp r f) (hg:DOp r' g) (ha:QE X ow a ma) (hb:QE X ow b mb) (hc:QE X ow c mc)
 (hm:lastMarks [op,op'] [b,c]=false:=by with_unfolding_all rfl):QT X ow (.Compare a [op,op'] [b,c] pos) (mB (md f g ma mb mc)):=by
 obtain ⟨ta,pa,sa⟩:=ha; obtain ⟨tb,pb,sb⟩:=hb; obtain ⟨tc,pc,sc⟩:=hc
 exact ⟨_,tD ho ho' pa pb pc hm,sY (k_ hf hg sa sb sc)⟩
def iS (r:List V→Hp→VK→Prop) (f:List D→(List D→Prop)→Prop):Prop:=∀ (G H:Hp) (xs:List V) (ds:List D) (q:List D→Prop) (Q:VK),az G H→Reps G ds xs→f ds q →
 (∀ es ys p,q es→Reps G es ys→H p=none→Q (.ref p) (upd H p (.lst ys)))→r xs H Q
def mNew (f:List D→(List D→Prop)→Prop) (m:MA):ME:=fun ρ q=>m ρ fun ds ρ'=>f ds fun es=>imms es=true∧q (.lst es) ρ'
def vq (f:List D→(List D→Prop)→Prop) (m:MA):ME:=fun ρ q=>m ρ fun ds ρ'=>f ds fun es=>q (.lst es) ρ'
theorem sQ {r:List V→Hp→VK→Prop} {f:List D→(List D→Prop)→Prop} {t:TA} {n:Nat} (hd:iS r f) (s:SA ow n t mr):SF ow (fun σ H Q=>t σ H fun xs H1=>r xs H1 Q) (mNew f mr):=fun C G ρ σ H pd q Q hr hm k =>
 s C G ρ σ H pd _ _ hr hm fun ds ρ' vs G' H' hq z kp r' p hn=>hd G' H' vs ds _ _ r'.gh p hq fun es ys a hq p ha=>by
  obtain ⟨O,r'⟩:=r'
  exact k _ ρ' _ _ _ hq.2 z kp (r'.newL ha hq.1 p)
theorem xE {r:List V→Hp→VK→Prop} {f:List D→(List D→Prop)→Prop} {t:TA} {n:Nat} (hd:iS r f) (s:SA ow n t mr):SE ow (fun σ H Q=>t σ H fun xs H1=>r xs H1 Q) (vq f mr):=fun C G ρ σ H pd q Q hr hm k =>
 s C G ρ σ H pd _ _ hr hm fun ds ρ' vs G' H' hq z kp r' p hn=>hd G' H' vs ds _ _ r'.gh p hq fun es ys a hq p ha=>by
  obtain ⟨O,r'⟩:=r'
  obtain ⟨r2,s2⟩:=r'.new ha (.lst ys)
  exact k _ ρ' _ _ _ hq (z.trans s2) kp ⟨O,r2⟩ (fK ao (Reps.mono s2 _ _ p))
theorem rF {ta tb:TE} (ha:SE ow ta ma) (hb:SE ow tb mb):SA ow 2 (fun σ H Q=>ta σ H fun x H1=>tb σ H1 fun y H2=>Q [x,y] H2) (fv ma (fv mb pw)):=fun C G ρ σ H pd q Q hr hm k =>
 gO (Q:=fun x y H2=>Q [x,y] H2) ha hb hr hm fun dx dy ρ' x y G' H' h1 s kp r1 p1 p2=>k [dx,dy] ρ' [x,y] G' H' h1 s kp r1 (bf p1 (bf p2 bp)) rfl
theorem dU {G:Hp}:∀ {ds es:List D} {xs ys:List V},Reps G ds xs→Reps G es ys→Reps G (ds++es) (xs++ys)
 | [],es,xs,ys,h,h2=>by rw [Reps] at h; subst h; exact h2
 | d :: ds,es,xs,ys,h,h2=>by rw [Reps] at h; obtain ⟨v,vs,rfl,h1,h3⟩:=h; exact bf h1 (dU h3 h2)
theorem jK {G:Hp}:∀ {ds:List D} {xs:List V} (n:Nat),Reps G ds xs→Reps G (ds.drop n) (xs.drop n)
 | [],xs,n,h=>by rw [Reps] at h; subst h; simp; exact bp
 | d :: ds,xs,0,h=>h
 | d :: ds,xs,n + 1,h=>by rw [Reps] at h; obtain ⟨v,vs,rfl,h1,h3⟩:=h; exact jK n h3
theorem jA {G:Hp}:∀ {ds:List D} {xs:List V} (n:Nat),Reps G ds xs→Reps G (ds.take n) (xs.take n)
 | [],xs,n,h=>by rw [Reps] at h; subst h; simp; exact bp
 | d :: ds,xs,0,h=>by simp; exact bp
 | d :: ds,xs,n + 1,h=>by rw [Reps] at h; obtain ⟨v,vs,rfl,h1,h3⟩:=h; exact bf h1 (jA n h3)
theorem iV {G:Hp} {ds:List D} {xs:List V} (h:Reps G ds xs):∀ n:Nat,Reps G (List.replicate n ds).flatten (List.replicate n xs).flatten
 | 0=>by simp; exact bp
 | n + 1=>by simp [List.replicate_succ]; exact dU h (iV h n)
def fCat:List D→(List D→Prop)→Prop:=fun ds q=>match ds with
 | [.lst xs,.lst ys]=>xs.length + ys.length≤1000∧q (xs++ys)
 | _=>False
theorem gb:iS (fun xs H Q=>∃ x y,xs=[x,y]∧rCat x y H Q) fCat:=fun G H xs ds q Q s p hf k=>by
 unfold fCat at hf
 split at hf
 ·obtain ⟨v,u,rfl,p1,p2⟩:=dh p
  rw [Rep] at p1 p2
  obtain ⟨a1,xs,rfl,h1,h2⟩:=p1
  obtain ⟨a2,ys,rfl,h3,h4⟩:=p2
  exact ⟨_,_,rfl,a1,a2,xs,ys,rfl,rfl,s _ _ h1,s _ _ h3,b8 (by rw [h2.length,h4.length]; exact hf.1),fun p hp=>k _ _ p hf.2 (dU h2 h4) hp⟩
 ·exact hf.elim
def fRep:List D→(List D→Prop)→Prop:=fun ds q=>match ds with
 | [.lst xs,.int n]=>(-(2 ^ 63)≤n∧n<2 ^ 63∧xs.length * n.toNat≤1000)∧q (List.replicate n.toNat xs).flatten
 | _=>False
theorem jb:iS (fun xs H Q=>∃ x y,xs=[x,y]∧rRep x y H Q) fRep:=fun G H xs ds q Q s p hf k=>by
 unfold fRep at hf
 split at hf
 ·obtain ⟨v,u,rfl,p1,p2⟩:=dh p
  obtain ⟨a1,xs,rfl,h1,h2⟩:=a8 p1
  rw [ay p2]
  exact ⟨_,_,rfl,a1,_,xs,rfl,rfl,s _ _ h1,hf.1.1,hf.1.2.1,b8 (by rw [h2.length]; exact hf.1.2.2),fun p hp=>k _ _ p hf.2 (iV h2 _) hp⟩
 ·exact hf.elim
def mMk (f:List D→(List D→Prop)→Prop) (ma mb:ME):ME:=mNew f (fv ma (fv mb pw))
def mMkS (f:List D→(List D→Prop)→Prop) (ma mb:ME):ME:=vq f (fv ma (fv mb pw))
def R2ok (r:R2):List V→Hp→VK→Prop:=fun xs H Q=>match xs with
 | [x,y]=>r x y H Q
 | _=>False
theorem iS.r2 {r:R2} {f:List D→(List D→Prop)→Prop} (h:iS (fun xs H Q=>∃ x y,xs=[x,y]∧r x y H Q) f):iS (R2ok r) f:=fun G H xs ds q Q s p hf k=>by
 obtain ⟨x,y,rfl,z⟩:=h G H xs ds q Q s p hf k
 exact z
theorem qf_mk {op:Operator} {r:R2} {f:List D→(List D→Prop)→Prop} (ho:OpR X (binaryOp op) r) (hd:iS (fun xs H Q=>∃ x y,xs=[x,y]∧r x y H Q) f) (ha:QE X ow a ma) (hb:QE X ow b mb):QF X ow (.BinOp a op b pos) (mMk f ma mb):=by
 obtain ⟨ta,pa,sa⟩:=ha; obtain ⟨tb,pb,sb⟩:=hb
 exact ⟨tOp r ta tb,lE ho pa pb,sQ (r:=R2ok r) hd.r2 (rF sa sb)⟩
theorem bL {op:Operator} {r:R2} {f:List D→(List D→Prop)→Prop} (ho:OpR X (binaryOp op) r) (hd:iS (fun xs H Q=>∃ x y,xs=[x,y]∧r x y H Q) f) (ha:QE X ow a ma) (hb:QE X ow b mb):QE X ow (.BinOp a op b pos) (mMkS f ma mb):=by
 obtain ⟨ta,pa,sa⟩:=ha; obtain ⟨tb,pb,sb⟩:=hb
 exact ⟨tOp r ta tb,lE ho pa pb,xE (r:=R2ok r) hd.r2 (rF sa sb)⟩
variable {x:Str} {p':Pos}
theorem qr {id:String} {r:List V→Hp→VK→Prop} {f:List D→(List D→Prop)→Prop} (hc:cj X (.builtin id) r) (hd:iS r f) (hg:Gl X x) (hm:X.mg x=none) (hv:bootBuiltins x=some (.builtin id)) (ha:QA X ow (e :: es) mr) (hn:x ≠ "__name__":=by decide) (hdb:'d'=false:=by decide)
 (he:starEach (e :: es) X.env='n' :: starEach es X.env:=by rfl) (hpl:'m'.any (·.1)=false:=by rfl):QF X ow (.Call (.Name x p') (e :: es) [] pos) (mNew f mr):=by
 obtain ⟨t,p,s⟩:=ha
 exact ⟨_,eK hc hg hm hv p hn hdb he hpl,sQ hd s⟩
def eE (xs:List D) (lo hi:Option Int):List D:=(xs.drop (HT.sIx xs.length 0 lo)).take (HT.sIx xs.length xs.length hi - HT.sIx xs.length 0 lo)
theorem rq {G:Hp} {ds:List D} {xs:List V} (h:Reps G ds xs) (lo hi:Option Int):Reps G (eE ds lo hi) (mZ xs lo hi):=by
 unfold eE mZ
 rw [h.length]
 exact jA _ (jK _ h)
abbrev MO:=DSt→(Option Int→DSt→Prop)→Prop
def SO (ow:List Bool) (t:TO) (m:MO):Prop:=∀ (C:Ctx) (G:Hp) (ρ:DSt) (σ:St) (H:Hp) (pd:List (D×V)) (q:Option Int→DSt→Prop) (Q:Option Int→Hp→Prop),R C ow G ρ σ H pd→m ρ q →
 (∀ b ρ' G' H',q b ρ'→az G G'→Kp ow ρ ρ'→R C ow G' ρ' σ H' pd→Q b H')→t σ H Q
structure QO (X:Cx) (ow:List Bool) (e:Option Expr) (m:MO):Prop where
 ex:∃ t,PO X e t∧SO ow t m
def uG:MO:=fun ρ q=>q none ρ
def mPart (m:ME):MO:=fun ρ q=>m ρ fun d ρ'=>match d with
 | .int i=>q (some i) ρ'
 | _=>False
theorem f6:QO X ow none uG:=⟨_,uO,fun C G ρ σ H pd q Q r h k=>k none ρ G H h (az.refl _) Kp.refl r⟩
theorem fV (h:QE X ow e ma):QO X ow (some e) (mPart ma):=by
 obtain ⟨t,p,s⟩:=h
 refine ⟨_,uN p,fun C G ρ σ H pd q Q r hm k=>s C G ρ σ H pd _ _ r hm fun d ρ' v G' H' hq s kp r' p=>?_⟩
 cases d with
 | int i=>exact ⟨i,ay p,k _ ρ' G' H' hq s kp r'⟩
 | _=>exact hq.elim
def mSl (m:ME) (ml mh:MO):ME:=fun ρ q=>m ρ fun d ρ1=>ml ρ1 fun lo ρ2=>mh ρ2 fun hi ρ3=>match d with
 | .lst ds=>imms (eE ds lo hi)=true∧q (.lst (eE ds lo hi)) ρ3
 | _=>False
def mSlS (m:ME) (ml mh:MO):ME:=fun ρ q=>m ρ fun d ρ1=>ml ρ1 fun lo ρ2=>mh ρ2 fun hi ρ3=>match d with
 | .lst ds=>q (.lst (eE ds lo hi)) ρ3
 | _=>False
variable {lo hi:Option Expr} {ml mh:MO} {p2:Pos}
theorem eF (h:QE X ow e ma) (hl:QO X ow lo ml) (hh:QO X ow hi mh):QE X ow (.Subscript e (.Slice lo hi none p2) pos) (mSlS ma ml mh):=by
 obtain ⟨t,p,s⟩:=h; obtain ⟨t1,p1,s1⟩:=hl; obtain ⟨t2,p2,s2⟩:=hh
 refine ⟨_,qW t_ p p1 p2,fun C G ρ σ H pd q Q r hm k=>s C G ρ σ H pd _ _ r hm fun d ρ' v G' H' hq z kp r' p=>?_⟩
 refine s1 C G' ρ' σ H' pd _ _ r' hq fun l ρ1 G1 H1 hq1 z1 kp1 r1=>s2 C G1 ρ1 σ H1 pd _ _ r1 hq1 fun u ρ2 G2 H2 hq2 z2 kp2 r2=>?_
 cases d with
 | lst ds =>
  obtain ⟨a,xs,rfl,h1,h2⟩:=a8 (Rep.mono (z1.trans z2) _ _ p)
  refine ⟨a,xs,rfl,SqL.of (r2.gh _ _ h1),fun b hb=>?_⟩
  obtain ⟨O,r2⟩:=r2
  obtain ⟨r3,z3⟩:=r2.new hb (.lst (mZ xs l u))
  exact k _ ρ2 _ _ _ hq2 (z.trans (z1.trans (z2.trans z3))) (kp.trans (kp1.trans kp2)) ⟨O,r3⟩ (fK ao (Reps.mono z3 _ _ (rq h2 _ _)))
 | _=>exact hq2.elim
end
def b7 (f:Nat→Option Nat) (O:Own):Own:=fun a=>match O a with
 | some m=>(f m.1).map fun l=>(l,m.2)
 | none=>none
theorem oS {f:Nat→Option Nat} {O:Own} {a:Addr} {l l':Nat} {π:List Nat} (h:O a=some (l,π)) (hf:f l=some l'):b7 f O a=some (l',π):=by unfold b7; rw [h]; show (f l).map _=_; rw [hf]; rfl
theorem eY {f:Nat→Option Nat} {O:Own} {a:Addr} {l':Nat} {π:List Nat} (h:b7 f O a=some (l',π)):∃ l,O a=some (l,π)∧f l=some l':=by
 unfold b7 at h
 cases e:O a with
 | none=>rw [e] at h; cases h
 | some m =>
  rw [e] at h
  change (f m.1).map _=_ at h
  cases e2:f m.1 with
  | none=>rw [e2] at h; cases h
  | some l=>rw [e2] at h; cases h; exact ⟨m.1,rfl,e2⟩
theorem p9 {f:Nat→Option Nat} {O:Own} {a:Addr} {l:Nat} {π:List Nat} (h:O a=some (l,π)) (hf:f l=none):b7 f O a=none:=by unfold b7; rw [h]; show (f l).map _=_; rw [hf]; rfl
def msV:List Bool→List V→List (Option V)
 | b :: bs,v :: vs=>(if b=true then some v else none) :: msV bs vs
 | _,_=>[]
theorem kf:∀ {mu:List Bool} {vs:List V} {k:Nat} {v:V},(msV mu vs)[k]? = some (some v)→mu[k]? = some true∧vs[k]? = some v
 | [],vs,k,v,h=>by simp [msV] at h
 | b :: bs,[],k,v,h=>by simp [msV] at h
 | b :: bs,u :: vs,0,v,h=>by
  simp only [msV,List.getElem?_cons_zero,Option.some.injEq] at h
  split at h
  ·rename_i c; cases h; subst c; exact ⟨rfl,rfl⟩
  ·cases h
 | b :: bs,u :: vs,k + 1,v,h=>by
  simp only [msV,List.getElem?_cons_succ] at h
  simpa using kf h
theorem km:∀ {mu:List Bool} {vs:List V} {k:Nat} {v:V},mu[k]? = some true→vs[k]? = some v→(msV mu vs)[k]? = some (some v)
 | [],vs,k,v,h,_=>by simp at h
 | b :: bs,[],k,v,_,h=>by simp at h
 | b :: bs,u :: vs,0,v,h,h2=>by simp at h h2; subst h; subst h2; simp [msV]
 | b :: bs,u :: vs,k + 1,v,h,h2=>by simp only [msV,List.getElem?_cons_succ]; exact km (by simpa using h) (by simpa using h2)
section
variable {C:Ctx} {ow mu:List Bool} {G:Hp} {ρ:DSt} {σ:St} {H:Hp} {pd:List (D×V)} {O:Own} {fin fbk:Nat→Option Nat}
theorem RO.into (ro:RO C ow G ρ σ H pd O) {ds:List D} {vs:List V} (hl:ds.length=vs.length)
 (hs:∀ (k:Nat) d,ds[k]? = some d→∃ v,vs[k]? = some v∧if mu[k]? = some true then ∃ l,Sep G H O l d [] v∧fin l=some (2 * k) else Rep G d v)
 (hc:∀ l l',fin l=some l'→∃ k,l'=2 * k∧mu[k]? = some true∧k<vs.length) :
 RO ⟨G,H,b7 fin O,msV mu vs,0⟩ mu G (ds.map some) (vs.map some) H [] (b7 fin O):=by
 refine ⟨by simp [hl],ro.gh,fun _ _ e=>e,fun _ _ e=>.inl e,?_,?_,fun _ _ e _=>e,fun _ e=>e,?_,?_,trivial,Nat.le_refl _⟩
 ·intro a m e
  obtain ⟨l',π⟩:=m
  obtain ⟨l,e1,e2⟩:=eY e
  obtain ⟨q1,q2,_⟩:=ro.og a _ e1
  exact ⟨q1,q2,.inr ⟨π,e⟩⟩
 ·intro a l' π e
  obtain ⟨l,e1,e2⟩:=eY e
  obtain ⟨k,rfl,h2,h3⟩:=hc _ _ e2
  exact .inl ⟨k,vs[k],rfl,km h2 (List.getElem?_eq_getElem h3)⟩
 ·intro k v e
  rw [List.getElem?_map,(kf e).2]; rfl
 ·intro k d e
  rw [List.getElem?_map] at e
  cases e1:ds[k]? with
  | none=>rw [e1] at e; cases e
  | some d' =>
   rw [e1] at e
   cases e
   obtain ⟨v,h1,h2⟩:=hs k d e1
   refine ⟨v,by rw [List.getElem?_map,h1]; rfl,?_⟩
   split at h2
   ·rename_i c
    rw [if_pos c]
    obtain ⟨l,h3,h4⟩:=h2
    exact h3.keep 'r' fun a τ q=>⟨oS q h4,rfl⟩
   ·rename_i c; rw [if_neg c]; exact h2
def kP (fin fbk:Nat→Option Nat) (O O2:Own):Own:=fun a=>match O2 a with
 | some m=>(fbk m.1).map fun l=>(l,m.2)
 | none=>match b7 fin O a with
  | some _=>none
  | none=>O a
theorem RO.out (ro:RO C ow G ρ σ H pd O) {vs:List V} {G2:Hp} {ρ2:DSt} {σ2:St} {H2:Hp} {pd2 pd3:List (D×V)} {O2:Own} {ρ3:DSt} {ow2:List Bool} {np:Nat} {mv:List (Option V)}
 (ri:RO ⟨G,H,b7 fin O,mv,np⟩ ow2 G2 ρ2 σ2 H2 pd2 O2) (hib:∀ l0 l' l,fin l0=some l'→fbk l'=some l→l=l0)
 (hlen : ρ3.length=σ.length) (hnp:C.np≤pd3.length)
 (hS:∀ (i:Nat) d,ow[i]?≠some true→ρ3[i]? = some (some d)→ρ[i]? = some (some d))
 (hO:∀ (i:Nat) d,ow[i]? = some true→ρ3[i]? = some (some d)→(fin (2 * i)=none∧ρ[i]? = some (some d))∨∃ (k:Nat) (v:V),fbk (2 * k)=some (2 * i)∧ow2[k]? = some true∧ρ2[k]? = some (some d)∧σ[i]? = some (some v)∧σ2[k]? = some (some v))
 (hP:∀ (O3:Own),(∀ a l π,O a=some (l,π)→fin l=none→O3 a=some (l,π)∧H2 a=H a)→(∀ a l l' π,O2 a=some (l',π)→fbk l'=some l→O3 a=some (l,π))→ce G G2→bE G2 H2 O3 pd3) :
 RO C ow G2 ρ3 σ H2 pd3 (kP fin fbk O O2):=by
 have keep:∀ a l π,O a=some (l,π)→fin l=none→kP fin fbk O O2 a=some (l,π)∧H2 a=H a:=fun a l π e hn=>by
  have e1:=p9 (f:=fin) e hn
  obtain ⟨g,⟨xs,hx⟩,_⟩:=ro.og a _ e
  have e2:O2 a=none:=by
   cases q:O2 a with
   | none=>rfl
   | some m =>
    obtain ⟨_,_,q3⟩:=ri.og a m q
    rcases q3 with q3 | ⟨π',q3⟩
    ·change H a=none at q3; rw [hx] at q3; cases q3
    ·change b7 fin O a=_ at q3; rw [e1] at q3; cases q3
  constructor
  ·show (match O2 a with | some m=>_ | none=>_)=_
   rw [e2]
   show (match b7 fin O a with | some _=>none | none=>O a)=_
   rw [e1]; exact e
  ·rw [ri.fr a _ hx e1,hx]
 have come:∀ a l l' π,O2 a=some (l',π)→fbk l'=some l→kP fin fbk O O2 a=some (l,π):=fun a l l' π e hb=>by
  show (match O2 a with | some m=>_ | none=>_)=_
  rw [e]
  show (fbk l').map _=_
  rw [hb]; rfl
 have ts:ce G G2:=(az.ts ri.g0)
 refine ⟨hlen,ri.gh,fun a o e=>ri.g0 a o (ro.g0 a o e),?_,?_,ro.cok,?_,fun a e=>ro.al a (ri.al a e),ro.mp,?_,hP _ keep come ts,hnp⟩
 ·intro a o e
  rcases ri.gn a o e with q | q
  ·exact ro.gn a o q
  ·exact .inr (ro.al a q)
 ·intro a m e
  change (match O2 a with | some m=>_ | none=>_)=_ at e
  cases q:O2 a with
  | some m' =>
   rw [q] at e
   change (fbk m'.1).map _=_ at e
   cases q2:fbk m'.1 with
   | none=>rw [q2] at e; cases e
   | some l =>
    rw [q2] at e; cases e
    obtain ⟨g1,g2,g3⟩:=ri.og a m' q
    refine ⟨g1,g2,?_⟩
    rcases g3 with g3 | ⟨π',g3⟩
    ·exact .inl (ro.al a g3)
    ·obtain ⟨l0,g4,g5⟩:=eY g3
     have:=hib _ _ _ g5 q2
     subst this
     exact (ro.og a _ g4).2.2
  | none =>
   rw [q] at e
   change (match b7 fin O a with | some _=>none | none=>O a)=_ at e
   cases q2:b7 fin O a with
   | some _=>rw [q2] at e; cases e
   | none =>
    rw [q2] at e
    change O a=some m at e
    obtain ⟨g1,⟨xs,g2⟩,g3⟩:=ro.og a m e
    refine ⟨?_,⟨xs,ri.fr a _ g2 q2⟩,g3⟩
    cases z:G2 a with
    | none=>rfl
    | some o =>
     rcases ri.gn a o z with z | z
     ·change G a=_ at z; rw [g1] at z; cases z
     ·change H a=_ at z; rw [g2] at z; cases z
 ·intro a o e n
  have q:=ro.fr a o e n
  refine ri.fr a o q ?_
  show b7 fin O a=none
  cases z:b7 fin O a with
  | none=>rfl
  | some m =>
   obtain ⟨l',π⟩:=m
   obtain ⟨l,z1,_⟩:=eY z
   obtain ⟨_,_,z3⟩:=ro.og a _ z1
   rcases z3 with z3 | ⟨_,z3⟩
   ·rw [z3] at e; cases e
   ·rw [z3] at n; cases n
 ·intro i d e
  by_cases c:ow[i]? = some true
  ·rcases hO i d c e with ⟨h1,h2⟩ | ⟨k,v,h1,h2,h3,h4,h5⟩
   ·obtain ⟨v,q1,q2⟩:=ro.sl i d h2
    rw [if_pos c] at q2
    exact ⟨v,q1,by rw [if_pos c]; exact q2.keep ts fun a τ q=>keep a _ _ q h1⟩
   ·obtain ⟨v',q1,q2⟩:=ri.sl k d h3
    rw [if_pos h2] at q2
    rw [h5] at q1; cases q1
    exact ⟨v,h4,by rw [if_pos c]; exact q2.keep 'r' fun a τ q=>⟨come _ _ _ _ q h1,rfl⟩⟩
  ·obtain ⟨v,q1,q2⟩:=ro.sl i d (hS i d c e)
   rw [if_neg c] at q2
   exact ⟨v,q1,by rw [if_neg c]; exact q2.mono ri.g0⟩
end
def Ret (fr:Bool) (C:Ctx) (ow:List Bool) (G:Hp) (ρ:DSt) (σ:St) (H:Hp) (d:D) (v:V):Prop:=if fr=true then R C ow G ρ σ H [(d,v)] else R C ow G ρ σ H []∧Rep G d v
def mus:List Bool→DSt→DSt
 | true :: bs,x :: ρ=>x :: mus bs ρ
 | false :: bs,_ :: ρ=>mus bs ρ
 | true :: bs,[]=>none :: mus bs []
 | false :: bs,[]=>mus bs []
 | [],_=>[]
def bY {α:Type}:Nat→List (Option α)→List (Option α)
 | 0,_=>[]
 | n + 1,x :: ρ=>x :: bY n ρ
 | n + 1,[]=>none :: bY n []
theorem b6 {α:Type}:∀ (n:Nat) (ρ:List (Option α)),(bY n ρ).length=n
 | 0,_=>rfl
 | n + 1,x :: ρ=>by simp [bY,b6 n ρ]
 | n + 1,[]=>by simp [bY,b6 n []]
theorem b5:∀ (mu:List Bool) (ρ:DSt),mus mu (bY mu.length ρ)=mus mu ρ
 | [],_=>by simp [mus]
 | true :: bs,x :: ρ=>by simp [bY,mus,b5 bs ρ]
 | false :: bs,x :: ρ=>by simp [bY,mus,b5 bs ρ]
 | true :: bs,[]=>by simp [bY,mus,b5 bs []]
 | false :: bs,[]=>by simp [bY,mus,b5 bs []]
theorem kr {α:Type}:∀ {n:Nat} {ρ:List (Option α)} {i:Nat} {d : α},(bY n ρ)[i]? = some (some d)→i<n∧ρ[i]? = some (some d)
 | 0,_,_,_,h=>by simp [bY] at h
 | n + 1,x :: ρ,0,d,h=>by simp [bY] at h; exact ⟨by omega,by simp [h]⟩
 | n + 1,x :: ρ,i + 1,d,h=>by simp only [bY,List.getElem?_cons_succ] at h; obtain ⟨a,b⟩:=kr h; exact ⟨by omega,by simpa using b⟩
 | n + 1,[],0,d,h=>by simp [bY] at h
 | n + 1,[],i + 1,d,h=>by simp only [bY,List.getElem?_cons_succ] at h; obtain ⟨a,b⟩:=kr h; simp at b
theorem kF {α:Type}:∀ {n:Nat} {ρ:List (Option α)} {i:Nat} {d : α},i<n→ρ[i]? = some (some d)→(bY n ρ)[i]? = some (some d)
 | 0,_,_,_,h,_=>by omega
 | n + 1,x :: ρ,0,d,h,e=>by simp at e; simp [bY,e]
 | n + 1,x :: ρ,i + 1,d,h,e=>by simp only [bY,List.getElem?_cons_succ]; exact kF 'a' (by simpa using e)
 | n + 1,[],i,d,h,e=>by simp at e
abbrev SpD:=List D→(D→DSt→Prop)→Prop
def bj (mu:List Bool) (fr:Bool) (sd:SpD):Sp:=fun vs H Q _=>∃ (C:Ctx) (G:Hp) (ds:List D) (q:D→DSt→Prop),C.np=0∧C.mu=msV mu vs∧R C mu G (ds.map some) (vs.map some) H []∧sd ds q∧mu.length=ds.length ∧
 ∀ d ρ' σ' v G' H',q d (mus mu ρ')→az G G'→ρ'.length=mu.length→Ret fr C mu G' ρ' σ' H' d v→Q v H'
structure EndsD where
 nx:DSt→Prop
 rt:D→DSt→Prop
 bk:DSt→Prop:=fun _=>False
 ct:DSt→Prop:=fun _=>False
abbrev MS:=EndsD→DSt→Prop
structure Ks (C:Ctx) (ow:List Bool) (fr:Bool) (G:Hp) (n:EndsD) (D:Ends):Prop where
 nx:∀ ρ σ G' H,n.nx ρ→az G G'→R C ow G' ρ σ H []→D.nx σ H
 bk:∀ ρ σ G' H,n.bk ρ→az G G'→R C ow G' ρ σ H []→D.bk σ H
 ct:∀ ρ σ G' H,n.ct ρ→az G G'→R C ow G' ρ σ H []→D.ct σ H
 rt:∀ d ρ σ v G' H,n.rt d ρ→az G G'→Ret fr C ow G' ρ σ H d v→D.rt v H
theorem Ks.mono {C:Ctx} {ow:List Bool} {fr:Bool} {G G1:Hp} {n:EndsD} {D:Ends} (h:Ks C ow fr G n D) (s:az G G1):Ks C ow fr G1 n D :=
 ⟨fun ρ σ G' H a b c=>h.nx ρ σ G' H a (s.trans b) c,fun ρ σ G' H a b c=>h.bk ρ σ G' H a (s.trans b) c,fun ρ σ G' H a b c=>h.ct ρ σ G' H a (s.trans b) c,fun d ρ σ v G' H a b c=>h.rt d ρ σ v G' H a (s.trans b) c⟩
def fG (C:Ctx) (mu:List Bool):Prop:=∀ (i:Nat) v,C.mu[i]? = some (some v)→mu[i]? = some true
theorem fG.no {C:Ctx} {mu:List Bool} (h:fG C mu) {i:Nat} (hi:mu[i]?≠some true):∀ v,C.mu[i]?≠some (some v):=fun v e=>hi (h i v e)
structure Md where
 mu:List Bool
 ow:List Bool
 fr:Bool
def SS (M:Md) (t:TS) (m:MS):Prop:=∀ (C:Ctx) (G:Hp) (ρ:DSt) (σ:St) (H:Hp) (n:EndsD) (D:Ends),fG C M.mu→C.np=0→R C M.ow G ρ σ H []→m n ρ→Ks C M.ow M.fr G n D→t D σ H
structure QS (X:Cx) (M:Md) (st:Stmt) (m:MS):Prop where
 ex:∃ t,PS X st t∧SS M t m
structure QSs (X:Cx) (M:Md) (st:List Stmt) (m:MS):Prop where
 ex:∃ t,PSs X st t∧SS M t m
section
variable {X:Cx} {M:Md} {a b c e:Expr} {ma mb mc:ME} {mt:MT} {pos pos':Pos} {st:Stmt} {rest:List Stmt} {m m1 m2:MS}
def mSeq (m1 m2:MS):MS:=fun n ρ=>m1 { n with nx:=fun ρ'=>m2 n ρ' } ρ
def vJ:MS:=fun n ρ=>n.nx ρ
theorem aR:QSs X M [] vJ:=⟨_,jV,fun C G ρ σ H n D hm hn r h k=>k.nx ρ σ G H h (az.refl _) r⟩
theorem aj (h:QS X M st m):QSs X M [st] m:=by obtain ⟨t,p,s⟩:=h; exact ⟨_,ij p,s⟩
theorem ag (h:QS X M st m1) (h2:QSs X M rest m2):QSs X M (st :: rest) (mSeq m1 m2):=by
 obtain ⟨t,p,s⟩:=h; obtain ⟨t2,p2,s2⟩:=h2
 refine ⟨_,cx p p2,fun C G ρ σ H n D hm hn r h k=>s C G ρ σ H _ _ hm hn r h ?_⟩
 exact ⟨fun ρ' σ' G' H' h' z r'=>s2 C G' ρ' σ' H' n D hm hn r' h' (k.mono z),k.bk,k.ct,k.rt⟩
def vQ:MS:=fun _ _=>False
theorem eG:QS X M st vQ:=⟨_,tq,fun C G ρ σ H n D hm hn r h k=>h.elim⟩
def mIfS (mt:MT) (m1 m2:MS):MS:=fun n ρ=>mt ρ fun b ρ1=>if b=true then m1 n ρ1 else m2 n ρ1
theorem bn {s1 s2:List Stmt} (h:QT X M.ow c mt) (h1:QSs X M s1 m1) (h2:QSs X M s2 m2):QS X M (.If c s1 s2 pos) (mIfS mt m1 m2):=by
 obtain ⟨t,p,s⟩:=h; obtain ⟨t1,p1,s1⟩:=h1; obtain ⟨t2,p2,s2⟩:=h2
 refine ⟨_,vi p p1 p2,fun C G ρ σ H n D hm hn r h k=>s C G ρ σ H [] _ _ r h fun b ρ' G' H' hq z kp r'=>?_⟩
 cases b with
 | true=>rw [if_pos rfl] at hq ⊢; exact s1 C G' ρ' σ H' n D hm hn r' hq (k.mono z)
 | false=>rw [if_neg 'k'] at hq ⊢; exact s2 C G' ρ' σ H' n D hm hn r' hq (k.mono z)
def mRet (m:ME):MS:=fun n ρ=>m ρ n.rt
theorem aN (h:QE X M.ow e ma) (hf:M.fr=false:=by rfl):QS X M (.Return (some e) pos) (mRet ma):=by
 obtain ⟨t,p,s⟩:=h
 refine ⟨_,mG p,fun C G ρ σ H n D hm hn r h k=>s C G ρ σ H [] _ _ r h fun d ρ' v G' H' hq z kp r' p=>k.rt d ρ' σ v G' H' hq z (by unfold Ret; rw [if_neg (by rw [hf]; decide)]; exact ⟨r',p⟩)⟩
theorem R.non {C:Ctx} {ow:List Bool} {fr:Bool} {G:Hp} {ρ:DSt} {σ:St} {H:Hp} (r:R C ow G ρ σ H []):Ret fr C ow G ρ σ H .non .non:=by
 unfold Ret
 split
 ·obtain ⟨O,r⟩:=r
  exact ⟨O,r.len,r.gh,r.g0,r.gn,r.og,r.cok,r.fr,r.al,r.mp,r.sl,⟨by rw [Sep],trivial⟩,Nat.le_succ_of_le r.np⟩
 ·exact ⟨r,kC⟩
def jR (i:Nat) (m:ME):MS:=fun n ρ=>m ρ fun d ρ1=>n.nx (ρ1.set i (some d))
theorem nH {t:TE} {i:Nat} (s:SE M.ow t ma) (ho:M.ow[i]?≠some true) (hu:M.mu[i]?≠some true):SS M (p_ t (hV i)) (jR i ma):=fun C G ρ σ H n D hm hn r h k =>
 s C G ρ σ H [] _ _ r h fun d ρ' v G' H' hq z kp r' p=>by
  obtain ⟨O,r'⟩:=r'
  exact k.nx _ _ G' H' hq z ⟨O,r'.setS ho (hm.no hu) p⟩
theorem jT {t:TE} {i:Nat} (s:SF M.ow t ma) (ho:M.ow[i]? = some true) (hu:M.mu[i]?≠some true):SS M (p_ t (hV i)) (jR i ma):=fun C G ρ σ H n D hm hn r h k =>
 s C G ρ σ H [] _ _ r h fun d ρ' v G' H' hq z kp r'=>by
  obtain ⟨O,r'⟩:=r'
  exact k.nx _ _ G' H' hq z (r'.setO ho (hm.no hu) (by rw [hn]; exact Nat.zero_le _))
theorem aI {i:Nat} {x:Str} (hN:X.N.Nodup) (hi:X.N[i]? = some x) (hx:Loc X.env.scope x) (he:QE X M.ow e ma) (ho:M.ow[i]?≠some true:=by decide) (hu:M.mu[i]?≠some true:=by decide) (hs:swapsWith e (some (.Name x pos')) pos.line X.env=pure false:=by rfl) (hf:X.fn x=true∨X.env.scope.names.lookup x=some .local:=by first | exact .inl rfl | exact .inr rfl | assumption) :
 QS X M (.Assign [.Name x pos'] e pos) (jR i ma):=by
 obtain ⟨t,p,s⟩:=he
 exact ⟨_,i5 hN hi hx p hs hf,nH s ho hu⟩
theorem dC {i:Nat} {x:Str} (hN:X.N.Nodup) (hi:X.N[i]? = some x) (hx:Loc X.env.scope x) (he:QF X M.ow e ma) (ho:M.ow[i]? = some true:=by decide) (hu:M.mu[i]?≠some true:=by decide) (hs:swapsWith e (some (.Name x pos')) pos.line X.env=pure false:=by rfl) (hf:X.fn x=true∨X.env.scope.names.lookup x=some .local:=by first | exact .inl rfl | exact .inr rfl | assumption) :
 QS X M (.Assign [.Name x pos'] e pos) (jR i ma):=by
 obtain ⟨t,p,s⟩:=he
 exact ⟨_,i5 hN hi hx p hs hf,jT s ho hu⟩
def mPar (i j:Nat) (ma mb:ME):MS:=fun n ρ=>ma ρ fun x ρ1=>mb ρ1 fun y ρ2=>n.nx ((ρ2.set i (some x)).set j (some y))
theorem yi {i j:Nat} {x y:Str} {px py pt:Pos} {kt k2 pt2} (hc:X.calm=true) (hN:X.N.Nodup) (hi:X.N[i]? = some x) (hj:X.N[j]? = some y) (hij:i≠j)
 (hx:X.env.scope.names.lookup x=some .local) (hy:X.env.scope.names.lookup y=some .local) (ha:QE X M.ow a ma) (hb:QE X M.ow b mb)
 (hw:swappedStores [.Tuple [.Name x px,.Name y py] kt pt] (.Tuple [a,b] k2 pt2) X.env=pure (some [x,y]))
 (oi:M.ow[i]?≠some true:=by decide) (oj:M.ow[j]?≠some true:=by decide) (ui:M.mu[i]?≠some true:=by decide) (uj:M.mu[j]?≠some true:=by decide)
 (hs1:starEach [a,b] X.env=(false,eval a X.env) :: starEach [b] X.env:=by rfl) (hs2:starEach [b] X.env=[(false,eval b X.env)]:=by rfl)
 (hs:swapsWithSole [.Tuple [.Name x px,.Name y py] kt pt] (.Tuple [a,b] k2 pt2) pos.line X.env=pure false:=by rfl) :
 QS X M (.Assign [.Tuple [.Name x px,.Name y py] kt pt] (.Tuple [a,b] k2 pt2) pos) (mPar i j ma mb):=by
 obtain ⟨ta,pa,sa⟩:=ha; obtain ⟨tb,pb,sb⟩:=hb
 refine ⟨_,yt hc hN hi hj hij hx hy (aX pa (aX pb bI hs2) hs1) hw hs,fun C G ρ σ H n D hm hn r h k=>?_⟩
 refine gO (Q:=fun u w H2=>∃ v w',[u,w]=[v,w']∧D.nx ((σ.set i (some v)).set j (some w')) H2) sa sb r h fun dx dy ρ' u w G' H' hq z kp r' p1 p2=>⟨u,w,rfl,?_⟩
 obtain ⟨O,r'⟩:=r'
 exact k.nx _ _ G' H' hq z ⟨O,(r'.setS oi (hm.no ui) p1).setS oj (hm.no uj) p2⟩
abbrev MG:=D→DSt→(DSt→Prop)→Prop
abbrev MGs:=List D→DSt→(DSt→Prop)→Prop
def SG (M:Md) (g:TG) (m:MG):Prop:=∀ (C:Ctx) (G:Hp) (ρ:DSt) (σ:St) (H:Hp) (pd:List (D×V)) (d:D) (v:V) (k:DSt→Prop) (K:St→Hp→Prop),fG C M.mu→R C M.ow G ρ σ H pd→Rep G d v→m d ρ k →
 (∀ ρ' σ',k ρ'→R C M.ow G ρ' σ' H pd→K σ' H)→g v σ H K
def SGs (M:Md) (g:TGs) (m:MGs):Prop:=∀ (C:Ctx) (G:Hp) (ρ:DSt) (σ:St) (H:Hp) (pd:List (D×V)) (d:List D) (v:List V) (k:DSt→Prop) (K:St→Hp→Prop),fG C M.mu→R C M.ow G ρ σ H pd→Reps G d v→m d ρ k →
 (∀ ρ' σ',k ρ'→R C M.ow G ρ' σ' H pd→K σ' H)→g v σ H K
structure QG (X:Cx) (M:Md) (e:Expr) (m:MG):Prop where
 ex:∃ t,PG X e t∧SG M t m
structure QGs (X:Cx) (M:Md) (e:List Expr) (m:MGs):Prop where
 ex:∃ t,PGs X e t∧SGs M t m
def gU (i:Nat):MG:=fun d ρ k=>k (ρ.set i (some d))
theorem aD {i:Nat} {x:Str} (hN:X.N.Nodup) (hi:X.N[i]? = some x) (hx:Loc X.env.scope x) (ho:M.ow[i]?≠some true:=by decide) (hu:M.mu[i]?≠some true:=by decide) (hf:X.fn x=true∨X.env.scope.names.lookup x=some .local:=by first | exact .inl rfl | exact .inr rfl | assumption):QG X M (.Name x pos) (gU i) :=
 ⟨_,bA hN hi hx hf,fun C G ρ σ H pd d v k K hm r p h kk=>by obtain ⟨O,r⟩:=r; exact kk _ _ h ⟨O,r.setS ho (hm.no hu) p⟩⟩
def oY:MGs:=fun ds ρ k=>match ds with
 | []=>k ρ
 | _=>False
def iT (t:MG) (u:MGs):MGs:=fun ds ρ k=>match ds with
 | d :: ds=>t d ρ fun ρ1=>u ds ρ1 k
 | []=>False
def sf (t:MGs):MG:=fun d ρ k=>match d with
 | .tup ds=>t ds ρ k
 | _=>False
variable {mg:MG} {mgs:MGs} {es:List Expr}
theorem bt:QGs X M [] oY:=⟨_,iq,fun C G ρ σ H pd d v k K hm r p h kk=>by
 cases d with
 | nil=>rw [Reps] at p; exact ⟨p,kk _ _ h r⟩
 | cons _ _=>exact h.elim⟩
theorem aB (h1:QG X M e mg) (h2:QGs X M es mgs) (hs:(assignEach (e :: es) X.env).map (·.2)=assign e X.env :: (assignEach es X.env).map (·.2):=by rfl):QGs X M (e :: es) (iT mg mgs):=by
 obtain ⟨t,p,s⟩:=h1; obtain ⟨t2,p2,s2⟩:=h2
 refine ⟨_,c9 p p2 hs,fun C G ρ σ H pd d v k K hm r p h kk=>?_⟩
 cases d with
 | nil=>exact h.elim
 | cons d ds =>
  rw [Reps] at p
  obtain ⟨v,vs,rfl,p1,p3⟩:=p
  exact ⟨v,vs,rfl,s C G ρ σ H pd d v _ _ hm r p1 h fun ρ' σ' h' r'=>s2 C G ρ' σ' H pd ds vs k K hm r' p3 h' kk⟩
def jQ (n:Nat) (m:MGs):Prop:=∀ ds ρ k,m ds ρ k→ds.length=n
theorem aU:jQ 0 oY:=fun ds ρ k h=>by cases ds with | nil=>rfl | cons _ _=>exact h.elim
theorem ak {n:Nat} {i:Nat} (h:jQ n mgs):jQ (n + 1) (iT (gU i) mgs):=fun ds ρ k q=>by
 cases ds with
 | nil=>exact q.elim
 | cons d ds=>simp [h ds _ _ q]
theorem bM {kk:Nat} {n:Nat} (hc:X.calm=true) (h:QGs X M es mgs) (ht:jQ n mgs)
 (hn:(assignEach es X.env).length=n:=by rfl) (hst:(assignEach es X.env).findIdx? (·.1)=none:=by rfl):QG X M (.Tuple es kk pos) (sf mgs):=by
 obtain ⟨t,p,s⟩:=h
 refine ⟨_,jU hc p hn hst,fun C G ρ σ H pd d v k K hm r p h kk=>?_⟩
 cases d with
 | tup ds =>
  obtain ⟨a,xs,rfl,h1,h2⟩:=el p
  exact ⟨a,xs,rfl,SqT.of (r.gh _ _ h1),by rw [h2.length]; exact ht _ _ _ h,s C G ρ σ H pd ds xs k K hm r h2 h kk⟩
 | _=>exact h.elim
def mAsg (m:ME) (g:MG):MS:=fun n ρ=>m ρ fun d ρ1=>g d ρ1 n.nx
theorem gN {tg:Expr} (he:QE X M.ow e ma) (hg:QG X M tg mg) (hs:swapsWithSole [tg] e pos.line X.env=pure false:=by rfl) (hw:swappedStores [tg] e X.env=pure none:=by rfl)
 (h1:(assignEach [tg] X.env).map (·.2)=[assign tg X.env]:=by rfl):QS X M (.Assign [tg] e pos) (mAsg ma mg):=by
 obtain ⟨t,p,s⟩:=he; obtain ⟨t2,p2,s2⟩:=hg
 refine ⟨_,mO p p2 hs hw h1,fun C G ρ σ H n D hm hn r h k=>s C G ρ σ H [] _ _ r h fun d ρ' v G' H' hq z kp r' p=>?_⟩
 exact s2 C G' ρ' σ H' [] d v _ _ hm r' p hq fun ρ2 σ2 h2 r2=>k.nx ρ2 σ2 G' H' h2 z r2
def vm (m:ME):MS:=fun n ρ=>m ρ fun _ ρ1=>n.nx ρ1
theorem fj (he:QE X M.ow e ma) (hs:swapsWith e none pos.line X.env=pure false:=by rfl):QS X M (.Expr e pos) (vm ma):=by
 obtain ⟨t,p,s⟩:=he
 exact ⟨_,d4 p hs,fun C G ρ σ H n D hm hn r h k=>s C G ρ σ H [] _ _ r h fun d ρ' v G' H' hq z kp r' p=>k.nx ρ' σ G' H' hq z r'⟩
def n_ (i:Nat) (m:ME):MS:=fun n ρ=>match ρ[i]? with
 | some (some (.lst _))=>m ρ fun d ρ1=>match ρ1[i]? with
  | some (some (.lst ds))=>ds.length<1000∧n.nx (ρ1.set i (some (.lst (ds++[d]))))
  | _=>False
 | _=>False
theorem ff {i:Nat} {x:Str} {apos cpos npos:Pos} (hN:X.N[i]? = some x) (he:QF X M.ow e ma) (ho:M.ow[i]? = some true:=by decide)
 (hv:Vis X.env.scope x:=by first | exact Or.inl rfl | exact Or.inr 'c' | exact Or.inr (Or.inr rfl)) (hd:'d'=false:=by decide) (hcd:(x == ("__classdict__":Str))=false:=by decide)
 (hbase:attributeBase (.Name x npos) "append" X.env (eval (.Name x npos) X.env)=eval (.Name x npos) X.env:=by rfl)
 (hfew:((backTo cpos (starEach [e] X.env)).all (fun x=>!x.1)&&(backToKw cpos (keywordEach [] X.env)).all (fun x=>x.1.isSome)
  && decide ([e].length + ([]:List Keyword).length + (if ([]:List Keyword).isEmpty then 0 else 1)<30))=true:=by rfl)
 (hline:(apos.endLine == cpos.line)=true:=by rfl) (hst:starEach [e] X.env=['n']:=by rfl)
 (hs:swapsWith (.Call (.Attribute (.Name x npos) "append" apos) [e] [] cpos) none pos.line X.env=pure false:=by rfl) :
 QS X M (.Expr (.Call (.Attribute (.Name x npos) "append" apos) [e] [] cpos) pos) (n_ i ma):=by
 obtain ⟨t,p,s⟩:=he
 refine ⟨_,d4 (lw PySem.F.plainAttrs_list PySem.F.slot_list_append PySem.F.type_list_append gF (dq hN hv hd hcd) (aX p bI hst) hbase hfew hline hst (by rfl)) hs,fun C G ρ σ H n D hm hn r h k=>?_⟩
 unfold n_ at h
 split at h
 ·rename_i ds e1
  obtain ⟨O,ro⟩:=r
  obtain ⟨a,xs,h1,h2,_,_⟩:=ro.write e1 ho
  refine ⟨.ref a,h1,.inl ⟨rfl,xs,SqL.of h2⟩,?_⟩
  refine s C G ρ σ H [] _ _ ⟨O,ro⟩ h fun d ρ' v G' H' hq z kp r'=>?_
  split at hq
  ·rename_i ds' e2
   obtain ⟨O',r'⟩:=r'
   obtain ⟨O2,r2,s2,s3⟩:=r'.join i ds'.length (by rw [hn]; exact Nat.zero_le _)
   obtain ⟨a',xs',g1,g2,g3,g4⟩:=r2.write e2 ho
   rw [h1] at g1; cases g1
   have hl:=g3.length
   refine ⟨a,xs',v,rfl,rfl,g2,by rw [hl]; exact bH (Nat.le_of_lt hq.1),?_⟩
   exact k.nx _ _ G' _ hq.2 z ⟨O2,g4 _ _ (g3.snoc (by simpa using s2))⟩
  ·exact hq.elim
 ·exact h.elim
def mSetI (i:Nat) (mk m:ME):MS:=fun n ρ=>m ρ fun d ρ1=>match ρ1[i]? with
 | some (some (.lst _))=>mk ρ1 fun k ρ2=>match ρ2[i]? with
  | some (some (.lst ds))=>match k with
   | .int j=>match ixN ds.length j with
    | some p=>n.nx (ρ2.set i (some (.lst (ds.set p d))))
    | none=>False
   | _=>False
  | _=>False
 | _=>False
theorem j9 {i:Nat} {x:Str} {npos spos:Pos} (hN:X.N[i]? = some x) (he:QF X M.ow e ma) (hk:QE X M.ow b mb) (ho:M.ow[i]? = some true:=by decide)
 (hv:Vis X.env.scope x:=by first | exact Or.inl rfl | exact Or.inr 'c' | exact Or.inr (Or.inr rfl)) (hd:'d'=false:=by decide) (hcd:(x == ("__classdict__":Str))=false:=by decide)
 (ha:∀ v,assign (.Subscript (.Name x npos) b spos) X.env v=(do
  let ov ← holding [v] (eval (.Name x npos) X.env)
  let iv ← holding [v,ov] (eval b X.env)
  standAt spos
  holding [v,ov,iv] (setItem ov iv v)
  release [v,ov,iv] []):=by intro _; rfl)
 (hs:swapsWithSole [.Subscript (.Name x npos) b spos] e pos.line X.env=pure false:=by rfl) (hw:swappedStores [.Subscript (.Name x npos) b spos] e X.env=pure none:=by rfl)
 (h1:(assignEach [.Subscript (.Name x npos) b spos] X.env).map (·.2)=[assign (.Subscript (.Name x npos) b spos) X.env]:=by rfl) :
 QS X M (.Assign [.Subscript (.Name x npos) b spos] e pos) (mSetI i mb ma):=by
 obtain ⟨t,p,s⟩:=he; obtain ⟨t2,p2,s2⟩:=hk
 refine ⟨_,mO p (wR (dq hN hv hd hcd) p2 qY ha) hs hw h1,fun C G ρ σ H n D hm hn r h k=>s C G ρ σ H [] _ _ r h fun d ρ' v G' H' hq z kp r'=>?_⟩
 split at hq
 ·rename_i ds0 e0
  obtain ⟨O0,ro⟩:=r'
  obtain ⟨a,xs,hu,_,_,_⟩:=ro.write e0 ho
  refine ⟨.ref a,hu,?_⟩
  refine s2 C G' ρ' σ H' _ _ _ ⟨O0,ro⟩ hq fun dk ρ2 jv G2 H2 hq2 z2 kp2 r2 pj=>?_
  split at hq2
  ·rename_i ds e2
   cases dk with
   | int j =>
    dsimp only at hq2
    split at hq2
    ·rename_i pl e3
     obtain ⟨O',r2⟩:=r2
     obtain ⟨O2,r3,w2,w3⟩:=r2.join i pl (by rw [hn]; exact Nat.zero_le _)
     obtain ⟨a',xs',g1,g2,g3,g4⟩:=r3.write e2 ho
     rw [hu] at g1; cases g1
     refine ⟨a,xs',j,pl,rfl,ay pj,g2,by rw [g3.length]; exact e3,?_⟩
     exact k.nx _ _ G2 _ hq2 (z.trans z2) ⟨O2,g4 _ _ (g3.set (by simpa using w2))⟩
    ·exact hq2.elim
   | _=>exact hq2.elim
  ·exact hq2.elim
 ·exact hq.elim
def w5 (mt:MT) (mb:MS):MS:=fun n ρ=>∃ W:Nat→DSt→Prop,(∃ k,W k ρ)∧∀ k ρ,W k ρ→mt ρ fun b ρ1 =>
 if b=true then mb { n with nx:=fun ρ'=>∃ k',k'<k∧W k' ρ',ct:=fun ρ'=>∃ k',k'<k∧W k' ρ',bk:=n.nx } ρ1 else n.nx ρ1
theorem eR {body:List Stmt} (hp:PassesOwn 'b' X.A X.env X.xe) (hc:QT X M.ow c mt) (hb:QSs X M body m):QS X M (.While c body [] pos) (w5 mt m):=by
 obtain ⟨t,p,s⟩:=hc; obtain ⟨t2,p2,s2⟩:=hb
 refine ⟨_,qg hp p p2,fun C G ρ σ H n D hm hn r h k=>?_⟩
 obtain ⟨W,⟨k0,w0⟩,turn⟩:=h
 refine ⟨fun j σ' H'=>∃ G' ρ',az G G'∧R C M.ow G' ρ' σ' H' []∧W j ρ',⟨k0,G,ρ,az.refl _,r,w0⟩,?_⟩
 rintro j σ' H' ⟨G',ρ',z,r',w⟩
 refine s C G' ρ' σ' H' [] _ _ r' (turn j ρ' w) fun b ρ1 G1 H1 hq z1 kp r1=>?_
 cases b with
 | true =>
  rw [if_pos rfl] at hq ⊢
  refine ⟨fun σ2 H2=>∃ j',j'<j∧∃ G2 ρ2,az G G2∧R C M.ow G2 ρ2 σ2 H2 []∧W j' ρ2,fun σ2 H2 h=>h,?_⟩
  refine s2 C G1 ρ1 σ' H1 _ _ hm hn r1 hq ⟨?_,?_,?_,?_⟩
  ·rintro ρ2 σ2 G2 H2 ⟨j',hj,w'⟩ z2 r2; exact ⟨j',hj,G2,ρ2,z.trans (z1.trans z2),r2,w'⟩
  ·intro ρ2 σ2 G2 H2 h z2 r2; exact k.nx ρ2 σ2 G2 H2 h (z.trans (z1.trans z2)) r2
  ·rintro ρ2 σ2 G2 H2 ⟨j',hj,w'⟩ z2 r2; exact ⟨j',hj,G2,ρ2,z.trans (z1.trans z2),r2,w'⟩
  ·intro d ρ2 σ2 v G2 H2 h z2 r2; exact k.rt d ρ2 σ2 v G2 H2 h (z.trans (z1.trans z2)) r2
 | false=>rw [if_neg 'k'] at hq ⊢; exact k.nx ρ1 σ' G1 H1 hq (z.trans z1) r1
def j8 (J:It) (G:Hp) (ds:List D):Prop:=∀ (C:Ctx) (ow:List Bool) (G':Hp) (ρ:DSt) (σ:St) (H:Hp) (pd:List (D×V)) (i:Nat),az G G'→R C ow G' ρ σ H pd →
 (ds.length≤i→J.stop i H)∧∀ d,ds[i]? = some d→J.go i H∧∀ x H',J.yld i H x H'→∃ G2,az G' G2∧R C ow G2 ρ σ H' pd∧Rep G2 d x
def SI (ow:List Bool) (wi:TI) (mi:MA):Prop:=∀ (C:Ctx) (G:Hp) (ρ:DSt) (σ:St) (H:Hp) (pd:List (D×V)) (q:List D→DSt→Prop) (Q:It→Hp→Prop),R C ow G ρ σ H pd→mi ρ q →
 (∀ ds ρ' G' H' J,q ds ρ'→az G G'→Kp ow ρ ρ'→R C ow G' ρ' σ H' pd→j8 J G' ds→Q J H')→wi σ H Q
structure QI (X:Cx) (ow:List Bool) (tg iter:Expr) (mi:MA):Prop where
 ex:∃ t,PI X tg iter t∧SI ow t mi
def forD (g:MG) (mb:MS) (n:EndsD) (ds:List D) (ρ:DSt):Prop:=∃ I:Nat→DSt→Prop,I 0 ρ ∧
 (∀ i d ρ,ds[i]? = some d→I i ρ→g d ρ fun ρ1=>mb { n with nx:=I (i + 1),ct:=I (i + 1),bk:=n.nx } ρ1)∧∀ ρ,I ds.length ρ→n.nx ρ
def mFor (mi:MA) (g:MG) (mb:MS):MS:=fun n ρ=>mi ρ fun ds ρ1=>forD g mb n ds ρ1
theorem cH {mi:MA} {tg iter:Expr} {body:List Stmt} (hp:PassesOwn 'b' X.A X.env X.xe) (hc:X.calm=true) (hi:QI X M.ow tg iter mi) (hg:QG X M tg mg) (hb:QSs X M body m)
 (hs:∀ x,foldedSetIterable iter X.env x=pure x:=by intro _; rfl):QS X M (.For tg iter body [] pos) (mFor mi mg m):=by
 obtain ⟨ti,pi,si⟩:=hi; obtain ⟨tg',pg,sg⟩:=hg; obtain ⟨tb,pb,sb⟩:=hb
 refine ⟨_,mw hp hc pi pg pb hs,fun C G ρ σ H n D hm hn r h k=>si C G ρ σ H [] _ _ r h fun ds ρ0 G0 H0 J hq z0 kp r0 jo=>?_⟩
 obtain ⟨I,i0,turn,fin⟩:=hq
 refine ⟨fun i j σ' H'=>j=ds.length - i∧i≤ds.length∧∃ G' ρ',az G0 G'∧R C M.ow G' ρ' σ' H' []∧I i ρ',⟨_,rfl,Nat.zero_le _,G0,ρ0,az.refl _,r0,i0⟩,?_⟩
 rintro i j σ' H' ⟨rfl,hi,G',ρ',z,r',w⟩
 obtain ⟨st,go⟩:=jo C M.ow G' ρ' σ' H' [] i z r'
 by_cases hlt:i<ds.length
 ·obtain ⟨g1,g2⟩:=go ds[i] (List.getElem?_eq_getElem hlt)
  refine .inr ⟨g1,fun σ2 H2=>∃ G2 ρ2,az G0 G2∧R C M.ow G2 ρ2 σ2 H2 []∧I (i + 1) ρ2,fun σ2 H2 h=>⟨ds.length - (i + 1),by omega,rfl,hlt,h⟩,fun x H1 hy=>?_⟩
  obtain ⟨G1,z1,r1,p1⟩:=g2 x H1 hy
  refine sg C G1 ρ' σ' H1 [] ds[i] x _ _ hm r1 p1 (turn i ds[i] ρ' (List.getElem?_eq_getElem hlt) w) fun ρ2 σ2 h2 r2=>?_
  refine sb C G1 ρ2 σ2 H1 _ _ hm hn r2 h2 ⟨?_,?_,?_,?_⟩
  ·intro ρ3 σ3 G3 H3 h3 z3 r3; exact ⟨G3,ρ3,z.trans (z1.trans z3),r3,h3⟩
  ·intro ρ3 σ3 G3 H3 h3 z3 r3; exact k.nx ρ3 σ3 G3 H3 h3 (z0.trans (z.trans (z1.trans z3))) r3
  ·intro ρ3 σ3 G3 H3 h3 z3 r3; exact ⟨G3,ρ3,z.trans (z1.trans z3),r3,h3⟩
  ·intro d ρ3 σ3 v G3 H3 h3 z3 r3; exact k.rt d ρ3 σ3 v G3 H3 h3 (z0.trans (z.trans (z1.trans z3))) r3
 ·have e:i=ds.length:=by omega
  subst e
  exact .inl ⟨st 'l',k.nx ρ' σ' G' H' (fin ρ' w) (z0.trans z) r'⟩
end
section
variable {X:Cx} {ow:List Bool} {a b c e tg:Expr} {ma mb mc:ME} {pos:Pos} {mr:MA} {es:List Expr}
theorem wc {K:PySem.W.Frag} {G:Hp} {p:Addr} {xs:List V} {ds:List D} (h1:G p=some 'p') (h2:Reps G ds xs):j8 (Itl K p) G ds:=fun C ow G' ρ σ H pd i z r=>by
 have hp:=r.gh _ _ (z _ _ h1)
 refine ⟨fun hl=>⟨xs,SqL.of hp,by rw [h2.length]; exact hl⟩,fun d e=>?_⟩
 obtain ⟨v,e1,e2⟩:=c0 h2 e
 refine ⟨⟨xs,v,SqL.of hp,e1⟩,fun x H' hy=>?_⟩
 obtain ⟨rfl,hy⟩:=hy
 have:=hy xs (SqL.of hp)
 rw [e1] at this; cases this
 exact ⟨G',az.refl _,r,Rep.mono z _ _ e2⟩
def miLst (m:ME):MA:=fun ρ q=>m ρ fun d ρ'=>match d with
 | .lst ds=>q ds ρ'
 | _=>False
theorem cq (h:QE X ow e ma):QI X ow tg e (miLst ma):=by
 obtain ⟨t,p,s⟩:=h
 refine ⟨_,tU p,fun C G ρ σ H pd q Q r hm k=>s C G ρ σ H pd _ _ r hm fun d ρ' v G' H' hq z kp r' p=>?_⟩
 cases d with
 | lst ds=>obtain ⟨a,xs,rfl,h1,h2⟩:=a8 p; exact ⟨a,rfl,⟨xs,SqL.of (r'.gh _ _ h1)⟩,k ds ρ' G' H' _ hq z kp r' (wc h1 h2)⟩
 | _=>exact hq.elim
def gE (lo:Int) (n:Nat):List D:=(List.range n).map fun (i:Nat)=>.int (lo + i)
theorem d5 {lo:Int} {n i:Nat} {d:D} (h:(gE lo n)[i]? = some d):i<n∧d = .int (lo + i):=by
 unfold gE at h
 rw [List.getElem?_map] at h
 by_cases c:i<n
 ·rw [List.getElem?_range c] at h; exact ⟨c,(Option.some.inj h).symm⟩
 ·rw [List.getElem?_eq_none (by simp; omega)] at h; cases h
theorem cF (lo:Int) (n:Nat):(gE lo n).length=n:=by unfold gE; simp
theorem qU {G:Hp} {lo:Int} {n:Nat}:j8 (Itr lo n) G (gE lo n):=fun C ow G' ρ σ H pd i z r=>by
 refine ⟨fun hl=>by rw [cF] at hl; exact hl,fun d e=>?_⟩
 obtain ⟨h1,rfl⟩:=d5 e
 refine ⟨h1,fun x H' hy=>?_⟩
 obtain ⟨rfl,rfl⟩:=hy
 exact ⟨G',az.refl _,r,ba _⟩
def miR1 (m:MA):MA:=fun ρ q=>m ρ fun ds ρ'=>match ds with
 | [.int j]=>(-(2 ^ 62)≤j∧j<2 ^ 62)∧q (gE 0 j.toNat) ρ'
 | _=>False
def miR2 (m:MA):MA:=fun ρ q=>m ρ fun ds ρ'=>match ds with
 | [.int i,.int j]=>(-(2 ^ 62)≤i∧i<2 ^ 62∧-(2 ^ 62)≤j∧j<2 ^ 62)∧q (gE i (j - i).toNat) ρ'
 | _=>False
theorem fi {p:Pos} (hg:Gl X "range") (hm:X.mg "range" = none) (ha:QA X ow [a] mr) (hs:starEach [a] X.env=[(false,eval a X.env)]:=by rfl):QI X ow tg (.Call (.Name "range" p) [a] [] pos) (miR1 mr):=by
 obtain ⟨t,p,s⟩:=ha
 refine ⟨_,pq hg hm p hs,fun C G ρ σ H pd q Q r hm k=>s C G ρ σ H pd _ _ r hm fun ds ρ' vs G' H' hq z kp r' p hn=>?_⟩
 split at hq
 ·obtain ⟨v,rfl,p1⟩:=bG p
  rw [ay p1]
  exact ⟨_,rfl,hq.1.1,hq.1.2,k _ ρ' G' H' _ hq.2 z kp r' qU⟩
 ·exact hq.elim
theorem jI {p:Pos} (hg:Gl X "range") (hm:X.mg "range" = none) (ha:QA X ow [a,b] mr) (hs:starEach [a,b] X.env=[(false,eval a X.env),(false,eval b X.env)]:=by rfl) (hs2:starEach [b] X.env=[(false,eval b X.env)]:=by rfl):QI X ow tg (.Call (.Name "range" p) [a,b] [] pos) (miR2 mr):=by
 obtain ⟨t,p,s⟩:=ha
 refine ⟨_,pZ hg hm p hs hs2,fun C G ρ σ H pd q Q r hm k=>s C G ρ σ H pd _ _ r hm fun ds ρ' vs G' H' hq z kp r' p hn=>?_⟩
 split at hq
 ·obtain ⟨v,u,rfl,p1,p2⟩:=dh p
  rw [ay p1,ay p2]
  exact ⟨_,_,rfl,hq.1,k _ ρ' G' H' _ hq.2 z kp r' qU⟩
 ·exact hq.elim
def gy (ds:List D):List D:=ds.mapIdx fun i d=>.tup [.int i,d]
theorem iG (ds:List D):(gy ds).length=ds.length:=by unfold gy; simp
theorem dz {ds:List D} {i:Nat} {d:D} (h:(gy ds)[i]? = some d):∃ d',ds[i]? = some d'∧d = .tup [.int i,d']:=by
 unfold gy at h
 rw [List.getElem?_mapIdx] at h
 cases e:ds[i]? with
 | none=>rw [e] at h; cases h
 | some d'=>rw [e] at h; exact ⟨d',rfl,(Option.some.inj h).symm⟩
theorem xZ {G:Hp} {p:Addr} {xs:List V} {ds:List D} (h1:G p=some 'p') (h2:Reps G ds xs):j8 (Ite p) G (gy ds):=fun C ow G' ρ σ H pd i z r=>by
 have hp:=r.gh _ _ (z _ _ h1)
 refine ⟨fun hl=>⟨xs,hp,by rw [h2.length]; rw [iG] at hl; exact hl⟩,fun d e=>?_⟩
 obtain ⟨d',e0,rfl⟩:=dz e
 obtain ⟨v,e1,e2⟩:=c0 h2 e0
 refine ⟨⟨xs,v,hp,e1⟩,fun x H' hy=>?_⟩
 obtain ⟨a,x',ha,rfl,rfl,hy⟩:=hy
 have:=hy xs hp
 rw [e1] at this; cases this
 obtain ⟨O,r⟩:=r
 obtain ⟨r2,s2⟩:=r.new ha (.tup [.int i,v])
 exact ⟨_,s2,⟨O,r2⟩,gl ao (bf (ba _) (bf (Rep.mono (z.trans s2) _ _ e2) bp))⟩
def miEnu (m:MA):MA:=fun ρ q=>m ρ fun ds ρ'=>match ds with
 | [.lst ds]=>q (gy ds) ρ'
 | _=>False
theorem d9 {k:Nat} {tpos p:Pos} (hg:Gl X "enumerate") (hm:X.mg "enumerate" = none) (ha:QA X ow [a] mr) (hs:starEach [a] X.env=[(false,eval a X.env)]:=by rfl):QI X ow (.Tuple es k tpos) (.Call (.Name "enumerate" p) [a] [] pos) (miEnu mr):=by
 obtain ⟨t,p,s⟩:=ha
 refine ⟨_,u5 hg hm p hs,fun C G ρ σ H pd q Q r hm k=>s C G ρ σ H pd _ _ r hm fun ds ρ' vs G' H' hq z kp r' p hn=>?_⟩
 split at hq
 ·obtain ⟨v,rfl,p1⟩:=bG p
  obtain ⟨a,xs,rfl,h1,h2⟩:=a8 p1
  exact ⟨a,rfl,⟨xs,r'.gh _ _ h1⟩,k _ ρ' G' H' _ hq z kp r' (xZ h1 h2)⟩
 ·exact hq.elim
def vf (i:Nat):ME:=fun ρ q=>match ρ[i]? with
 | some (some d)=>q d (ρ.set i none)
 | _=>False
end
inductive AK where
 | s | m (i:Nat) | t
def AK.isM:AK→Bool
 | .s=>false
 | _=>true
def gj (G:Hp) (σ:St):List AK→List D→List V→List (D×V)→Prop
 | [],[],[],[]=>True
 | .s :: ks,d :: ds,v :: vs,T=>Rep G d v∧gj G σ ks ds vs T
 | .m i :: ks,_ :: ds,v :: vs,T=>σ[i]? = some (some v)∧gj G σ ks ds vs T
 | .t :: ks,d :: ds,v :: vs,x :: T=>x=(d,v)∧gj G σ ks ds vs T
 | _,_,_,_=>False
def SAk (ow:List Bool) (ks:List AK) (t:TA) (m:MA):Prop:=∀ (C:Ctx) (G:Hp) (ρ:DSt) (σ:St) (H:Hp) (pd:List (D×V)) (q:List D→DSt→Prop) (Q:List V→Hp→Prop),R C ow G ρ σ H pd→m ρ q →
 (∀ ds ρ' vs T G' H',q ds ρ'→az G G'→Kp ow ρ ρ'→R C ow G' ρ' σ H' (T.reverse++pd)→gj G' σ ks ds vs T→Q vs H')→t σ H Q
structure QAk (X:Cx) (ow:List Bool) (ks:List AK) (es:List Expr) (m:MA):Prop where
 ex:∃ t,PA X es t∧SAk ow ks t m
section
variable {X:Cx} {ow:List Bool} {a b c e tg:Expr} {ma mb mc:ME} {pos:Pos} {mr:MA} {es:List Expr} {ks:List AK}
theorem au:QAk X ow [] [] pw:=⟨_,bI,fun C G ρ σ H pd q Q r h k=>k [] ρ [] [] G H h (az.refl _) Kp.refl r trivial⟩
theorem aq (ha:QE X ow e ma) (hr:QAk X ow ks es mr) (hs:starEach (e :: es) X.env='n' :: starEach es X.env:=by rfl):QAk X ow (.s :: ks) (e :: es) (fv ma mr):=by
 obtain ⟨t,p,s⟩:=ha; obtain ⟨t2,p2,s2⟩:=hr
 refine ⟨_,aX p p2 hs,fun C G ρ σ H pd q Q r hm k=>s C G ρ σ H pd _ _ r hm fun d ρ' v G' H' hq z kp r' p=>?_⟩
 exact s2 C G' ρ' σ H' pd _ _ r' hq fun ds ρ2 vs T G2 H2 hq2 z2 kp2 r2 p2=>k (d :: ds) ρ2 (v :: vs) T G2 H2 hq2 (z.trans z2) (kp.trans kp2) r2 ⟨Rep.mono z2 _ _ p,p2⟩
theorem qk_t (ha:QF X ow e ma) (hr:QAk X ow ks es mr) (hs:starEach (e :: es) X.env='n' :: starEach es X.env:=by rfl):QAk X ow (.t :: ks) (e :: es) (fv ma mr):=by
 obtain ⟨t,p,s⟩:=ha; obtain ⟨t2,p2,s2⟩:=hr
 refine ⟨_,aX p p2 hs,fun C G ρ σ H pd q Q r hm k=>s C G ρ σ H pd _ _ r hm fun d ρ' v G' H' hq z kp r'=>?_⟩
 exact s2 C G' ρ' σ H' _ _ _ r' hq fun ds ρ2 vs T G2 H2 hq2 z2 kp2 r2 p2=>k (d :: ds) ρ2 (v :: vs) ((d,v) :: T) G2 H2 hq2 (z.trans z2) (kp.trans kp2) (by simpa using r2) ⟨rfl,p2⟩
def qJ (i:Nat) (r:MA):MA:=fun ρ q=>match ρ[i]? with
 | some (some _)=>r ρ fun ds ρ2=>q (.non :: ds) ρ2
 | _=>False
theorem dG (i:Nat) {x:Str} (hr:QAk X ow ks es mr) (hN:X.N[i]? = some x:=by rfl) (hv:Vis X.env.scope x:=by first | exact Or.inl rfl | exact Or.inr 'c' | exact Or.inr (Or.inr rfl)) (hd:'d'=false:=by decide)
 (hcd:(x == ("__classdict__":Str))=false:=by decide) (hs:starEach (.Name x pos :: es) X.env=(false,eval (.Name x pos) X.env) :: starEach es X.env:=by rfl):QAk X ow (.m i :: ks) (.Name x pos :: es) (qJ i mr):=by
 obtain ⟨t2,p2,s2⟩:=hr
 refine ⟨_,aX (dq hN hv hd hcd) p2 hs,fun C G ρ σ H pd q Q r hm k=>?_⟩
 unfold qJ at hm
 split at hm
 ·rename_i d e
  obtain ⟨O,ro⟩:=r
  obtain ⟨v,h1,_⟩:=ro.sl i d e
  exact ⟨v,h1,s2 C G ρ σ H pd _ _ ⟨O,ro⟩ hm fun ds ρ2 vs T G2 H2 hq2 z2 kp2 r2 p2=>k (.non :: ds) ρ2 (v :: vs) T G2 H2 hq2 z2 kp2 r2 ⟨h1,p2⟩⟩
 ·exact hm.elim
def cL:List AK→List D→DSt→Option (List D)
 | [],[],_=>some []
 | .s :: ks,d :: ds,ρ=>(cL ks ds ρ).map (d :: ·)
 | .t :: ks,d :: ds,ρ=>(cL ks ds ρ).map (d :: ·)
 | .m i :: ks,_ :: ds,ρ=>match ρ[i]? with
  | some (some d)=>(cL ks ds ρ).map (d :: ·)
  | _=>none
 | _,_,_=>none
def lbs:List AK→Nat→List (Option Nat)
 | [],_=>[]
 | .s :: ks,r=>none :: lbs ks r
 | .m i :: ks,r=>some (2 * i) :: lbs ks r
 | .t :: ks,r=>some (2 * r + 1) :: lbs ks (r + 1)
def aw:List AK→List Nat
 | []=>[]
 | .m i :: ks=>i :: aw ks
 | _ :: ks=>aw ks
def fnd (l:Nat):List (Option Nat)→Nat→Option Nat
 | [],_=>none
 | x :: xs,k=>if x=some l then some k else fnd l xs (k + 1)
theorem nJ {l:Nat}:∀ {xs:List (Option Nat)} {k j:Nat},fnd l xs k=some j→∃ i,j=k + i∧xs[i]? = some (some l)
 | [],_,_,h=>by cases h
 | x :: xs,k,j,h=>by
  unfold fnd at h
  split at h
  ·rename_i c; cases h; exact ⟨0,rfl,by simp [c]⟩
  ·obtain ⟨i,rfl,e⟩:=nJ h; exact ⟨i + 1,by omega,by simpa using e⟩
theorem iW {l:Nat}:∀ {xs:List (Option Nat)} {k:Nat},(∀ i:Nat,xs[i]?≠some (some l))→fnd l xs k=none
 | [],_,_=>rfl
 | x :: xs,k,h=>by
  unfold fnd
  rw [if_neg (fun c=>h 0 (by simp [c]))]
  exact iW fun i=>by simpa using h (i + 1)
theorem nr {l:Nat}:∀ {xs:List (Option Nat)} {k i:Nat},(∀ (i j:Nat) (l:Nat),xs[i]? = some (some l)→xs[j]? = some (some l)→i=j)→xs[i]? = some (some l)→fnd l xs k=some (k + i)
 | [],_,_,_,h=>by simp at h
 | x :: xs,k,i,u,h=>by
  unfold fnd
  by_cases c:x=some l
  ·rw [if_pos c]
   have:=u 0 i l (by simp [c]) h
   subst this; rfl
  ·rw [if_neg c]
   cases i with
   | zero=>simp at h; exact absurd h c
   | succ i =>
    have:=nr (k:=k + 1) (i:=i) (fun i j l a b=>by have:=u (i + 1) (j + 1) l (by simpa using a) (by simpa using b); omega) (by simpa using h)
    rw [this]; congr 1; omega
theorem b9:∀ {ks:List AK} {r:Nat} {i l:Nat},(lbs ks r)[i]? = some (some l)→(∃ j∈aw ks,l=2 * j)∨∃ j,r≤j∧l=2 * j + 1
 | [],_,_,_,h=>by simp [lbs] at h
 | .s :: ks,r,0,l,h=>by simp [lbs] at h
 | .s :: ks,r,i + 1,l,h=>by simp only [lbs,List.getElem?_cons_succ] at h; have:=b9 (ks:=ks) h; simpa [aw] using this
 | .m j :: ks,r,0,l,h=>by simp [lbs] at h; exact .inl ⟨j,by simp [aw],h.symm⟩
 | .m j :: ks,r,i + 1,l,h=>by
  simp only [lbs,List.getElem?_cons_succ] at h
  rcases b9 h with ⟨z,h1,h2⟩ | h
  ·exact .inl ⟨z,by simp [aw,h1],h2⟩
  ·exact .inr h
 | .t :: ks,r,0,l,h=>by simp [lbs] at h; exact .inr ⟨r,Nat.le_refl _,h.symm⟩
 | .t :: ks,r,i + 1,l,h=>by
  simp only [lbs,List.getElem?_cons_succ] at h
  rcases b9 h with ⟨z,h1,h2⟩ | ⟨j,h1,h2⟩
  ·exact .inl ⟨z,by simpa [aw] using h1,h2⟩
  ·exact .inr ⟨j,by omega,h2⟩
theorem eQ:∀ {ks:List AK} {r:Nat},(aw ks).Nodup→∀ (i j l:Nat),(lbs ks r)[i]? = some (some l)→(lbs ks r)[j]? = some (some l)→i=j
 | [],_,_,i,j,l,h,_=>by simp [lbs] at h
 | .s :: ks,r,nd,0,j,l,h,_=>by simp [lbs] at h
 | .s :: ks,r,nd,i + 1,0,l,_,h=>by simp [lbs] at h
 | .s :: ks,r,nd,i + 1,j + 1,l,h,h2=>by simp only [lbs,List.getElem?_cons_succ] at h h2; rw [eQ (ks:=ks) (by simpa [aw] using nd) i j l h h2]
 | .m a :: ks,r,nd,0,0,l,_,_=>rfl
 | .m a :: ks,r,nd,0,j + 1,l,h,h2=>by
  simp only [lbs,List.getElem?_cons_succ] at h2; simp [lbs] at h
  simp only [aw,List.nodup_cons] at nd
  rcases b9 h2 with ⟨z,h3,h4⟩ | ⟨z,h3,h4⟩
  ·exact absurd h3 (by rw [show z=a by omega]; exact nd.1)
  ·omega
 | .m a :: ks,r,nd,i + 1,0,l,h2,h=>by
  simp only [lbs,List.getElem?_cons_succ] at h2; simp [lbs] at h
  simp only [aw,List.nodup_cons] at nd
  rcases b9 h2 with ⟨z,h3,h4⟩ | ⟨z,h3,h4⟩
  ·exact absurd h3 (by rw [show z=a by omega]; exact nd.1)
  ·omega
 | .m a :: ks,r,nd,i + 1,j + 1,l,h,h2=>by
  simp only [aw,List.nodup_cons] at nd
  simp only [lbs,List.getElem?_cons_succ] at h h2; rw [eQ (ks:=ks) nd.2 i j l h h2]
 | .t :: ks,r,nd,0,0,l,_,_=>rfl
 | .t :: ks,r,nd,0,j + 1,l,h,h2=>by
  simp only [lbs,List.getElem?_cons_succ] at h2; simp [lbs] at h
  rcases b9 h2 with ⟨z,h3,h4⟩ | ⟨z,h3,h4⟩ <;> omega
 | .t :: ks,r,nd,i + 1,0,l,h2,h=>by
  simp only [lbs,List.getElem?_cons_succ] at h2; simp [lbs] at h
  rcases b9 h2 with ⟨z,h3,h4⟩ | ⟨z,h3,h4⟩ <;> omega
 | .t :: ks,r,nd,i + 1,j + 1,l,h,h2=>by simp only [lbs,List.getElem?_cons_succ] at h h2; rw [eQ (ks:=ks) (by simpa [aw] using nd) i j l h h2]
end
theorem dQ {G H:Hp} {O:Own}:∀ {T pd:List (D×V)},bE G H O (T++pd)→bE G H O pd
 | [],_,h=>h
 | _ :: T,_,h=>dQ (T:=T) h.2
theorem ix {G H:Hp} {O:Own}:∀ {T pd:List (D×V)} {j:Nat} {x:D×V},bE G H O (T.reverse++pd)→T[j]? = some x→Sep G H O (2 * (pd.length + j) + 1) x.1 [] x.2
 | [],_,_,_,_,e=>by simp at e
 | y :: T,pd,j,x,h,e=>by
  have h':bE G H O (T.reverse++(y :: pd)):=by simpa using h
  cases j with
  | zero=>simp at e; subst e; exact (dQ h').1
  | succ j =>
   have:=ix (j:=j) h' (by simpa using e)
   rw [show pd.length + (j + 1)=(y :: pd).length + j by simp; omega]
   exact this
theorem fW {G H:Hp} {O:Own} {σ:St} {ρ:DSt}:∀ {ks:List AK} {ds ds':List D} {vs:List V} {T:List (D×V)} {r:Nat},gj G σ ks ds vs T→cL ks ds ρ=some ds' →
 (∀ (j:Nat) x,T[j]? = some x→Sep G H O (2 * (r + j) + 1) x.1 [] x.2)→(∀ i∈aw ks,∀ d,ρ[i]? = some (some d)→∃ v,σ[i]? = some (some v)∧Sep G H O (2 * i) d [] v) →
 ds'.length=vs.length∧vs.length=ks.length∧∀ (k:Nat) d,ds'[k]? = some d→∃ v,vs[k]? = some v∧((∃ l,(lbs ks r)[k]? = some (some l)∧(ks.map AK.isM)[k]? = some true∧Sep G H O l d [] v)∨((ks.map AK.isM)[k]? = some false∧Rep G d v))
 | [],[],ds',[],[],r,_,hf,_,_=>by simp [cL] at hf; subst hf; exact ⟨rfl,rfl,fun k d e=>by simp at e⟩
 | .s :: ks,d :: ds,ds',v :: vs,T,r,h,hf,hT,hS=>by
  rw [cL] at hf
  cases e:cL ks ds ρ with
  | none=>rw [e] at hf; cases hf
  | some es =>
   rw [e] at hf; cases hf
   obtain ⟨l1,l2,ih⟩:=fW (ks:=ks) h.2 e hT (fun i hi=>hS i (by simpa [aw] using hi))
   refine ⟨by simp [l1],by simp [l2],fun k d' e'=>?_⟩
   cases k with
   | zero=>simp at e'; subst e'; exact ⟨v,rfl,.inr ⟨rfl,h.1⟩⟩
   | succ k=>obtain ⟨u,g1,g2⟩:=ih k d' (by simpa using e'); exact ⟨u,by simpa using g1,by simpa [lbs] using g2⟩
 | .m i :: ks,d :: ds,ds',v :: vs,T,r,h,hf,hT,hS=>by
  rw [cL] at hf
  cases e0 : ρ[i]? with
  | none=>rw [e0] at hf; cases hf
  | some o =>
   cases o with
   | none=>rw [e0] at hf; cases hf
   | some d0 =>
    rw [e0] at hf
    dsimp only at hf
    cases e:cL ks ds ρ with
    | none=>rw [e] at hf; cases hf
    | some es =>
     rw [e] at hf; cases hf
     obtain ⟨l1,l2,ih⟩:=fW (ks:=ks) h.2 e hT (fun i hi=>hS i (by simp [aw,hi]))
     refine ⟨by simp [l1],by simp [l2],fun k d' e'=>?_⟩
     cases k with
     | zero =>
      simp at e'; subst e'
      obtain ⟨u,g1,g2⟩:=hS i (by simp [aw]) d0 e0
      rw [h.1] at g1; cases g1
      exact ⟨v,rfl,.inl ⟨2 * i,by simp [lbs],rfl,g2⟩⟩
     | succ k=>obtain ⟨u,g1,g2⟩:=ih k d' (by simpa using e'); exact ⟨u,by simpa using g1,by simpa [lbs] using g2⟩
 | .t :: ks,d :: ds,ds',v :: vs,x :: T,r,h,hf,hT,hS=>by
  rw [cL] at hf
  cases e:cL ks ds ρ with
  | none=>rw [e] at hf; cases hf
  | some es =>
   rw [e] at hf; cases hf
   obtain ⟨l1,l2,ih⟩:=fW (ks:=ks) (r:=r + 1) h.2 e (fun j x e=>by rw [show r + 1 + j=r + (j + 1) by omega]; exact hT (j + 1) x (by simpa using e)) (fun i hi=>hS i (by simpa [aw] using hi))
   refine ⟨by simp [l1],by simp [l2],fun k d' e'=>?_⟩
   cases k with
   | zero =>
    simp at e'; subst e'
    have:=hT 0 x rfl
    rw [h.1] at this
    exact ⟨v,rfl,.inl ⟨2 * r + 1,by simp [lbs],rfl,this⟩⟩
   | succ k=>obtain ⟨u,g1,g2⟩:=ih k d' (by simpa using e'); exact ⟨u,by simpa using g1,by simpa [lbs] using g2⟩
 | [],_ :: _,_,_,_,_,h,_,_,_=>h.elim
 | [],[],_,_ :: _,_,_,h,_,_,_=>h.elim
 | [],[],_,[],_ :: _,_,h,_,_,_=>h.elim
 | .s :: _,[],_,_,_,_,h,_,_,_=>h.elim
 | .s :: _,_ :: _,_,[],_,_,h,_,_,_=>h.elim
 | .m _ :: _,[],_,_,_,_,h,_,_,_=>h.elim
 | .m _ :: _,_ :: _,_,[],_,_,h,_,_,_=>h.elim
 | .t :: _,[],_,_,_,_,h,_,_,_=>h.elim
 | .t :: _,_ :: _,_,[],_,_,h,_,_,_=>h.elim
 | .t :: _,_ :: _,_,_ :: _,[],_,h,_,_,_=>h.elim
theorem dY {G:Hp} {σ:St}:∀ {ks:List AK} {ds:List D} {vs:List V} {T:List (D×V)} {k i:Nat},gj G σ ks ds vs T→ks[k]? = some (.m i)→∃ v,vs[k]? = some v∧σ[i]? = some (some v)
 | [],_,_,_,k,i,_,e=>by simp at e
 | .s :: ks,d :: ds,v :: vs,T,0,i,h,e=>by simp at e
 | .s :: ks,d :: ds,v :: vs,T,k + 1,i,h,e=>by obtain ⟨u,g1,g2⟩:=dY (k:=k) h.2 (by simpa using e); exact ⟨u,by simpa using g1,g2⟩
 | .m j :: ks,d :: ds,v :: vs,T,0,i,h,e=>by simp at e; subst e; exact ⟨v,rfl,h.1⟩
 | .m j :: ks,d :: ds,v :: vs,T,k + 1,i,h,e=>by obtain ⟨u,g1,g2⟩:=dY (k:=k) h.2 (by simpa using e); exact ⟨u,by simpa using g1,g2⟩
 | .t :: ks,d :: ds,v :: vs,x :: T,0,i,h,e=>by simp at e
 | .t :: ks,d :: ds,v :: vs,x :: T,k + 1,i,h,e=>by obtain ⟨u,g1,g2⟩:=dY (k:=k) h.2 (by simpa using e); exact ⟨u,by simpa using g1,g2⟩
 | .s :: _,[],_,_,_,_,h,_=>h.elim
 | .s :: _,_ :: _,[],_,_,_,h,_=>h.elim
 | .m _ :: _,[],_,_,_,_,h,_=>h.elim
 | .m _ :: _,_ :: _,[],_,_,_,h,_=>h.elim
 | .t :: _,[],_,_,_,_,h,_=>h.elim
 | .t :: _,_ :: _,[],_,_,_,h,_=>h.elim
 | .t :: _,_ :: _,_ :: _,[],_,_,h,_=>h.elim
def bT:List AK→DSt→DSt→DSt
 | .m i :: ks,x :: ρ2,ρ=>bT ks ρ2 (ρ.set i x)
 | _ :: ks,_ :: ρ2,ρ=>bT ks ρ2 ρ
 | _,_,ρ=>ρ
def eC:List AK→DSt→DSt→DSt
 | .s :: ks,os,ρ=>eC ks os ρ
 | .m i :: ks,o :: os,ρ=>eC ks os (ρ.set i o)
 | .t :: ks,_ :: os,ρ=>eC ks os ρ
 | _,_,ρ=>ρ
theorem f9:∀ {ks:List AK} {ρ2 ρ:DSt},ρ2.length=ks.length→eC ks (mus (ks.map AK.isM) ρ2) ρ=bT ks ρ2 ρ
 | [],[],ρ,_=>rfl
 | .s :: ks,x :: ρ2,ρ,h=>by simp only [List.map,AK.isM,mus,eC,bT]; exact f9 (by simpa using h)
 | .m i :: ks,x :: ρ2,ρ,h=>by simp only [List.map,AK.isM,mus,eC,bT]; exact f9 (by simpa using h)
 | .t :: ks,x :: ρ2,ρ,h=>by simp only [List.map,AK.isM,mus,eC,bT]; exact f9 (by simpa using h)
theorem eJ:∀ {ks:List AK} {ρ2 ρ:DSt},(bT ks ρ2 ρ).length=ρ.length
 | [],_,_=>by simp [bT]
 | .s :: ks,[],_=>by simp [bT]
 | .m i :: ks,[],_=>by simp [bT]
 | .t :: ks,[],_=>by simp [bT]
 | .s :: ks,x :: ρ2,ρ=>by simp only [bT]; exact eJ
 | .m i :: ks,x :: ρ2,ρ=>by simp only [bT]; rw [eJ]; simp
 | .t :: ks,x :: ρ2,ρ=>by simp only [bT]; exact eJ
theorem eM:∀ {ks:List AK} {ρ2 ρ:DSt} {i:Nat},i ∉ aw ks→(bT ks ρ2 ρ)[i]? = ρ[i]?
 | [],_,_,_,_=>by simp [bT]
 | .s :: ks,[],_,_,_=>by simp [bT]
 | .m i :: ks,[],_,_,_=>by simp [bT]
 | .t :: ks,[],_,_,_=>by simp [bT]
 | .s :: ks,x :: ρ2,ρ,i,h=>by simp only [bT]; exact eM (by simpa [aw] using h)
 | .t :: ks,x :: ρ2,ρ,i,h=>by simp only [bT]; exact eM (by simpa [aw] using h)
 | .m j :: ks,x :: ρ2,ρ,i,h=>by
  simp only [bT]
  simp only [aw,List.mem_cons,not_or] at h
  rw [eM h.2,List.getElem?_set_ne (Ne.symm h.1)]
theorem d_:∀ {ks:List AK} {ρ2 ρ:DSt} {i:Nat} {d:D},(bT ks ρ2 ρ)[i]? = some (some d)→ρ2.length=ks.length→(i ∉ aw ks∧ρ[i]? = some (some d))∨∃ k:Nat,ks[k]? = some (.m i)∧ρ2[k]? = some (some d)
 | [],[],ρ,i,d,h,_=>.inl ⟨by simp [aw],by simpa [bT] using h⟩
 | .s :: ks,x :: ρ2,ρ,i,d,h,hl=>by
  simp only [bT] at h
  rcases d_ h (by simpa using hl) with ⟨h1,h2⟩ | ⟨k,h1,h2⟩
  ·exact .inl ⟨by simpa [aw] using h1,h2⟩
  ·exact .inr ⟨k + 1,by simpa using h1,by simpa using h2⟩
 | .t :: ks,x :: ρ2,ρ,i,d,h,hl=>by
  simp only [bT] at h
  rcases d_ h (by simpa using hl) with ⟨h1,h2⟩ | ⟨k,h1,h2⟩
  ·exact .inl ⟨by simpa [aw] using h1,h2⟩
  ·exact .inr ⟨k + 1,by simpa using h1,by simpa using h2⟩
 | .m j :: ks,x :: ρ2,ρ,i,d,h,hl=>by
  simp only [bT] at h
  rcases d_ h (by simpa using hl) with ⟨h1,h2⟩ | ⟨k,h1,h2⟩
  ·rcases dE h2 with ⟨rfl,rfl⟩ | ⟨h3,h4⟩
   ·exact .inr ⟨0,rfl,rfl⟩
   ·exact .inl ⟨by simp [aw,h1,h3],h4⟩
  ·exact .inr ⟨k + 1,by simpa using h1,by simpa using h2⟩
theorem lZ:∀ {ks:List AK} {r k i:Nat},ks[k]? = some (.m i)→(lbs ks r)[k]? = some (some (2 * i))
 | [],_,_,_,e=>by simp at e
 | .s :: ks,r,0,i,e=>by simp at e
 | .s :: ks,r,k + 1,i,e=>by simp only [lbs,List.getElem?_cons_succ]; exact lZ (by simpa using e)
 | .m j :: ks,r,0,i,e=>by simp at e; subst e; simp [lbs]
 | .m j :: ks,r,k + 1,i,e=>by simp only [lbs,List.getElem?_cons_succ]; exact lZ (by simpa using e)
 | .t :: ks,r,0,i,e=>by simp at e
 | .t :: ks,r,k + 1,i,e=>by simp only [lbs,List.getElem?_cons_succ]; exact lZ (by simpa using e)
theorem d7:∀ {ks:List AK} {r k l:Nat},(lbs ks r)[k]? = some (some l)→(ks.map AK.isM)[k]? = some true
 | [],_,_,_,e=>by simp [lbs] at e
 | .s :: ks,r,0,i,e=>by simp [lbs] at e
 | .s :: ks,r,k + 1,i,e=>by simp only [lbs,List.getElem?_cons_succ] at e; simp only [List.map,List.getElem?_cons_succ]; exact d7 e
 | .m j :: ks,r,0,i,e=>rfl
 | .m j :: ks,r,k + 1,i,e=>by simp only [lbs,List.getElem?_cons_succ] at e; simp only [List.map,List.getElem?_cons_succ]; exact d7 e
 | .t :: ks,r,0,i,e=>rfl
 | .t :: ks,r,k + 1,i,e=>by simp only [lbs,List.getElem?_cons_succ] at e; simp only [List.map,List.getElem?_cons_succ]; exact d7 e
theorem oG {ks:List AK} {k i:Nat} (h:ks[k]? = some (.m i)):i∈aw ks:=by
 induction ks generalizing k with
 | nil=>simp at h
 | cons x ks ih =>
  cases k with
  | zero=>simp at h; subst h; simp [aw]
  | succ k=>have:=ih (by simpa using h); cases x <;> simp [aw,this]
theorem l5 {C:Ctx} {ow:List Bool} {G:Hp} {ρ:DSt} {σ:St} {H:Hp} {pd T:List (D×V)} {ks:List AK} {ds ds':List D} {vs:List V} {fr:Bool} {sd:SpD} {q:D→DSt→Prop} {Q:VK} {E:XK}
 (hn:C.np≤pd.length) (r:R C ow G ρ σ H (T.reverse++pd)) (ha:gj G σ ks ds vs T) (hf:cL ks ds ρ=some ds') (nd:(aw ks).Nodup) (hw:∀ i∈aw ks,ow[i]? = some true)
 (h:sd ds' fun d os=>q d (eC ks os ρ))
 (k:∀ d ρ' v G' H',q d ρ'→az G G'→Kp ow ρ ρ'→(if fr=true then R C ow G' ρ' σ H' ((d,v) :: pd) else R C ow G' ρ' σ H' pd∧Rep G' d v)→Q v H'):bj (ks.map AK.isM) fr sd vs H Q E:=by
 obtain ⟨O,ro⟩:=r
 have pn:=ro.pn
 obtain ⟨l1,l2,hat⟩:=fW (O:=O) (H:=H) (r:=pd.length) ha hf (fun j x e=>ix pn e) (fun i hi d e=>by
  obtain ⟨v,h1,h2⟩:=ro.sl i d e; rw [if_pos (hw i hi)] at h2; exact ⟨v,h1,h2⟩)
 let lb:=lbs ks pd.length
 let fin:Nat→Option Nat:=fun l=>(fnd l lb 0).map (2 * ·)
 let fbk:Nat→Option Nat:=fun l=>if l=1 then some (2 * pd.length + 1) else if l % 2=0 then (match lb[l / 2]? with | some o=>o | none=>none) else none
 have uq:=eQ (ks:=ks) (r:=pd.length) nd
 have fin_at:∀ (i l:Nat),lb[i]? = some (some l)→fin l=some (2 * i):=fun i l e=>by
  show (fnd l lb 0).map _=_
  rw [nr uq e]; simp
 have fin_of:∀ l l',fin l=some l'→∃ i,l'=2 * i∧lb[i]? = some (some l):=fun l l' e=>by
  change (fnd l lb 0).map _=_ at e
  cases z:fnd l lb 0 with
  | none=>rw [z] at e; cases e
  | some j=>rw [z] at e; cases e; obtain ⟨i,rfl,e2⟩:=nJ z; exact ⟨i,by show 2 * (0 + i)=2 * i; omega,e2⟩
 have fin_none:∀ l,(∀ i:Nat,lb[i]?≠some (some l))→fin l=none:=fun l e=>by
  show (fnd l lb 0).map _=_
  rw [iW e]; rfl
 have ri:=ro.into (mu:=ks.map AK.isM) (fin:=fin) (ds:=ds') (vs:=vs) l1 (fun j d e=>by
  obtain ⟨v,h1,h2⟩:=hat j d e
  refine ⟨v,h1,?_⟩
  rcases h2 with ⟨l,h2,h3,h4⟩ | ⟨h2,h3⟩
  ·rw [if_pos h3]; exact ⟨l,h4,fin_at j l h2⟩
  ·rw [if_neg (by rw [h2]; decide)]; exact h3) (fun l l' e=>by
  obtain ⟨i,rfl,e2⟩:=fin_of l l' e
  exact ⟨i,rfl,d7 e2,by have:=(List.getElem?_eq_some_iff.mp (d7 e2)).1; rw [List.length_map] at this; omega⟩)
 refine ⟨_,G,ds',fun d os=>q d (eC ks os ρ),rfl,rfl,⟨_,ri⟩,h,by rw [List.length_map,l1,l2],?_⟩
 intro d ρ2 σ2 v G2 H2 hq z hl hr
 rw [List.length_map] at hl
 rw [f9 hl] at hq
 have out:∀ (pd2 pd3:List (D×V)) (O2:Own),RO ⟨G,H,b7 fin O,msV (ks.map AK.isM) vs,0⟩ (ks.map AK.isM) G2 ρ2 σ2 H2 pd2 O2→C.np≤pd3.length →
  (∀ (O3:Own),(∀ a l π,O a=some (l,π)→fin l=none→O3 a=some (l,π)∧H2 a=H a)→(∀ a l l' π,O2 a=some (l',π)→fbk l'=some l→O3 a=some (l,π))→ce G G2→bE G2 H2 O3 pd3) →
  RO C ow G2 (bT ks ρ2 ρ) σ H2 pd3 (kP fin fbk O O2):=fun pd2 pd3 O2 r2 hn3 hP=>by
  refine ro.out (vs:=vs) r2 ?_ (by rw [eJ]; exact ro.len) hn3 ?_ ?_ hP
  ·intro l0 l' l e1 e2
   obtain ⟨i,rfl,e3⟩:=fin_of l0 l' e1
   change (if 2 * i=1 then _ else if 2 * i % 2=0 then _ else _)=_ at e2
   rw [if_neg 'a',if_pos 'a',show 2 * i / 2=i by omega,e3] at e2
   exact (Option.some.inj e2).symm
  ·intro i d c e
   rcases d_ e hl with ⟨_,h2⟩ | ⟨k,h1,_⟩
   ·exact h2
   ·exact absurd (hw i (oG h1)) c
  ·intro i d c e
   rcases d_ e hl with ⟨h1,h2⟩ | ⟨j,h1,h2⟩
   ·refine .inl ⟨fin_none _ fun j e=>?_,h2⟩
    rcases b9 e with ⟨z,h3,h4⟩ | ⟨z,h3,h4⟩
    ·exact h1 (by rw [show i=z by omega]; exact h3)
    ·omega
   ·obtain ⟨u,g1,g2⟩:=dY ha h1
    have im:(ks.map AK.isM)[j]? = some true:=by rw [List.getElem?_map,h1]; rfl
    refine .inr ⟨j,u,?_,im,h2,g2,r2.mp j u (km im g1)⟩
    show (if 2 * j=1 then _ else if 2 * j % 2=0 then _ else _)=_
    rw [if_neg 'a',if_pos 'a',show 2 * j / 2=j by omega,lZ h1]
 have pdk:∀ (O3:Own),(∀ a l π,O a=some (l,π)→fin l=none→O3 a=some (l,π)∧H2 a=H a)→ce G G2→bE G2 H2 O3 pd:=fun O3 h1 ts =>
  bE.keep ts (fun a j π hj e=>h1 a _ _ e (fin_none _ fun i e=>by
   rcases b9 e with ⟨z,h3,h4⟩ | ⟨z,h3,h4⟩ <;> omega)) (dQ (T:=T.reverse) pn)
 have kp:Kp ow ρ (bT ks ρ2 ρ):=fun j hj=>eM fun hs=>hj (hw j hs)
 refine k d (bT ks ρ2 ρ) v G2 H2 hq z kp ?_
 unfold Ret at hr
 split at hr
 ·rename_i c
  rw [if_pos c]
  obtain ⟨O2,r2⟩:=hr
  refine ⟨_,out _ ((d,v) :: pd) O2 r2 (Nat.le_succ_of_le hn) fun O3 h1 h2 ts=>⟨?_,pdk O3 h1 ts⟩⟩
  exact r2.pn.1.keep 'r' fun a τ e=>⟨h2 a _ _ _ e (by show (if 2 * 0 + 1=1 then _ else _)=_; rw [if_pos rfl]),rfl⟩
 ·rename_i c
  rw [if_neg c]
  obtain ⟨⟨O2,r2⟩,p⟩:=hr
  exact ⟨⟨_,out _ pd O2 r2 hn fun O3 h1 h2 ts=>pdk O3 h1 ts⟩,p⟩
section
variable {X:Cx} {ow:List Bool} {a b c e tg:Expr} {ma mb mc:ME} {pos p':Pos} {mr:MA} {es:List Expr} {ks:List AK} {x:Str}
def oJ (ks:List AK) (sd:SpD) (m:MA):ME:=fun ρ q=>m ρ fun ds ρ1=>match cL ks ds ρ1 with
 | some ds'=>sd ds' fun d os=>q d (eC ks os ρ1)
 | none=>False
theorem uz {k:Nat} {f:Addr} {fd:FuncData} {ps:List Str} {mu:List Bool} {sd:SpD} (F:FnOk X.prog X.w X.K X.mg X.base CX0 k f fd ps (bj mu false sd)) (hr:Room k X.A) (hg:Gl X x) (hm:X.mg x=some (.ref f)) (hk:PySem.W.keepIn X.K (.ref f)=true) (hb:cD X.K fd ps [])
 (ha:QAk X ow ks (e :: es) mr) (hmu:mu=ks.map AK.isM:=by rfl) (nd:(aw ks).Nodup:=by decide) (hw:∀ i∈aw ks,ow[i]? = some true:=by decide) (hdb:'d'=false:=by decide)
 (he:starEach (e :: es) X.env='n' :: starEach es X.env:=by rfl) (hpl:'m'.any (·.1)=false:=by rfl):QE X ow (.Call (.Name x p') (e :: es) [] pos) (oJ ks sd mr):=by
 obtain ⟨t,p,s⟩:=ha
 subst hmu
 refine ⟨_,oK F hr hg hm hk hb .nil vt p hdb he hpl,fun C G ρ σ H pd q Q r hm k=>s C G ρ σ H pd _ _ r hm fun ds ρ' vs T G' H' hq z kp r' p=>?_⟩
 rw [List.append_nil]
 split at hq
 ·rename_i ds' ef
  exact l5 (fr:=false) r.np r' p ef nd hw hq fun d ρ2 v G2 H2 hq2 z2 kp2 h2=>by
   rw [if_neg 'k'] at h2
   exact k d ρ2 v G2 H2 hq2 (z.trans z2) (kp.trans kp2) h2.1 h2.2
 ·exact hq.elim
theorem uo {k:Nat} {f:Addr} {fd:FuncData} {ps:List Str} {mu:List Bool} {sd:SpD} (F:FnOk X.prog X.w X.K X.mg X.base CX0 k f fd ps (bj mu true sd)) (hr:Room k X.A) (hg:Gl X x) (hm:X.mg x=some (.ref f)) (hk:PySem.W.keepIn X.K (.ref f)=true) (hb:cD X.K fd ps [])
 (ha:QAk X ow ks (e :: es) mr) (hmu:mu=ks.map AK.isM:=by rfl) (nd:(aw ks).Nodup:=by decide) (hw:∀ i∈aw ks,ow[i]? = some true:=by decide) (hdb:'d'=false:=by decide)
 (he:starEach (e :: es) X.env='n' :: starEach es X.env:=by rfl) (hpl:'m'.any (·.1)=false:=by rfl):QF X ow (.Call (.Name x p') (e :: es) [] pos) (oJ ks sd mr):=by
 obtain ⟨t,p,s⟩:=ha
 subst hmu
 refine ⟨_,oK F hr hg hm hk hb .nil vt p hdb he hpl,fun C G ρ σ H pd q Q r hm k=>s C G ρ σ H pd _ _ r hm fun ds ρ' vs T G' H' hq z kp r' p=>?_⟩
 rw [List.append_nil]
 split at hq
 ·rename_i ds' ef
  exact l5 (fr:=true) r.np r' p ef nd hw hq fun d ρ2 v G2 H2 hq2 z2 kp2 h2=>by
   rw [if_pos rfl] at h2
   exact k d ρ2 v G2 H2 hq2 (z.trans z2) (kp.trans kp2) h2
 ·exact hq.elim
end
theorem RO.grow {C:Ctx} {mu ow:List Bool} {G:Hp} {ds:List D} {vs:List V} {H:Hp} {O:Own} (n:Nat) (h:RO C mu G (ds.map some) (vs.map some) H [] O) (ho:∀ i:Nat,i<ds.length→ow[i]? = mu[i]?) :
 RO C ow G (ds.map some++List.replicate n none) (vs.map some++List.replicate n none) H [] O:=by
 have hl:ds.length=vs.length:=by simpa using h.len
 have up:∀ {α:Type} {l:List α} {i:Nat} {d : α},(l.map some++List.replicate n none)[i]? = some (some d)→i<l.length∧(l.map some)[i]? = some (some d):=fun {α l i d} e=>by
  by_cases c:i<l.length
  ·rw [List.getElem?_append_left (by simpa using c)] at e; exact ⟨c,e⟩
  ·rw [List.getElem?_append_right (by simpa using c)] at e
   rw [List.getElem?_replicate] at e
   split at e <;> cases e
 refine ⟨by simp [hl],h.gh,h.g0,h.gn,h.og,h.cok,h.fr,h.al,?_,?_,h.pn,h.np⟩
 ·intro i v e
  have:=h.mp i v e
  rw [List.getElem?_append_left (dZ this)]; exact this
 ·intro i d e
  obtain ⟨c,e1⟩:=up e
  obtain ⟨v,h1,h2⟩:=h.sl i d e1
  exact ⟨v,by rw [List.getElem?_append_left (dZ h1)]; exact h1,by rw [ho i c]; exact h2⟩
theorem RO.trim {C:Ctx} {mu ow:List Bool} {G:Hp} {ρ:DSt} {σ:St} {H:Hp} {pd:List (D×V)} {O:Own} (h:RO C ow G ρ σ H pd O) (hm:fG C mu) (ho:∀ i:Nat,i<mu.length→ow[i]? = mu[i]?) :
 RO C mu G (bY mu.length ρ) (bY mu.length σ) H pd O:=by
 refine ⟨by rw [b6,b6],h.gh,h.g0,h.gn,h.og,h.cok,h.fr,h.al,?_,?_,h.pn,h.np⟩
 ·intro i v e
  exact kF (lt_of_slot' (hm i v e)) (h.mp i v e)
 ·intro i d e
  obtain ⟨c,e1⟩:=kr e
  obtain ⟨v,h1,h2⟩:=h.sl i d e1
  exact ⟨v,kF c h1,by rw [← ho i c]; exact h2⟩
where
 lt_of_slot' {l:List Bool} {i:Nat} {x:Bool} (h:l[i]? = some x):i<l.length:=(List.getElem?_eq_some_iff.mp h).1
def iN (mu:List Bool) (q:D→DSt→Prop):EndsD:=⟨fun ρ=>q .non (mus mu ρ),fun d ρ=>q d (mus mu ρ),fun _=>False,fun _=>False⟩
theorem fnD {P:Program} {w:World} {K:PySem.W.Frag} {mg:Str→Option Value} {base:Heap} {x qual:Str} {st:Stmt} {f:Addr} {fd:FuncData} {N ps:List Str} {k:Nat} (F:Fun K x qual st f fd) (S:FnScope N ps (ai st)) (M:Md) (sd:SpD)
 (hl:∀ ds q,sd ds q→ds.length=ps.length) (ho:M.ow.take ps.length=M.mu) (hml:M.mu.length=ps.length)
 (hbody:∀ (cdv:Value) (A:Around) (outer:List Env) (s:Shared) (H:Hp) (E:XK),Room k (A.deeper (envOfC qual (ai st) s.heap.objs.size f cdv)) →
  ∃ m,QSs (iJ CX0 P w K mg base N qual (ai st) f cdv A outer s H E).nox M (bU st) m∧∀ ds q,sd ds q→m (iN M.mu q) (ds.map some++List.replicate (N.length - ps.length) none)) :
 FnOk P w K mg base CX0 (k + 1) f fd ps (bj M.mu M.fr sd):=by
 have hov:∀ i:Nat,i<M.mu.length→M.ow[i]? = M.mu[i]?:=fun i hi=>by rw [← ho,List.getElem?_take_of_lt 'a']
 have hlen:∀ vs H Q E,bj M.mu M.fr sd vs H Q E→vs.length=ps.length:=fun vs H Q E ⟨C,G,ds,q,_,_,⟨O,ro⟩,h1,_,_⟩=>by
  have:=ro.len; simp at this; rw [← this]; exact hl ds q h1
 refine F.ok S hlen fun cdv A outer s H vs Q E hr hsp=>?_
 obtain ⟨m,⟨t,p,ss⟩,hm⟩:=hbody cdv A outer s H E hr
 have hvl:=hlen vs H Q E hsp
 obtain ⟨C,G,ds,q,hnp,hmu,⟨O,ro⟩,hsd,hml2,kk⟩:=hsp
 refine ⟨t,p,?_⟩
 have hmo:fG C M.mu:=fun i v e=>by rw [hmu] at e; exact (kf e).1
 have r0:R C M.ow G (ds.map some++List.replicate (N.length - ps.length) none) (de N vs) H []:=by
  unfold de; rw [hvl]
  exact ⟨O,ro.grow _ fun i hi=>hov i 'a'⟩
 refine ss C G _ _ H (iN M.mu q) _ hmo hnp r0 (hm ds q hsd) ⟨?_,fun _ _ _ _ h=>h.elim,fun _ _ _ _ h=>h.elim,?_⟩
 ·intro ρ σ G' H' h z ⟨O',r'⟩
  refine kk .non (bY M.mu.length ρ) (bY M.mu.length σ) .non G' H' (by rw [b5]; exact h) z (b6 _ _) (R.non ⟨O',r'.trim hmo hov⟩)
 ·intro d ρ σ v G' H' h z hr'
  refine kk d (bY M.mu.length ρ) (bY M.mu.length σ) v G' H' (by rw [b5]; exact h) z (b6 _ _) ?_
  unfold Ret at hr' ⊢
  split at hr'
  ·rename_i c; rw [if_pos c]; obtain ⟨O',r'⟩:=hr'; exact ⟨O',r'.trim hmo hov⟩
  ·rename_i c; rw [if_neg c]; obtain ⟨⟨O',r'⟩,p⟩:=hr'; exact ⟨⟨O',r'.trim hmo hov⟩,p⟩
theorem Seps.mk {G H:Hp} {O:Own} {i:Nat}:∀ {T:List (D×V)} {k:Nat} {π:List Nat},(∀ (j:Nat) x,T[j]? = some x→Sep G H O i x.1 ((k + j) :: π) x.2)→Seps G H O i (T.map (·.1)) k π (T.map (·.2))
 | [],_,_,_=>by simp; rw [Seps]
 | x :: T,k,π,h=>by
  simp only [List.map]; rw [Seps]
  exact ⟨x.2,_,rfl,by simpa using h 0 x rfl,Seps.mk fun j y e=>by rw [show k + 1 + j=k + (j + 1) by omega]; exact h (j + 1) y (by simpa using e)⟩
section
variable {C:Ctx} {ow:List Bool} {G:Hp} {ρ:DSt} {σ:St} {H:Hp} {pd T:List (D×V)} {O:Own}
theorem RO.gather (h:RO C ow G ρ σ H (T.reverse++pd) O) (hn:C.np≤pd.length):∃ O',RO C ow G ρ σ H pd O'∧Seps G H O' (2 * pd.length + 1) (T.map (·.1)) 0 [] (T.map (·.2)):=by
 refine ⟨lab (fun l π=>if l % 2=1∧pd.length≤l / 2 then (2 * pd.length + 1,π++[l / 2 - pd.length]) else (l,π)) O,⟨h.len,h.gh,h.g0,h.gn,?_,h.cok,h.fr,h.al,h.mp,?_,?_,hn⟩,?_⟩
 ·intro a m e
  obtain ⟨l,π,e1,rfl⟩:=i7 e
  obtain ⟨q1,q2,q3⟩:=h.og a _ e1
  refine ⟨q1,q2,?_⟩
  split
  ·rename_i z
   rcases q3 with q3 | ⟨_,q3⟩
   ·exact .inl q3
   ·rcases h.cok _ _ _ q3 with ⟨k,_,q4,_⟩ | ⟨k,q4,q5⟩
    ·omega
    ·omega
  ·exact q3
 ·intro j e q
  obtain ⟨u,h1,h2⟩:=h.sl j e q
  refine ⟨u,h1,?_⟩
  split at h2
  ·rename_i c; rw [if_pos c]; exact h2.keep 'r' fun a τ q=>⟨by rw [bR q,if_neg 'a'],rfl⟩
  ·rename_i c; rw [if_neg c]; exact h2
 ·exact bE.keep 'r' (fun a j π hj q=>⟨by rw [bR q,if_neg 'a'],rfl⟩) (dQ (T:=T.reverse) h.pn)
 ·refine Seps.mk fun j x e=>?_
  have:=ix h.pn e
  refine Sep.map (f:=fun π=>π++[0 + j]) 'r' 'f' x.1 [] x.2 (fun a τ q=>⟨?_,rfl⟩) this
  rw [bR q,if_pos 'a']
  rw [show (2 * (pd.length + j) + 1) / 2 - pd.length=0 + j by omega]
theorem RO.newT (h:RO C ow G ρ σ H pd O) {p:Addr} (hp:H p=none) {ds:List D} {vs:List V} (hs:Seps G H O (2 * pd.length + 1) ds 0 [] vs):R C ow (upd G p (.tup vs)) ρ σ (upd H p (.tup vs)) ((.tup ds,.ref p) :: pd)∧az G (upd G p (.tup vs)):=by
 obtain ⟨r,z⟩:=h.new hp (.tup vs)
 refine ⟨⟨O,r.len,r.gh,r.g0,r.gn,r.og,r.cok,r.fr,r.al,r.mp,r.sl,⟨?_,r.pn⟩,Nat.le_succ_of_le r.np⟩,z⟩
 rw [Sep]
 exact ⟨p,vs,rfl,ao,hs.keep z.ts fun a τ _ q=>⟨q,ah (fun e=>by obtain ⟨_,⟨xs,w⟩,_⟩:=h.og a _ q; rw [e,hp] at w; cases w)⟩⟩
end
def SFm (M:Md) (t:TE) (m:ME):Prop:=∀ (C:Ctx) (G:Hp) (ρ:DSt) (σ:St) (H:Hp) (pd:List (D×V)) (q:D→DSt→Prop) (Q:VK),fG C M.mu→R C M.ow G ρ σ H pd→m ρ q →
 (∀ d ρ' v G' H',q d ρ'→az G G'→R C M.ow G' ρ' σ H' ((d,v) :: pd)→Q v H')→t σ H Q
structure QM (X:Cx) (M:Md) (e:Expr) (m:ME):Prop where
 ex:∃ t,PE X e t∧SFm M t m
def SAm (M:Md) (n:Nat) (t:TA) (m:MA):Prop:=∀ (C:Ctx) (G:Hp) (ρ:DSt) (σ:St) (H:Hp) (pd:List (D×V)) (q:List D→DSt→Prop) (Q:List V→Hp→Prop),fG C M.mu→R C M.ow G ρ σ H pd→m ρ q →
 (∀ (T:List (D×V)) ρ' G' H',q (T.map (·.1)) ρ'→az G G'→R C M.ow G' ρ' σ H' (T.reverse++pd)→T.length=n→Q (T.map (·.2)) H')→t σ H Q
structure QMs (X:Cx) (M:Md) (es:List Expr) (m:MA):Prop where
 ex:∃ t,PA X es t∧SAm M es.length t m
section
variable {X:Cx} {M:Md} {a b c e:Expr} {ma mb mc:ME} {pos pos':Pos} {mr:MA} {es:List Expr}
theorem QF.qm (h:QF X M.ow e ma):QM X M e ma:=by
 obtain ⟨t,p,s⟩:=h
 exact ⟨_,p,fun C G ρ σ H pd q Q hm r h k=>s C G ρ σ H pd q Q r h fun d ρ' v G' H' hq z kp r'=>k d ρ' v G' H' hq z r'⟩
theorem fS (i:Nat) {x:Str} (ho:M.ow[i]? = some true:=by decide) (hu:M.mu[i]?≠some true:=by decide) (hN:X.N[i]? = some x:=by rfl) (hv:Vis X.env.scope x:=by first | exact Or.inl rfl | exact Or.inr 'c' | exact Or.inr (Or.inr rfl)) (hd:'d'=false:=by decide)
 (hcd:(x == ("__classdict__":Str))=false:=by decide):QM X M (.Name x pos) (vf i):=⟨_,dq hN hv hd hcd,fun C G ρ σ H pd q Q hm r h k=>by
 unfold vf at h
 split at h
 ·rename_i d e
  obtain ⟨O,ro⟩:=r
  obtain ⟨v,h1,h2⟩:=ro.move e ho (hm.no hu)
  exact ⟨v,h1,k d _ v G H h (az.refl _) h2⟩
 ·exact h.elim⟩
theorem ii:QMs X M [] pw:=⟨_,bI,fun C G ρ σ H pd q Q hm r h k=>k [] ρ G H h (az.refl _) r rfl⟩
theorem cB (ha:QM X M e ma) (hr:QMs X M es mr) (hs:starEach (e :: es) X.env='n' :: starEach es X.env:=by rfl):QMs X M (e :: es) (fv ma mr):=by
 obtain ⟨t,p,s⟩:=ha; obtain ⟨t2,p2,s2⟩:=hr
 refine ⟨_,aX p p2 hs,fun C G ρ σ H pd q Q hm r h k=>s C G ρ σ H pd _ _ hm r h fun d ρ' v G' H' hq z r'=>?_⟩
 exact s2 C G' ρ' σ H' _ _ _ hm r' hq fun T ρ2 G2 H2 hq2 z2 r2 hn=>k ((d,v) :: T) ρ2 G2 H2 hq2 (z.trans z2) (by simpa using r2) (by simp [hn])
theorem kz {x1} (h:QMs X M es mr) (hl:es.length≤1000:=by decide):QM X M (.Tuple es x1 pos) (mTup mr):=by
 obtain ⟨t,p,s⟩:=h
 refine ⟨_,mP p,fun C G ρ σ H pd q Q hm r h k=>s C G ρ σ H pd _ _ hm r h fun T ρ' G' H' hq z r' hn=>⟨b8 (by simp; omega),fun a ha=>?_⟩⟩
 obtain ⟨O,r'⟩:=r'
 obtain ⟨O2,r2,s2⟩:=r'.gather r.np
 obtain ⟨r3,z3⟩:=r2.newT ha s2
 exact k _ ρ' _ _ _ hq (z.trans z3) r3
theorem bW (h:QM X M e ma) (hf:M.fr=true:=by rfl):QS X M (.Return (some e) pos) (mRet ma):=by
 obtain ⟨t,p,s⟩:=h
 refine ⟨_,mG p,fun C G ρ σ H n D hm hn r h k=>s C G ρ σ H [] _ _ hm r h fun d ρ' v G' H' hq z r'=>k.rt d ρ' σ v G' H' hq z (by unfold Ret; rw [if_pos hf]; exact r')⟩
end
def kU (g:MG) (mt:MT) (me:ME) (ρ0:DSt) (ds:List D) (K:List D→Prop):Prop:=∃ I:Nat→List D→Prop,I 0 [] ∧
 (∀ i d es,ds[i]? = some d→I i es→g d ρ0 fun ρ2=>mt ρ2 fun b ρ3=>if b=true then me ρ3 fun x _=>I (i + 1) (es++[x]) else I (i + 1) es)∧∀ es,I ds.length es→K es
def dl (k:Nat) (js:List Nat) (ρ:DSt):DSt:=List.replicate k none++js.map fun j=>(ρ[j]?).getD none
def vv (mi:MA) (g:MG) (mt:MT) (me:ME) (k:Nat) (js:List Nat):ME:=fun ρ q=>mi ρ fun ds ρ1=>ds.length≤1000∧kU g mt me (dl k js ρ1) ds fun es=>imms es=true∧q (.lst es) ρ1
def mF (mi:MA) (g:MG) (mt:MT) (me:ME) (k:Nat) (js:List Nat):ME:=fun ρ q=>mi ρ fun ds ρ1=>ds.length≤1000∧kU g mt me (dl k js ρ1) ds fun es=>q (.lst es) ρ1
structure QIf (X:Cx) (ow:List Bool) (ifs:List Expr) (m:MT):Prop where
 ex:∃ t,PIf X ifs t∧STe ow t m
theorem cN {X:Cx} {ow:List Bool}:QIf X ow [] (lf true):=⟨_,uY,mT true⟩
theorem uv {X:Cx} {ow:List Bool} {c:Expr} {mt:MT} (h:QT X ow c mt):QIf X ow [c] mt:=by obtain ⟨t,p,s⟩:=h; exact ⟨_,tR p,s⟩
section
variable {C:Ctx} {ow:List Bool} {G:Hp} {ρ:DSt} {σ:St} {H:Hp} {pd:List (D×V)} {O:Own}
theorem RO.inner (h:RO C ow G ρ σ H pd O) (own:List Str) (js:List Nat) (hj:∀ j∈js,ow[j]?≠some true) :
 RO ⟨G,H,b7 (fun _=>none) O,[],0⟩ [] G (dl own.length js ρ) (bB own js σ) H [] (b7 (fun _=>none) O):=by
 have no:∀ a,b7 (fun _=>none) O a=none:=fun a=>by unfold b7; cases O a <;> rfl
 refine ⟨by simp [dl,bB],h.gh,fun _ _ e=>e,fun _ _ e=>.inl e,fun a l e=>?_,fun a l π e=>?_,fun _ _ e _=>e,fun _ e=>e,fun i v e=>by simp at e,?_,trivial,Nat.le_refl _⟩
 ·rw [no] at e; cases e
 ·exact absurd (e.symm.trans (no a)) (by simp)
 ·intro i d e
  unfold dl at e
  by_cases c:i<own.length
  ·rw [List.getElem?_append_left (by simpa using c),List.getElem?_replicate] at e
   split at e <;> cases e
  ·rw [List.getElem?_append_right (by simpa using c),List.getElem?_map] at e
   simp only [List.length_replicate] at e
   cases z:js[i - own.length]? with
   | none=>rw [z] at e; cases e
   | some j =>
    rw [z] at e
    have e':(ρ[j]?).getD none=some d:=Option.some.inj e
    have e2 : ρ[j]? = some (some d):=by
     cases w : ρ[j]? with
     | none=>rw [w] at e'; cases e'
     | some o=>rw [w] at e'; exact congrArg some e'
    obtain ⟨v,h1,h2⟩:=h.sl j d e2
    rw [if_neg (hj j (List.mem_of_getElem? z))] at h2
    refine ⟨v,?_,by simpa using h2⟩
    unfold bB
    rw [List.getElem?_append_right (by simpa using c),List.getElem?_map]
    simp only [List.length_map]
    rw [z,show (some j).map _=some ((σ[j]?).getD none) from rfl,h1]; rfl
end
theorem RO.back {C:Ctx} {ow:List Bool} {G G':Hp} {ρ0 ρ2:DSt} {σ0 σ2:St} {H H':Hp} {pd:List (D×V)} {O O':Own} (h0:RO C ow G ρ0 σ0 H pd O) (hn:∀ i:Nat,ow[i]?≠some true) (h:RO C ow G' ρ2 σ2 H' pd O') (z:az G G'):RO C ow G' ρ0 σ0 H' pd O' :=
 ⟨h0.len,h.gh,h.g0,h.gn,h.og,h.cok,h.fr,h.al,h0.mp,fun i d e=>by
  obtain ⟨v,h1,h2⟩:=h0.sl i d e
  rw [if_neg (hn i)] at h2
  exact ⟨v,h1,by rw [if_neg (hn i)]; exact h2.mono z⟩,h.pn,h.np⟩
theorem iY {ow:List Bool} {J:It} {g:TG} {mg:MG} {tt:TT} {mt:MT} {te:TE} {me:ME} {C:Ctx} {G:Hp} {ρ:DSt} {σ:St} {H:Hp} {pd:List (D×V)} {ds:List D} {own:List Str} {js:List Nat} {K:List D→Prop} {Z:List V→Hp→Prop}
 (r:R C ow G ρ σ H pd) (hj:∀ j∈js,ow[j]?≠some true) (jo:j8 J G ds) (sg:SG ⟨[],[],false⟩ g mg) (st:STe [] tt mt) (se:SE [] te me) (hk:∀ x H k,g x (bB own js σ) H k→g x (bB own js σ) H fun σ2 H2=>kept (bB own js σ) σ2∧k σ2 H2)
 (hl:ds.length≤1000) (h:kU mg mt me (dl own.length js ρ) ds K)
 (k:∀ es vs G' H',K es→az G G'→R C ow G' ρ σ H' pd→Reps G' es vs→vs.length≤1000→Z vs H'):lW J g tt te (bB own js σ) H Z:=by
 obtain ⟨O,ro⟩:=r
 have ri:=ro.inner own js hj
 obtain ⟨I,i0,turn,fin⟩:=h
 have nt:∀ i:Nat,([]:List Bool)[i]?≠some true:=fun i=>by simp
 let C1:Ctx:=⟨G,H,b7 (fun _=>none) O,[],0⟩
 have fnone:b7 (fun _=>none) O=fun _=>none:=by funext a; unfold b7; cases O a <;> rfl
 refine ⟨fun i m acc H'=>m=ds.length - i∧i≤ds.length∧acc.length≤i∧∃ G' es,az G G'∧R C1 [] G' (dl own.length js ρ) (bB own js σ) H' []∧Reps G' es acc∧I i es,⟨_,rfl,Nat.zero_le _,Nat.le_refl _,G,[],az.refl _,⟨_,ri⟩,bp,i0⟩,?_⟩
 rintro i m acc H' ⟨rfl,hi,ha,G',es,z,r',pa,w⟩
 obtain ⟨sp,go⟩:=jo C1 [] G' _ _ H' [] i z r'
 by_cases hlt:i<ds.length
 ·obtain ⟨g1,g2⟩:=go ds[i] (List.getElem?_eq_getElem hlt)
  refine .inr ⟨g1,bH 'a',fun acc' H2=>acc'.length≤i + 1∧∃ G2 es2,az G G2∧R C1 [] G2 (dl own.length js ρ) (bB own js σ) H2 []∧Reps G2 es2 acc'∧I (i + 1) es2,fun acc' H2 h=>⟨ds.length - (i + 1),by omega,rfl,hlt,h.1,h.2⟩,fun x H1 hy=>hk _ _ _ ?_⟩
  obtain ⟨G1,z1,r1,p1⟩:=g2 x H1 hy
  refine sg C1 G1 _ _ H1 [] ds[i] x _ _ (fun i v e=>by simp [C1] at e) r1 p1 (turn i ds[i] es (List.getElem?_eq_getElem hlt) w) fun ρ2 σ2 h2 r2=>?_
  refine st C1 G1 ρ2 σ2 H1 [] _ _ r2 h2 fun b ρ3 G3 H3 h3 z3 kp3 r3=>?_
  have bk:∀ {G4:Hp} {ρ4:DSt} {H4:Hp},az G3 G4→R C1 [] G4 ρ4 σ2 H4 []→R C1 [] G4 (dl own.length js ρ) (bB own js σ) H4 []:=fun z4 ⟨O4,r4⟩=>by
   obtain ⟨O1,r1'⟩:=r1
   exact ⟨_,r1'.back nt r4 (z3.trans z4)⟩
  cases b with
  | true =>
   rw [if_pos rfl] at h3 ⊢
   refine se C1 G3 ρ3 σ2 H3 [] _ _ r3 h3 fun d ρ4 v G4 H4 h4 z4 kp4 r4 p4=>?_
   exact ⟨by simp; omega,G4,es++[d],z.trans (z1.trans (z3.trans z4)),bk z4 r4,dU (Reps.mono (z1.trans (z3.trans z4)) _ _ pa) (bf p4 bp),h4⟩
  | false =>
   rw [if_neg 'k'] at h3 ⊢
   exact ⟨by omega,G3,es,z.trans (z1.trans z3),bk (az.refl _) r3,Reps.mono (z1.trans z3) _ _ pa,h3⟩
 ·have e:i=ds.length:=by omega
  subst e
  refine .inl ⟨sp 'l',b8 'a',?_⟩
  obtain ⟨O2,r2⟩:=r'
  refine k es acc G' H' (fin es w) z ⟨kP (fun _=>none) (fun _=>none) O O2,?_⟩ pa 'a'
  refine ro.out (vs:=[]) r2 (fun _ _ _ e=>by cases e) ro.len ro.np (fun i d _ e=>e) (fun i d _ e=>.inl ⟨rfl,e⟩) fun O3 h1 h2 ts=>?_
  exact bE.keep ts (fun a j π hj e=>h1 a _ _ e rfl) ro.pn
section
variable {X:Cx} {ow:List Bool} {elt tg iter:Expr} {ifs:List Expr} {pos:Pos} {mi:MA} {mg:MG} {mt:MT} {me:ME} {scope:Scope} {cl:List (Str×Addr)}
def vc (n:Nat) (g:TG):Prop:=∀ (σ0:St),(∀ i,i<n→σ0[i]? = some none)→∀ σ x H k,kept σ0 σ→g x σ H k→g x σ H fun σ2 H2=>kept σ0 σ2∧k σ2 H2
def wD (n:Nat) (g:TGs):Prop:=∀ (σ0:St),(∀ i,i<n→σ0[i]? = some none)→∀ σ x H k,kept σ0 σ→g x σ H k→g x σ H fun σ2 H2=>kept σ0 σ2∧k σ2 H2
theorem fR:∀ {a b:St} {i:Nat} {v:V},kept a b→a[i]? = some none→kept a (b.set i (some v))
 | [],[],i,v,h,e=>by simp at e
 | none :: r,y :: r',0,v,h,e=>h
 | none :: r,y :: r',i + 1,v,h,e=>by simp only [List.set_cons_succ]; exact fR (a:=r) (b:=r') h (by simpa using e)
 | some w :: r,y :: r',0,v,h,e=>by simp at e
 | some w :: r,y :: r',i + 1,v,h,e=>by simp only [List.set_cons_succ]; exact ⟨h.1,fR (a:=r) (b:=r') h.2 (by simpa using e)⟩
 | [],_ :: _,_,_,h,_=>h.elim
 | none :: _,[],_,_,h,_=>h.elim
 | some _ :: _,[],_,_,h,_=>h.elim
theorem cR:∀ (a:St),kept a a
 | []=>trivial
 | none :: r=>cR r
 | some v :: r=>⟨rfl,cR r⟩
def MonG (g:TG):Prop:=∀ x σ H (k k':St→Hp→Prop),(∀ σ2 H2,k σ2 H2→k' σ2 H2)→g x σ H k→g x σ H k'
def MonGs (g:TGs):Prop:=∀ x σ H (k k':St→Hp→Prop),(∀ σ2 H2,k σ2 H2→k' σ2 H2)→g x σ H k→g x σ H k'
structure CG (n:Nat) (g:TG) (m:MG):Prop where
 sg:SG ⟨[],[],false⟩ g m
 kp:vc n g
 mn:MonG g
structure CGs (n:Nat) (g:TGs) (m:MGs):Prop where
 sg:SGs ⟨[],[],false⟩ g m
 kp:wD n g
 mn:MonGs g
theorem cu {n:Nat} (i:Nat) (h:i<n:=by decide):CG n (hV i) (gU i) :=
 ⟨fun C G ρ σ H pd d v k K hm r p h kk=>by obtain ⟨O,r⟩:=r; exact kk _ _ h ⟨O,r.setS (by simp) (fun v e=>by have:=hm i v e; simp at this) p⟩,
  fun σ0 h0 σ x H k hk hg=>⟨fR hk (h0 i h),hg⟩,fun x σ H k k' hk h=>hk _ _ h⟩
theorem oo {n:Nat}:CGs n gNil oY :=
 ⟨fun C G ρ σ H pd d v k K hm r p h kk=>by
  cases d with
  | nil=>rw [Reps] at p; exact ⟨p,kk _ _ h r⟩
  | cons _ _=>exact h.elim,fun σ0 h0 σ x H k hk hg=>⟨hg.1,hk,hg.2⟩,fun x σ H k k' hk h=>⟨h.1,hk _ _ h.2⟩⟩
theorem gi {n:Nat} {g:TG} {gs:TGs} {mg:MG} {mgs:MGs} (h1:CG n g mg) (h2:CGs n gs mgs):CGs n (vz g gs) (iT mg mgs) :=
 ⟨fun C G ρ σ H pd d v k K hm r p h kk=>by
  cases d with
  | nil=>exact h.elim
  | cons d ds =>
   rw [Reps] at p
   obtain ⟨v,vs,rfl,p1,p3⟩:=p
   exact ⟨v,vs,rfl,h1.sg C G ρ σ H pd d v _ _ hm r p1 h fun ρ' σ' h' r'=>h2.sg C G ρ' σ' H pd ds vs k K hm r' p3 h' kk⟩,
  fun σ0 h0 σ x H k hk hg=>by
   obtain ⟨v,r,e,q⟩:=hg
   exact ⟨v,r,e,h1.mn _ _ _ _ _ (fun σ2 H2 z=>h2.kp σ0 h0 σ2 r H2 k z.1 z.2) (h1.kp σ0 h0 σ v H _ hk q)⟩,
  fun x σ H k k' hk h=>by
   obtain ⟨v,r,e,q⟩:=h
   exact ⟨v,r,e,h1.mn _ _ _ _ _ (fun σ2 H2 z=>h2.mn _ _ _ _ _ hk z) q⟩⟩
theorem qw {n j:Nat} {K:PySem.W.Frag} {gs:TGs} {mgs:MGs} (h:CGs n gs mgs) (ht:jQ j mgs):CG n (gTup K j gs) (sf mgs) :=
 ⟨fun C G ρ σ H pd d v k K hm r p h' kk=>by
  cases d with
  | tup ds =>
   obtain ⟨a,xs,rfl,h1,h2⟩:=el p
   exact ⟨a,xs,rfl,SqT.of (r.gh _ _ h1),by rw [h2.length]; exact ht _ _ _ h',h.sg C G ρ σ H pd ds xs k K hm r h2 h' kk⟩
  | _=>exact h'.elim,
  fun σ0 h0 σ x H k hk hg=>by obtain ⟨a,xs,e,e1,e2,q⟩:=hg; exact ⟨a,xs,e,e1,e2,h.kp σ0 h0 σ xs H k hk q⟩,
  fun x σ H k k' hk hg=>by obtain ⟨a,xs,e,e1,e2,q⟩:=hg; exact ⟨a,xs,e,e1,e2,h.mn _ _ _ _ _ hk q⟩⟩
def qa (ow:List Bool) (m:ME):TE:=fun σ H Q=>∃ (C:Ctx) (G:Hp) (ρ:DSt) (pd:List (D×V)) (q:D→DSt→Prop),R C ow G ρ σ H pd∧m ρ q∧∀ d ρ' v G' H',q d ρ'→az G G'→Kp ow ρ ρ'→R C ow G' ρ' σ H' pd→Rep G' d v→Q v H'
def pC (ow:List Bool) (m:MT):TT:=fun σ H Q=>∃ (C:Ctx) (G:Hp) (ρ:DSt) (pd:List (D×V)) (q:Bool→DSt→Prop),R C ow G ρ σ H pd∧m ρ q∧∀ d ρ' G' H',q d ρ'→az G G'→Kp ow ρ ρ'→R C ow G' ρ' σ H' pd→Q d H'
theorem nI {ow:List Bool} {m:ME}:SE ow (qa ow m) m:=fun C G ρ σ H pd q Q r h k=>⟨C,G,ρ,pd,q,r,h,k⟩
theorem kJ {ow:List Bool} {m:MT}:STe ow (pC ow m) m:=fun C G ρ σ H pd q Q r h k=>⟨C,G,ρ,pd,q,r,h,k⟩
theorem QE.can {X:Cx} {ow:List Bool} {e:Expr} {m:ME} (h:QE X ow e m):PE X e (qa ow m):=by
 obtain ⟨t,p,s⟩:=h
 exact ⟨fun pins s' σ H Q I ⟨C,G,ρ,pd,q,r,h,k⟩=>p.go pins s' σ H Q I (s C G ρ σ H pd q Q r h k)⟩
theorem QIf.can {X:Cx} {ow:List Bool} {e:List Expr} {m:MT} (h:QIf X ow e m):PIf X e (pC ow m):=by
 obtain ⟨t,p,s⟩:=h
 exact ⟨fun pins s' σ H Q I ⟨C,G,ρ,pd,q,r,h,k⟩=>p.go pins s' σ H Q I (s C G ρ σ H pd q Q r h k)⟩
theorem eZ {own:List Str} {js:List Nat} {σ:St}:∀ i,i<own.length→(bB own js σ)[i]? = some none:=fun i h=>by
 unfold bB
 rw [List.getElem?_append_left (by simpa using h),List.getElem?_map,List.getElem?_eq_getElem h]; rfl
theorem uI {ow:List Bool} {wi:TI} {g:TG} {own:List Str} {js:List Nat} (si:SI ow wi mi) (cg:CG own.length g mg) (hj:∀ j∈js,ow[j]?≠some true):SF ow (jq wi g (pC [] mt) (qa [] me) own js) (vv mi mg mt me own.length js):=fun C G ρ σ H pd q Q r h k =>
 si C G ρ σ H pd _ _ r h fun ds ρ' G' H' J hq z kp r' jo=>by
  refine iY r' hj jo cg.sg kJ nI (fun x H k hg=>cg.kp _ eZ _ x H k (cR _) hg) hq.1 hq.2 fun es vs G2 H2 hK z2 r2 p2 hl p hp=>?_
  obtain ⟨O2,r2⟩:=r2
  exact k _ ρ' _ _ _ hK.2 (z.trans z2) kp (r2.newL hp hK.1 p2)
theorem oM {ow:List Bool} {wi:TI} {g:TG} {own:List Str} {js:List Nat} (si:SI ow wi mi) (cg:CG own.length g mg) (hj:∀ j∈js,ow[j]?≠some true):SE ow (jq wi g (pC [] mt) (qa [] me) own js) (mF mi mg mt me own.length js):=fun C G ρ σ H pd q Q r h k =>
 si C G ρ σ H pd _ _ r h fun ds ρ' G' H' J hq z kp r' jo=>by
  refine iY r' hj jo cg.sg kJ nI (fun x H k hg=>cg.kp _ eZ _ x H k (cR _) hg) hq.1 hq.2 fun es vs G2 H2 hK z2 r2 p2 hl p hp=>?_
  obtain ⟨O2,r2⟩:=r2
  obtain ⟨r3,z3⟩:=r2.new hp (.lst vs)
  exact k _ ρ' _ _ _ hK (z.trans (z2.trans z3)) kp ⟨O2,r3⟩ (fK ao (Reps.mono z3 _ _ p2))
structure CInn (X:Cx) (tg:Expr) (ifs:List Expr) (elt:Expr) (g:TG) (mt:MT) (me:ME):Prop where
 pg:PG X tg g
 qi:QIf X [] ifs mt
 qe:QE X [] elt me
theorem fN {g:TG} (own:List Str) (js:List Nat) (c:CompOk X scope cl own js) (hc:X.calm=true) (hi:QI X ow tg iter mi) (cg:CG own.length g mg)
 (inner:∀ (C:Addr) (s₀:Shared) (H₀:Hp) (ex:List Addr),CInn 'i' tg ifs elt g mt me) (hj:∀ j∈js,ow[j]?≠some true:=by decide)
 (hs:∀ x,foldedSetIterable iter X.env x=pure x:=by intro _; rfl):QE X ow 'j' (mF mi mg mt me own.length js):=by
 obtain ⟨wi,pi,si⟩:=hi
 exact ⟨_,oE own js c hc pi 'o' hs,oM si cg hj⟩
theorem m_ {M:Md} {g:TG} {i:Nat} {y:Str} {spos py:Pos} (own:List Str) (js:List Nat) (c:CompOk X scope cl own js) (hc:X.calm=true) (hN:X.N.Nodup) (hy:X.N[i]? = some y) (hx:Loc X.env.scope y) (hi:QI X M.ow tg iter mi) (cg:CG own.length g mg)
 (inner:∀ (C:Addr) (s₀:Shared) (H₀:Hp) (ex:List Addr),CInn 'i' tg ifs elt g mt me) (hj:∀ j∈js,M.ow[j]?≠some true:=by decide) (ho:M.ow[i]?≠some true:=by decide) (hu:M.mu[i]?≠some true:=by decide)
 (hsw:swapsWith 'j' (some (.Name y py)) spos.line X.env=pure true:=by rfl)
 (hs:∀ x,foldedSetIterable iter X.env x=pure x:=by intro _; rfl) (hf:X.fn y=true∨X.env.scope.names.lookup y=some .local:=by first | exact .inl rfl | exact .inr rfl | assumption) :
 QS X M (.Assign [.Name y py] 'j' spos) (jR i (mF mi mg mt me own.length js)):=by
 obtain ⟨wi,pi,si⟩:=hi
 exact ⟨_,d3 own js c hc hN hy hx pi 'o' hsw hs hf,nH (oM si cg hj) ho hu⟩
end
theorem tm {g:MG} {mt:MT} {me:ME} {ρ0:DSt} {ds:List D} {K:List D→Prop} (f:D→Option D)
 (step:∀ (d:D),d∈ds→∀ k:Option D→Prop,k (f d)→g d ρ0 fun ρ2=>mt ρ2 fun b ρ3=>if b=true then me ρ3 fun x _=>k (some x) else k none) (h:K (ds.filterMap f)):kU g mt me ρ0 ds K:=by
 refine ⟨fun i es=>es=(ds.take i).filterMap f,rfl,?_,fun es e=>by rw [e,List.take_length]; exact h⟩
 rintro i d es hd rfl
 have:=step d (List.mem_of_getElem? hd) (fun o=>match o with | some x=>(ds.take i).filterMap f++[x]=(ds.take (i + 1)).filterMap f | none=>(ds.take i).filterMap f=(ds.take (i + 1)).filterMap f) (by
  rw [List.take_add_one,hd]
  simp only [Option.toList,List.filterMap_append]
  cases e:f d with
  | none=>simp [e]
  | some x=>simp [e])
 exact this
theorem dS {g:MG} {me:ME} {ρ0:DSt} {ds:List D} {K:List D→Prop} (f:D→D)
 (step:∀ (d:D),d∈ds→∀ k:D→Prop,k (f d)→g d ρ0 fun ρ2=>me ρ2 fun x _=>k x) (h:K (ds.map f)):kU g (lf true) me ρ0 ds K:=by
 refine ⟨fun i es=>es=(ds.take i).map f,rfl,?_,fun es e=>by rw [e,List.take_length]; exact h⟩
 rintro i d es hd rfl
 have:=step d (List.mem_of_getElem? hd) (fun x=>(ds.take i).map f++[x]=(ds.take (i + 1)).map f) (by
  rw [List.take_add_one,hd]; simp)
 exact this
def nh (x:Int):List Int→List Int
 | []=>[x]
 | y :: r=>if x≤y then x :: y :: r else y :: nh x r
def dc:List Int→List Int
 | []=>[]
 | x :: r=>nh x (dc r)
theorem gT (x:Int):∀ l:List Int,(nh x l).Perm (x :: l)
 | []=>List.Perm.refl _
 | y :: r=>by
  unfold nh
  split
  ·exact List.Perm.refl _
  ·exact ((gT x r).cons y).trans (List.Perm.swap x y r)
theorem dj:∀ l:List Int,(dc l).Perm l
 | []=>List.Perm.refl _
 | x :: r=>(gT x (dc r)).trans ((dj r).cons x)
theorem gX (x:Int):∀ {l:List Int},l.Pairwise (·≤·)→(nh x l).Pairwise (·≤·)
 | [],_=>by simp [nh]
 | y :: r,h=>by
  unfold nh
  rw [List.pairwise_cons] at h
  split
  ·rename_i c
   refine List.pairwise_cons.mpr ⟨fun z hz=>?_,List.pairwise_cons.mpr h⟩
   rcases List.mem_cons.mp hz with rfl | hz
   ·exact c
   ·exact Int.le_trans c (h.1 z hz)
  ·rename_i c
   refine List.pairwise_cons.mpr ⟨fun z hz=>?_,gX x h.2⟩
   rcases List.mem_cons.mp ((gT x r).mem_iff.mp hz) with rfl | hz
   ·omega
   ·exact h.1 z hz
theorem gf:∀ l:List Int,(dc l).Pairwise (·≤·)
 | []=>List.Pairwise.nil
 | x :: r=>gX x (gf r)
theorem i8:∀ {a b:List Int},a.Perm b→a.Pairwise (·≤·)→b.Pairwise (·≤·)→a=b
 | [],b,p,_,_=>(List.Perm.nil_eq p)
 | x :: a,[],p,_,_=>by have:=p.length_eq; simp at this
 | x :: a,y :: b,p,ha,hb=>by
  have hx:x=y:=by
   rw [List.pairwise_cons] at ha hb
   have h1:x∈y :: b:=p.mem_iff.mp (.head _)
   have h2:y∈x :: a:=p.mem_iff.mpr (.head _)
   rcases List.mem_cons.mp h1 with rfl | h1
   ·rfl
   rcases List.mem_cons.mp h2 with h2 | h2
   ·exact h2.symm
   have:=ha.1 y h2
   have:=hb.1 x h1
   omega
  subst hx
  rw [i8 ((List.perm_cons x).mp p) (List.pairwise_cons.mp ha).2 (List.pairwise_cons.mp hb).2]
theorem qZ {a b:List Int} (p:a.Perm b) (h:a.Pairwise (·≤·)):a=dc b:=i8 (p.trans (dj b).symm) h (gf b)
theorem pP (l:List Int):(dc l).length=l.length:=(dj l).length_eq
section
variable {X:Cx}
def qu (K:PySem.W.Frag):List V→Hp→VK→Prop:=fun xs H Q=>∃ (p:Addr) (ns:List Int),xs=[.ref p]∧SqL K H p (ns.map V.int)∧ns.length<64∧∀ l,H l=none→Q (.ref l) (upd H l (.lst ((dc ns).map V.int)))
theorem kl:cj X (.builtin "sorted") (qu X.K):=by
 intro pins s σ H xs us Q I r h
 obtain ⟨p,ns,rfl,hS,h64,q⟩:=h
 obtain ⟨u,rfl,ru⟩:=fw r
 cases ru
 obtain ⟨its,rv,pl,_⟩:=I.list hS
 have hI:IntsAre its ns:=nM rv
 have hlen:its.length=ns.length:=by have:=rv.length; simp at this; exact this.symm
 refine sorted_ints (l:=p) (vs:=its) (ns:=ns) (isList_of pl) hI 'a' fun out ns' a1 a2 a3=>?_
 obtain ⟨e,he⟩:=sortedAll_at s.heap its out
 have hl:ns'=dc ns:=qZ a2 a3
 subst hl
 refine ⟨.ref (s.heap.objs.size + 1),_,I.laid (a:=s.heap.objs.size + 1) (o:=.lst ((dc ns).map V.int)) (t':=s.toks) (fun _ _ q=>sortedAll_old q) (Nat.le_succ _) ?_,rfl,q _ (I.hok.fresh (Nat.le_succ _))⟩
 refine ⟨Nat.le_of_lt (bH (by rw [List.length_map,pP]; omega)),out.toList,e,gP a1,?_⟩
 simpa [seqObj] using he
where
 isList_of {h:Heap} {a:Addr} {its:List Value} (pl:PlainL h a its.toArray):h.IsList a its.toArray:=by
  first | exact pl.isList | exact pl.1 | exact pl
theorem mq {pins:List 'h'} {σ:St} {H:Hp} {s:Shared} {p:Addr} {xs:List V} (I:Inv X pins σ H s) (h:SqL X.K H p xs):∃ its:List Value,aM xs its∧s.heap.IsList p its.toArray:=by
 obtain ⟨its,rv,⟨o,n,h1,h2,h3,h4⟩,_⟩:=I.list h
 exact ⟨its,rv,o,h1,h2,n,h4⟩
theorem lV:∀ {bs:List Bool} {us:List Value},aM (bs.map V.bl) us→LSm.BoolsAre us bs
 | [],us,h=>by cases h; exact .nil
 | b :: bs,us,h=>by
  cases h with
  | cons r1 r2=>cases (show _=Value.bool b from r1); exact .cons b (lV r2)
theorem gB (hc:X.calm=true):cj X (.builtin "all") (fun xs H Q=>∃ (p:Addr) (bs:List Bool),xs=[.ref p]∧SqL X.K H p (bs.map V.bl)∧Q (.bl (bs.all id)) H):=by
 intro pins s σ H xs us Q I r h
 obtain ⟨p,bs,rfl,hS,q⟩:=h
 obtain ⟨u,rfl,ru⟩:=fw r
 cases ru
 obtain ⟨its,rv,hl⟩:=mq I hS
 have truths:=lV rv
 have below:p<s.heap.objs.size:=by obtain ⟨_,at_p,_⟩:=hl; exact Heap.lt_size at_p
 refine call_all_walk (wpAny_pyIter_list hl ⟨s.heap.objs.size,[s.heap.objs.size,p],[s.heap.objs.size],its.toArray.size,_,_,fun j=>(bs[j]?).getD true,rfl,Walks.list (A:=X.A.in1) (I.ok.hd hc) _ p (Nat.ne_of_lt below) its.toArray,
  ⟨⟨_,Heap.get?_push_size _ rfl,rfl,rfl⟩,hl.push _⟩,fun j u s₁ Q₁ E₁ at_j want=>?_,fun hp tk₁ kept=>?_⟩)
 ·obtain ⟨b,is_b,rfl⟩:=truths.get j u (by simpa using at_j)
  simp only [is_b,Option.getD_some] at want
  exact wpAny_truthy_bool want
 ·have same:((List.range its.toArray.size).all fun j=>(bs[j]?).getD true)=bs.all id:=by rw [List.size_toArray,truths.length]; exact LSm.range_all bs
  rw [same]
  exact ⟨.bl (bs.all id),H,I.kept (LSm.kept_iter kept),rfl,q⟩
end
theorem fZ {G:Hp}:∀ {ns:List Int} {xs:List V},Reps G (ns.map D.int) xs→xs=ns.map V.int
 | [],xs,h=>by rw [List.map_nil,Reps] at h; subst h; rfl
 | n :: r,xs,h=>by rw [List.map_cons,Reps] at h; obtain ⟨v,vs,rfl,h1,h2⟩:=h; rw [ay h1,fZ h2]; rfl
theorem g9 {G:Hp}:∀ {ns:List Bool} {xs:List V},Reps G (ns.map D.bl) xs→xs=ns.map V.bl
 | [],xs,h=>by rw [List.map_nil,Reps] at h; subst h; rfl
 | n :: r,xs,h=>by rw [List.map_cons,Reps] at h; obtain ⟨v,vs,rfl,h1,h2⟩:=h; rw [bP h1,g9 h2]; rfl
def rS:List D→(List D→Prop)→Prop:=fun ds q=>match ds with
 | [.lst xs]=>∃ ns:List Int,xs=ns.map D.int∧ns.length<64∧q ((dc ns).map D.int)
 | _=>False
theorem yl {K:PySem.W.Frag}:iS (qu K) rS:=fun G H xs ds q Q s p hf k=>by
 unfold rS at hf
 split at hf
 ·obtain ⟨v,rfl,p1⟩:=bG p
  obtain ⟨a,xs,rfl,h1,h2⟩:=a8 p1
  obtain ⟨ns,rfl,hl,hq⟩:=hf
  rw [fZ h2] at h1
  exact ⟨a,ns,rfl,SqL.of (s _ _ h1),hl,fun l hl=>k _ _ l hq (gM _) hl⟩
 ·exact hf.elim
def fAll:List D→(D→Prop)→Prop:=fun ds q=>match ds with
 | [.lst xs]=>∃ bs:List Bool,xs=bs.map D.bl∧q (.bl (bs.all id))
 | _=>False
theorem dAll {K:PySem.W.Frag}:fP (fun xs H Q=>∃ (p:Addr) (bs:List Bool),xs=[.ref p]∧SqL K H p (bs.map V.bl)∧Q (.bl (bs.all id)) H) fAll:=fun G H xs ds q Q s p hf k=>by
 unfold fAll at hf
 split at hf
 ·obtain ⟨v,rfl,p1⟩:=bG p
  obtain ⟨a,xs,rfl,h1,h2⟩:=a8 p1
  obtain ⟨bs,rfl,hq⟩:=hf
  rw [g9 h2] at h1
  exact ⟨a,bs,rfl,SqL.of (s _ _ h1),k _ _ hq (bN _)⟩
 ·exact hf.elim
section
variable {C:Ctx} {ow:List Bool} {G:Hp} {ρ:DSt} {σ:St} {H:Hp} {pd:List (D×V)} {O:Own}
end
section
variable {ow:List Bool} {t:TE} {m:ME}
theorem SF.bor (js:List Nat) (s:SF (L2.bor js ow) t m):SF ow t m:=fun C G ρ σ H pd q Q r hm k=>by
 obtain ⟨O,r⟩:=r
 refine s _ _ ρ σ H pd _ _ ⟨_,r.enter js⟩ hm fun d ρ' v G' H' hq s kp r'=>?_
 obtain ⟨O',r'⟩:=r'
 obtain ⟨r2,s2,ts⟩:=r.leave r' kp
 exact k d ρ' v _ H' hq s2 (kL kp) ⟨_,r2⟩
theorem SF.se (s:SF ow t m):SE ow t m:=fun C G ρ σ H pd q Q r hm k=>s C G ρ σ H pd _ _ r hm fun d ρ' v G' H' hq s kp r'=>by
 obtain ⟨O,r'⟩:=r'
 obtain ⟨G2,s2,r2,p2⟩:=r'.share r.np
 exact k d ρ' v G2 H' hq (s.trans s2) kp r2 p2
end
section
variable {X:Cx} {M:Md} {a b c e:Expr} {ma mb mc:ME} {pos pos':Pos} {mr:MA} {es:List Expr}
theorem ke {g:TG} {mg:MG} {mt:MT} {me:ME} {mi:MA} {tg iter elt:Expr} {ifs:List Expr} {scope:Scope} {cl:List (Str×Addr)} {i:Nat} {y:Str} {spos py:Pos} (bs:List Nat) (own:List Str) (js:List Nat) (c:CompOk X scope cl own js) (hc:X.calm=true) (hN:X.N.Nodup) (hy:X.N[i]? = some y) (hx:Loc X.env.scope y) (hi:QI X (bor bs M.ow) tg iter mi) (cg:CG own.length g mg)
 (inner:∀ (C:Addr) (s₀:Shared) (H₀:Hp) (ex:List Addr),CInn 'i' tg ifs elt g mt me) (hj:∀ j∈js,(bor bs M.ow)[j]?≠some true:=by decide) (ho:M.ow[i]? = some true:=by decide) (hu:M.mu[i]?≠some true:=by decide)
 (hsw:swapsWith 'j' (some (.Name y py)) spos.line X.env=pure true:=by rfl)
 (hs:∀ x,foldedSetIterable iter X.env x=pure x:=by intro _; rfl) (hf:X.fn y=true∨X.env.scope.names.lookup y=some .local:=by first | exact .inl rfl | exact .inr rfl | assumption) :
 QS X M (.Assign [.Name y py] 'j' spos) (jR i (vv mi mg mt me own.length js)):=by
 obtain ⟨wi,pi,si⟩:=hi
 exact ⟨_,d3 own js c hc hN hy hx pi 'o' hsw hs hf,jT (SF.bor bs (uI si cg hj)) ho hu⟩
def mSetN (i c:Nat) (mk m:ME):MS:=fun n ρ=>m ρ fun d ρ1=>imm d=true∧match ρ1[i]? with
 | some (some (.tup es))=>match es[c]? with
  | some (.lst _)=>mk ρ1 fun k ρ2=>match ρ2[i]? with
   | some (some (.tup es))=>match es[c]? with
    | some (.lst ds)=>match k with
     | .int j=>match ixN ds.length j with
      | some p=>n.nx (ρ2.set i (some (.tup (es.set c (.lst (ds.set p d))))))
      | none=>False
     | _=>False
    | _=>False
   | _=>False
  | _=>False
 | _=>False
def mPop (i:Nat):ME:=fun ρ q=>match ρ[i]? with
 | some (some (.lst ds))=>match ds[ds.length - 1]? with
  | some d=>imm d=true∧q d (ρ.set i (some (.lst ds.dropLast)))
  | none=>False
 | _=>False
theorem gG (ns:List Int):imms (ns.map D.int)=true:=by
 induction ns with
 | nil=>rfl
 | cons n r ih=>simp only [List.map,imms,imm,ih]; rfl
end
def mCut (m:MS):MS:=fun n ρ=>∃ I:DSt→Prop,m { n with nx:=I } ρ∧∀ ρ',I ρ'→n.nx ρ'
theorem cb {X:Cx} {M:Md} {st:Stmt} {m:MS} (h:QS X M st m):QS X M st (mCut m):=by
 obtain ⟨t,p,s⟩:=h
 refine ⟨_,p,fun C G ρ σ H n D hm hn r h k=>?_⟩
 obtain ⟨I,h1,h2⟩:=h
 exact s C G ρ σ H _ D hm hn r h1 ⟨fun ρ' σ' G' H' hi=>k.nx ρ' σ' G' H' (h2 ρ' hi),k.bk,k.ct,k.rt⟩
mutual
theorem Sep.strip {G H:Hp} {O O':Own} {i i':Nat} {sfx:List Nat} :
 ∀ (d:D) (π:List Nat) (v:V),(∀ a τ,O a=some (i,(τ++π)++sfx)→O' a=some (i',τ++π))→Sep G H O i d (π++sfx) v→Sep G H O' i' d π v
 | .non,_,_,_,h=>by rw [Sep] at *; exact h
 | .bl b,_,_,_,h=>by rw [Sep] at *; exact h
 | .int n,_,_,_,h=>by rw [Sep] at *; exact h
 | .str x,_,_,_,h=>by rw [Sep] at *; exact h
 | .tup ds,π,v,hO,h=>by
  rw [Sep] at *
  obtain ⟨a,xs,h1,h2,h3⟩:=h
  exact ⟨a,xs,h1,h2,Seps.strip ds 0 π xs (fun a τ=>hO a τ) h3⟩
 | .lst ds,π,v,hO,h=>by
  rw [Sep] at *
  obtain ⟨a,xs,h1,h2,h3,h4⟩:=h
  exact ⟨a,xs,h1,hO a [] h2,h3,Seps.strip ds 0 π xs (fun a τ=>hO a τ) h4⟩
 | .dic ks ds,π,v,hO,h=>by
  rw [Sep] at *
  obtain ⟨a,xs,h1,h2,h3,h5,h4⟩:=h
  exact ⟨a,xs,h1,hO a [] h2,h3,h5,Seps.strip ds 0 π xs (fun a τ=>hO a τ) h4⟩
 | .dct,_,_,_,h=>by rw [Sep] at h; exact h.elim
 | .scr _ _,_,_,_,h=>by rw [Sep] at h; exact h.elim
 | .ext _,_,_,_,h=>by rw [Sep] at h; exact h.elim
theorem Seps.strip {G H:Hp} {O O':Own} {i i':Nat} {sfx:List Nat} :
 ∀ (ds:List D) (k:Nat) (π:List Nat) (xs:List V),(∀ a τ,O a=some (i,(τ++π)++sfx)→O' a=some (i',τ++π))→Seps G H O i ds k (π++sfx) xs→Seps G H O' i' ds k π xs
 | [],_,_,_,_,h=>by rw [Seps] at *; exact h
 | d :: ds,k,π,xs,hO,h=>by
  rw [Seps] at *
  obtain ⟨v,vs,h1,h2,h3⟩:=h
  refine ⟨v,vs,h1,Sep.strip d (k :: π) v (fun a τ e=>?_) h2,Seps.strip ds (k + 1) π vs hO h3⟩
  have e' : τ++k :: π=(τ++[k])++π:=by simp
  rw [e'] at e ⊢
  exact hO a (τ++[k]) e
end
section
variable {C:Ctx} {ow:List Bool} {G:Hp} {ρ:DSt} {σ:St} {H:Hp} {pd:List (D×V)} {O:Own}
theorem RO.split {ds:List D} {v:V} (h:RO C ow G ρ σ H ((.tup ds,v) :: pd) O) (hn:C.np≤pd.length):∃ a xs,v = .ref a∧G a=some (.tup xs)∧xs.length=ds.length∧R C ow G ρ σ H (ds.zip xs++pd):=by
 obtain ⟨s,pn⟩:=h.pn
 rw [Sep] at s
 obtain ⟨a,xs,rfl,hG,hs⟩:=s
 have hl:=hs.length
 refine ⟨a,xs,rfl,hG,hl,lab (fun l π=>if l=2 * pd.length + 1 then (2 * (pd.length + (ds.length - 1 - π.getLastD 0)) + 1,π.dropLast) else (l,π)) O,h.len,h.gh,h.g0,h.gn,?_,h.cok,h.fr,h.al,h.mp,?_,?_,by simp; omega⟩
 ·intro b m e
  obtain ⟨l,π,e1,rfl⟩:=i7 e
  obtain ⟨q1,q2,q3⟩:=h.og b _ e1
  refine ⟨q1,q2,?_⟩
  split
  ·rename_i z
   rcases q3 with q3 | ⟨_,q3⟩
   ·exact .inl q3
   ·rcases h.cok _ _ _ q3 with ⟨k,_,q4,_⟩ | ⟨k,q4,q5⟩
    ·exact absurd (q4.symm.trans z) cc
    ·omega
  ·exact q3
 ·intro j e q
  obtain ⟨u,h1,h2⟩:=h.sl j e q
  refine ⟨u,h1,?_⟩
  split at h2
  ·rename_i c; rw [if_pos c]; exact h2.keep 'r' fun a τ q=>⟨by rw [bR q,if_neg cc],rfl⟩
  ·rename_i c; rw [if_neg c]; exact h2
 ·have old:∀ (O':Own),(∀ b j π,j<pd.length→O b=some (2 * j + 1,π)→O' b=some (2 * j + 1,π))→bE G H O' pd:=fun O' hO=>bE.keep 'r' (fun b j π hj q=>⟨hO b j π hj q,rfl⟩) pn
  have key:∀ (ds0:List D) (k:Nat) (xs0:List V) (O':Own),k + ds0.length=ds.length→Seps G H O (2 * pd.length + 1) ds0 k [] xs0 →
   (∀ b j π,j<pd.length→O b=some (2 * j + 1,π)→O' b=some (2 * j + 1,π))→(∀ b τ k',O b=some (2 * pd.length + 1,τ++[k'])→O' b=some (2 * (pd.length + (ds.length - 1 - k')) + 1,τ))→bE G H O' (ds0.zip xs0++pd):=by
   intro ds0
   induction ds0 with
   | nil=>intro k xs0 O' _ _ ho _; exact old O' ho
   | cons d0 r ih =>
    intro k xs0 O' hk hh ho hnw
    rw [Seps] at hh
    obtain ⟨w,ws,rfl,w1,w2⟩:=hh
    have hwl:=w2.length
    refine ⟨?_,ih (k + 1) ws O' (by simp at hk; omega) w2 ho hnw⟩
    have e:(List.zip r ws++pd).length=pd.length + (ds.length - 1 - k):=by simp at hk ⊢; omega
    show Sep G H O' (2 * (List.zip r ws++pd).length + 1) d0 [] w
    rw [e]
    exact Sep.strip (sfx:=[k]) d0 [] w (fun b τ q=>by simpa using hnw b τ k (by simpa using q)) w1
  refine key ds 0 xs _ 'a' hs (fun b j π hj q=>by rw [bR q,if_neg 'a']) (fun b τ k' q=>?_)
  rw [bR q,if_pos rfl]
  simp
end
def SGF (M:Md) (g:TGs) (m:MGs):Prop:=∀ (C:Ctx) (G:Hp) (ρ:DSt) (σ:St) (H:Hp) (T pd:List (D×V)) (k:DSt→Prop) (K:St→Hp→Prop),fG C M.mu→C.np≤pd.length→R C M.ow G ρ σ H (T++pd)→m (T.map (·.1)) ρ k →
 (∀ ρ' σ' G',k ρ'→az G G'→R C M.ow G' ρ' σ' H pd→K σ' H)→g (T.map (·.2)) σ H K
structure QGF (X:Cx) (M:Md) (e:List Expr) (m:MGs):Prop where
 ex:∃ t,PGs X e t∧SGF M t m
section
variable {X:Cx} {M:Md} {a b c e:Expr} {ma mb mc:ME} {pos pos':Pos} {mr:MA} {es:List Expr} {mgs:MGs}
theorem uk:QGF X M [] oY:=⟨_,iq,fun C G ρ σ H T pd k K hm hn r h kk=>by
 cases T with
 | nil=>exact ⟨rfl,kk _ _ G h (az.refl _) r⟩
 | cons _ _=>exact h.elim⟩
theorem tK {i:Nat} {x:Str} (hN:X.N.Nodup) (hi:X.N[i]? = some x) (hx:Loc X.env.scope x) (h2:QGF X M es mgs) (ho:M.ow[i]? = some true:=by decide) (hu:M.mu[i]?≠some true:=by decide) (hf:X.fn x=true∨X.env.scope.names.lookup x=some .local:=by first | exact .inl rfl | exact .inr rfl | assumption)
 (hs:(assignEach (.Name x pos :: es) X.env).map (·.2)=assign (.Name x pos) X.env :: (assignEach es X.env).map (·.2):=by rfl):QGF X M (.Name x pos :: es) (iT (gU i) mgs):=by
 obtain ⟨t2,p2,s2⟩:=h2
 refine ⟨_,c9 (bA hN hi hx hf) p2 hs,fun C G ρ σ H T pd k K hm hn r h kk=>?_⟩
 cases T with
 | nil=>exact h.elim
 | cons x T =>
  obtain ⟨O,r⟩:=r
  exact ⟨_,_,rfl,s2 C G _ _ H T pd k K hm hn (r.setO ho (hm.no hu) (by simp; omega)) h kk⟩
theorem w9 {i:Nat} {x:Str} (hN:X.N.Nodup) (hi:X.N[i]? = some x) (hx:Loc X.env.scope x) (h2:QGF X M es mgs) (ho:M.ow[i]?≠some true:=by decide) (hu:M.mu[i]?≠some true:=by decide) (hf:X.fn x=true∨X.env.scope.names.lookup x=some .local:=by first | exact .inl rfl | exact .inr rfl | assumption)
 (hs:(assignEach (.Name x pos :: es) X.env).map (·.2)=assign (.Name x pos) X.env :: (assignEach es X.env).map (·.2):=by rfl):QGF X M (.Name x pos :: es) (iT (gU i) mgs):=by
 obtain ⟨t2,p2,s2⟩:=h2
 refine ⟨_,c9 (bA hN hi hx hf) p2 hs,fun C G ρ σ H T pd k K hm hn r h kk=>?_⟩
 cases T with
 | nil=>exact h.elim
 | cons x T =>
  obtain ⟨O,r⟩:=r
  obtain ⟨G2,z2,⟨O2,r2⟩,p⟩:=r.share (by simp; omega)
  exact ⟨_,_,rfl,s2 C G2 _ _ H T pd k K hm hn ⟨O2,r2.setS ho (hm.no hu) p⟩ h fun ρ' σ' G' hk z r'=>kk ρ' σ' G' hk (z2.trans z) r'⟩
theorem tH {kk:Nat} {n:Nat} {tpos:Pos} (hc:X.calm=true) (he:QM X M e ma) (hg:QGF X M es mgs) (ht:jQ n mgs)
 (hn:(assignEach es X.env).length=n:=by rfl) (hst:(assignEach es X.env).findIdx? (·.1)=none:=by rfl)
 (hs:swapsWithSole [.Tuple es kk tpos] e pos.line X.env=pure false:=by rfl) (hw:swappedStores [.Tuple es kk tpos] e X.env=pure none:=by rfl)
 (h1:(assignEach [.Tuple es kk tpos] X.env).map (·.2)=[assign (.Tuple es kk tpos) X.env]:=by rfl):QS X M (.Assign [.Tuple es kk tpos] e pos) (mAsg ma (sf mgs)):=by
 obtain ⟨t,p,s⟩:=he; obtain ⟨t2,p2,s2⟩:=hg
 refine ⟨_,mO p (jU hc p2 hn hst) hs hw h1,fun C G ρ σ H n D hm hn r h k=>s C G ρ σ H [] _ _ hm r h fun d ρ' v G' H' hq z r'=>?_⟩
 cases d with
 | tup ds =>
  obtain ⟨O,r'⟩:=r'
  obtain ⟨a,xs,rfl,h1,h2,r2⟩:=r'.split (by rw [hn]; exact Nat.zero_le _)
  have hl:=ht _ _ _ hq
  have e1:(ds.zip xs).map (·.1)=ds:=List.map_fst_zip 'a'
  have e2:(ds.zip xs).map (·.2)=xs:=List.map_snd_zip 'a'
  refine ⟨a,xs,rfl,SqT.of (r2.gh _ _ h1),by omega,?_⟩
  have:=s2 C G' ρ' σ H' (ds.zip xs) [] n.nx D.nx hm (by rw [hn]; exact Nat.zero_le _) r2 (by rw [e1]; exact hq) fun ρ3 σ3 G3 h3 z3 r3=>k.nx ρ3 σ3 G3 H' h3 (z.trans z3) r3
  rw [e2] at this
  exact this
 | _=>exact hq.elim
theorem mo {i:Nat} {x:Str} {apos cpos npos:Pos} {ow:List Bool} (hN:X.N[i]? = some x) (ho:ow[i]? = some true:=by decide)
 (hv:Vis X.env.scope x:=by first | exact Or.inl rfl | exact Or.inr 'c' | exact Or.inr (Or.inr rfl)) (hd:'d'=false:=by decide) (hcd:(x == ("__classdict__":Str))=false:=by decide)
 (hbase:attributeBase (.Name x npos) "pop" X.env (eval (.Name x npos) X.env)=eval (.Name x npos) X.env:=by rfl) (hline:(apos.endLine == cpos.line)=true:=by rfl) :
 QE X ow (.Call (.Attribute (.Name x npos) "pop" apos) [] [] cpos) (mPop i):=by
 refine ⟨_,wW PySem.F.plainAttrs_list PySem.F.slot_list_pop PySem.F.type_list_pop x6 (dq hN hv hd hcd) hbase hline,fun C G ρ σ H pd q Q r h k=>?_⟩
 unfold mPop at h
 split at h
 ·rename_i ds e1
  split at h
  ·rename_i d e2
   obtain ⟨O,ro⟩:=r
   obtain ⟨a,xs,h1,h2,h3,h4⟩:=ro.write e1 ho
   obtain ⟨v,h5,h6⟩:=h3.at e2
   have hl:=h3.length
   refine ⟨.ref a,h1,.inl ⟨rfl,xs,SqL.of h2⟩,a,xs,v,rfl,rfl,h2,by rw [hl]; exact h5,?_⟩
   exact k d _ v G _ h.2 (az.refl _) (fun j hj=>List.getElem?_set_ne (fun (z:i=j)=>hj (z ▸ ho))) ⟨O,h4 _ _ h3.front⟩ (h6.imm d _ v h.1)
  ·exact h.elim
 ·exact h.elim
end
section
variable {X:Cx} {M:Md} {a b c e:Expr} {ma mb mc:ME} {pos pos':Pos}
def mAugI (i:Nat) (mk m:ME):MS:=fun n ρ=>match ρ[i]? with
 | some (some (.lst _))=>mk ρ fun k ρ1=>match k with
  | .int j=>match ρ1[i]? with
   | some (some (.lst ds))=>0≤j∧match atI ds j with
    | some (.int x)=>m ρ1 fun d ρ2=>match d with
     | .int y=>match ρ2[i]? with
      | some (some (.lst ds2))=>match ixN ds2.length j with
       | some p=>n.nx (ρ2.set i (some (.lst (ds2.set p (.int (x + y))))))
       | none=>False
      | _=>False
     | _=>False
    | _=>False
   | _=>False
  | _=>False
 | _=>False
end
def vg (g:MG) (mt:MT) (me:ME) (ρ0:DSt) (k0:Nat) (ds:List D) (d0:D) (K:List D→D→Prop):Prop:=∃ I:Nat→List D→D→Prop,I 0 [] d0 ∧
 (∀ i x es d,ds[i]? = some x→I i es d→g x (ρ0.set k0 (some d)) fun ρ2=>mt ρ2 fun b ρ3=>if b=true then me ρ3 fun y ρ4=>(match ρ4[k0]? with | some (some d')=>I (i + 1) (es++[y]) d' | _=>False) else match ρ3[k0]? with | some (some d')=>I (i + 1) es d' | _=>False) ∧
 ∀ es d,I ds.length es d→K es d
def mL (mi:MA) (g:MG) (mt:MT) (me:ME) (k:Nat) (js:List Nat) (j0 k0:Nat):ME:=fun ρ q=>mi ρ fun ds ρ1=>ds.length≤1000∧match ρ1[j0]? with
 | some (some d0)=>vg g mt me (dl k js ρ1) k0 ds d0 fun es d=>imms es=true∧q (.lst es) (ρ1.set j0 (some d))
 | _=>False
def owM (k0:Nat):List Bool:=List.replicate k0 false++[true]
theorem e9 {k0 i:Nat}:(owM k0)[i]? = some true↔i=k0:=by
 unfold owM
 by_cases h:i<k0
 ·rw [List.getElem?_append_left (by simpa using h),List.getElem?_replicate,if_pos h]
  constructor
  ·intro z; cases z
  ·intro z; omega
 ·rw [List.getElem?_append_right (by simpa using h),List.length_replicate]
  cases e:i - k0 with
  | zero=>simp; omega
  | succ m=>simp; omega
def muM (k0:Nat) (v:V):List (Option V):=List.replicate k0 none++[some v]
theorem nZ {k0 i:Nat} {v w:V} (h:(muM k0 v)[i]? = some (some w)):i=k0∧w=v:=by
 unfold muM at h
 by_cases c:i<k0
 ·rw [List.getElem?_append_left (by simpa using c),List.getElem?_replicate,if_pos c] at h; cases h
 ·rw [List.getElem?_append_right (by simpa using c),List.length_replicate] at h
  cases e:i - k0 with
  | zero=>rw [e] at h; simp at h; exact ⟨by omega,h.symm⟩
  | succ m=>rw [e] at h; simp at h
theorem vS (k0:Nat) (v:V):(muM k0 v)[k0]? = some (some v):=by unfold muM; rw [List.getElem?_append_right (by simp)]; simp
theorem u_ {k:Nat} {js:List Nat} {ρ:DSt} {i:Nat} {d:D} (e:(dl k js ρ)[i]? = some (some d)):k≤i∧∃ j,js[i - k]? = some j∧ρ[j]? = some (some d):=by
 unfold dl at e
 by_cases c:i<k
 ·rw [List.getElem?_append_left (by simpa using c),List.getElem?_replicate] at e
  split at e <;> cases e
 ·rw [List.getElem?_append_right (by simpa using c),List.getElem?_map] at e
  simp only [List.length_replicate] at e
  refine ⟨by omega,?_⟩
  cases z:js[i - k]? with
  | none=>rw [z] at e; cases e
  | some j =>
   rw [z] at e
   have e':(ρ[j]?).getD none=some d:=Option.some.inj e
   refine ⟨j,rfl,?_⟩
   cases w : ρ[j]? with
   | none=>rw [w] at e'; cases e'
   | some o=>rw [w] at e'; exact congrArg some e'
theorem nU {own:List Str} {js:List Nat} {σ:St} {i j:Nat} {v:V} (hi:own.length≤i) (hj:js[i - own.length]? = some j) (hv : σ[j]? = some (some v)):(bB own js σ)[i]? = some (some v):=by
 unfold bB
 rw [List.getElem?_append_right (by simpa using hi),List.getElem?_map]
 simp only [List.length_map]
 rw [hj,show (some j).map _=some ((σ[j]?).getD none) from rfl,hv]; rfl
structure CGM (k0 n:Nat) (g:TG) (m:MG):Prop where
 sg:SG ⟨owM k0,owM k0,false⟩ g m
 kp:vc n g
 mn:MonG g
theorem lj {k0 n:Nat} (i:Nat) (h:i<n:=by decide) (hk:n≤k0:=by decide):CGM k0 n (hV i) (gU i) :=
 ⟨fun C G ρ σ H pd d v k K hm r p hh kk=>by
  have hn:(owM k0)[i]?≠some true:=fun z=>by have:=e9.mp z; omega
  obtain ⟨O,r⟩:=r; exact kk _ _ hh ⟨O,r.setS hn (hm.no hn) p⟩,
  fun σ0 h0 σ x H k hk hg=>⟨fR hk (h0 i h),hg⟩,fun x σ H k k' hk h=>hk _ _ h⟩
theorem lC {ow:List Bool} {J:It} {g:TG} {mg:MG} {tt:TT} {mt:MT} {te:TE} {me:ME} {C:Ctx} {G:Hp} {ρ:DSt} {σ:St} {H:Hp} {pd:List (D×V)} {ds:List D} {own:List Str} {js:List Nat} {j0 k0:Nat} {d0:D} {K:List D→D→Prop} {Z:List V→Hp→Prop}
 (r:R C ow G ρ σ H pd) (ho:ow[j0]? = some true) (hk0:own.length≤k0) (hjk:js[k0 - own.length]? = some j0) (hj:∀ (i j:Nat),js[i]? = some j→i≠k0 - own.length→ow[j]?≠some true) (he : ρ[j0]? = some (some d0)) (jo:j8 J G ds) (cg:CGM k0 own.length g mg) (st:STe (owM k0) tt mt) (se:SE (owM k0) te me)
 (hl:ds.length≤1000) (h:vg mg mt me (dl own.length js ρ) k0 ds d0 K)
 (k:∀ es d vs G' H',K es d→az G G'→R C ow G' (ρ.set j0 (some d)) σ H' pd→Reps G' es vs→vs.length≤1000→Z vs H'):lW J g tt te (bB own js σ) H Z:=by
 obtain ⟨O,ro⟩:=r
 obtain ⟨v0,hv0,sv0⟩:=ro.sl j0 d0 he
 rw [if_pos ho] at sv0
 let fin:Nat→Option Nat:=fun l=>if l=2 * j0 then some (2 * k0) else none
 let fbk:Nat→Option Nat:=fun l=>if l=2 * k0 then some (2 * j0) else none
 let C1:Ctx:=⟨G,H,b7 fin O,muM k0 v0,0⟩
 let ρ0:=dl own.length js ρ
 have s0k:(bB own js σ)[k0]? = some (some v0):=nU hk0 hjk hv0
 have r0l:k0<ρ0.length:=by
  have:k0 - own.length<js.length:=(List.getElem?_eq_some_iff.mp hjk).1
  show k0<(dl own.length js ρ).length
  unfold dl; simp; omega
 have fino:∀ l l',fin l=some l'→l=2 * j0∧l'=2 * k0:=fun l l' e=>by
  change (if l=2 * j0 then _ else _)=_ at e
  split at e
  ·rename_i c; exact ⟨c,(Option.some.inj e).symm⟩
  ·cases e
 have finj:fin (2 * j0)=some (2 * k0):=by show (if _ then _ else _)=_; rw [if_pos rfl]
 -- the inner state,by the owned slot's value
 have inner:∀ {G':Hp} {H':Hp} {O':Own} {d:D},az G G'→az G' H'→(∀ a o,G' a=some o→G a=some o∨H a=none)→(∀ a l,O' a=some l→G' a=none∧(∃ xs:WrO,H' a=some xs.ho)∧Nw C1 a l.1) →
  (∀ a o,H a=some o→b7 fin O a=none→H' a=some o)→(∀ a,H' a=none→H a=none)→Sep G' H' O' (2 * k0) d [] v0→RO C1 (owM k0) G' (ρ0.set k0 (some d)) (bB own js σ) H' [] O':=by
  intro G' H' O' d z gh gn og fr al sp
  refine ⟨by rw [List.length_set]; show (dl own.length js ρ).length=_; unfold dl bB; simp,gh,z,gn,og,?_,fr,al,?_,?_,trivial,Nat.le_refl _⟩
  ·intro a l π e
   obtain ⟨l0,e1,e2⟩:=eY e
   obtain ⟨_,rfl⟩:=fino _ _ e2
   exact .inl ⟨k0,v0,rfl,vS k0 v0⟩
  ·intro i w e
   obtain ⟨rfl,rfl⟩:=nZ e
   exact s0k
  ·intro i d' e
   rcases dE e with ⟨rfl,e'⟩ | ⟨hne,e'⟩
   ·cases e'
    exact ⟨v0,s0k,by rw [if_pos (e9.mpr rfl)]; exact sp⟩
   ·obtain ⟨hi,j,h1,h2⟩:=u_ e'
    obtain ⟨v,g1,g2⟩:=ro.sl j d' h2
    rw [if_neg (hj _ j h1 'a')] at g2
    exact ⟨v,nU hi h1 g1,by rw [if_neg (fun zz=>hne (e9.mp zz))]; exact g2.mono z⟩
 have og1:∀ a l,b7 fin O a=some l→G a=none∧(∃ xs:WrO,H a=some xs.ho)∧Nw C1 a l.1:=fun a l e=>by
  obtain ⟨l',π⟩:=l
  obtain ⟨l0,e1,e2⟩:=eY e
  obtain ⟨q1,q2,_⟩:=ro.og a _ e1
  exact ⟨q1,q2,.inr ⟨π,e⟩⟩
 have de:R C1 (owM k0) G (ρ0.set k0 (some d0)) (bB own js σ) H []:=⟨_,inner (az.refl _) ro.gh (fun _ _ e=>.inl e) og1 (fun _ _ e _=>e) (fun _ e=>e) (sv0.keep 'r' fun a τ q=>⟨oS q finj,rfl⟩)⟩
 obtain ⟨I,i0,turn,fini⟩:=h
 have hmu:fG C1 (owM k0):=fun i v e=>by obtain ⟨rfl,_⟩:=nZ e; exact e9.mpr rfl
 refine ⟨fun i m acc H'=>m=ds.length - i∧i≤ds.length∧acc.length≤i∧∃ G' es d,az G G'∧R C1 (owM k0) G' (ρ0.set k0 (some d)) (bB own js σ) H' []∧Reps G' es acc∧I i es d,⟨_,rfl,Nat.zero_le _,Nat.le_refl _,G,[],d0,az.refl _,de,bp,i0⟩,?_⟩
 rintro i m acc H' ⟨rfl,hi,ha,G',es,d,z,r',pa,w⟩
 obtain ⟨sp,go⟩:=jo C1 (owM k0) G' _ _ H' [] i z r'
 by_cases hlt:i<ds.length
 ·obtain ⟨g1,g2⟩:=go ds[i] (List.getElem?_eq_getElem hlt)
  refine .inr ⟨g1,bH 'a',fun acc' H2=>acc'.length≤i + 1∧∃ G2 es2 d2,az G G2∧R C1 (owM k0) G2 (ρ0.set k0 (some d2)) (bB own js σ) H2 []∧Reps G2 es2 acc'∧I (i + 1) es2 d2,fun acc' H2 h=>⟨ds.length - (i + 1),by omega,rfl,hlt,h.1,h.2⟩,fun x H1 hy=>?_⟩
  obtain ⟨G1,z1,r1,p1⟩:=g2 x H1 hy
  have step1:=cg.sg C1 G1 _ _ H1 [] ds[i] x _ (fun σ2 H2=>∃ ρ2,(mt ρ2 fun b ρ3=>if b=true then me ρ3 fun y ρ4=>(match ρ4[k0]? with | some (some d')=>I (i + 1) (es++[y]) d' | _=>False) else match ρ3[k0]? with | some (some d')=>I (i + 1) es d' | _=>False)∧R C1 (owM k0) G1 ρ2 σ2 H2 []) hmu r1 p1 (turn i ds[i] es d (List.getElem?_eq_getElem hlt) w) (fun ρ2 σ2 h2 r2=>⟨ρ2,h2,r2⟩)
  refine cg.mn _ _ _ _ _ ?_ (cg.kp (bB own js σ) eZ (bB own js σ) x H1 _ (cR _) step1)
  rintro σ2 H2 ⟨hkp,ρ2,h2,r2⟩
  refine ⟨hkp,st C1 G1 ρ2 σ2 H2 [] _ _ r2 h2 fun b ρ3 G3 H3 h3 z3 kp3 r3=>?_⟩
  have bk:∀ {G4:Hp} {ρ4:DSt} {H4:Hp} {d':D},ρ4[k0]? = some (some d')→R C1 (owM k0) G4 ρ4 σ2 H4 []→R C1 (owM k0) G4 (ρ0.set k0 (some d')) (bB own js σ) H4 []:=fun e4 ⟨O4,r4⟩=>by
   obtain ⟨v,q1,q2⟩:=r4.sl k0 _ e4
   rw [if_pos (e9.mpr rfl)] at q2
   rw [eP hkp k0 v0 s0k] at q1
   cases q1
   exact ⟨O4,inner r4.g0 r4.gh r4.gn r4.og r4.fr r4.al q2⟩
  cases b with
  | true =>
   rw [if_pos rfl] at h3 ⊢
   refine se C1 G3 ρ3 σ2 H3 [] _ _ r3 h3 fun y ρ4 v G4 H4 h4 z4 kp4 r4 p4=>?_
   split at h4
   ·rename_i d' e4
    exact ⟨by simp; omega,G4,es++[y],d',z.trans (z1.trans (z3.trans z4)),bk e4 r4,dU (Reps.mono (z1.trans (z3.trans z4)) _ _ pa) (bf p4 bp),h4⟩
   ·exact h4.elim
  | false =>
   rw [if_neg 'k'] at h3 ⊢
   split at h3
   ·rename_i d' e4
    exact ⟨by omega,G3,es,d',z.trans (z1.trans z3),bk e4 r3,Reps.mono (z1.trans z3) _ _ pa,h3⟩
   ·exact h3.elim
 ·have e:i=ds.length:=by omega
  subst e
  refine .inl ⟨sp 'l',b8 'a',?_⟩
  obtain ⟨O2,r2⟩:=r'
  refine k es d acc G' H' (fini es d w) z ⟨kP fin fbk O O2,?_⟩ pa 'a'
  refine ro.out (vs:=[]) r2 ?_ (by rw [List.length_set]; exact ro.len) ro.np ?_ ?_ fun O3 h1 h2 ts=>?_
  ·intro l0 l' l e1 e2
   obtain ⟨rfl,rfl⟩:=fino _ _ e1
   change (if 2 * k0=2 * k0 then _ else _)=_ at e2
   rw [if_pos rfl] at e2
   exact (Option.some.inj e2).symm
  ·intro i d' c e
   rcases dE e with ⟨rfl,_⟩ | ⟨_,e'⟩
   ·exact absurd ho c
   ·exact e'
  ·intro i d' c e
   rcases dE e with ⟨rfl,e'⟩ | ⟨hne,e'⟩
   ·cases e'
    exact .inr ⟨k0,v0,by show (if _ then _ else _)=_; rw [if_pos rfl],e9.mpr rfl,by rw [List.getElem?_set_self r0l],hv0,s0k⟩
   ·exact .inl ⟨by show (if _ then _ else _)=_; rw [if_neg 'a'],e'⟩
  ·exact bE.keep ts (fun a j π hj e=>h1 a _ _ e (by show (if _ then _ else _)=_; rw [if_neg 'a'])) ro.pn
section
variable {X:Cx} {ow:List Bool} {elt tg iter:Expr} {ifs:List Expr} {pos:Pos} {mi:MA} {mg:MG} {mt:MT} {me:ME} {scope:Scope} {cl:List (Str×Addr)}
theorem lz {wi:TI} {g:TG} {own:List Str} {js:List Nat} {j0 k0:Nat} (si:SI ow wi mi) (cg:CGM k0 own.length g mg) (ho:ow[j0]? = some true) (hk0:own.length≤k0) (hjk:js[k0 - own.length]? = some j0) (hj:∀ (i j:Nat),js[i]? = some j→i≠k0 - own.length→ow[j]?≠some true) :
 SF ow (jq wi g (pC (owM k0) mt) (qa (owM k0) me) own js) (mL mi mg mt me own.length js j0 k0):=fun C G ρ σ H pd q Q r h k =>
 si C G ρ σ H pd _ _ r h fun ds ρ' G' H' J hq z kp r' jo=>by
  obtain ⟨hl,hq⟩:=hq
  split at hq
  ·rename_i d0 e0
   refine lC r' ho hk0 hjk hj e0 jo cg kJ nI hl hq fun es d vs G2 H2 hK z2 r2 p2 hl p hp=>?_
   obtain ⟨O2,r2⟩:=r2
   exact k _ _ _ _ _ hK.2 (z.trans z2) (kp.trans fun j hj=>List.getElem?_set_ne (fun (zz:j0=j)=>hj (zz ▸ ho))) (r2.newL hp hK.1 p2)
  ·exact hq.elim
structure CInnM (X:Cx) (k0:Nat) (tg:Expr) (ifs:List Expr) (elt:Expr) (g:TG) (mt:MT) (me:ME):Prop where
 pg:PG X tg g
 qi:QIf X (owM k0) ifs mt
 qe:QE X (owM k0) elt me
theorem rh {g:TG} (own:List Str) (js:List Nat) (j0 k0:Nat) (c:CompOk X scope cl own js) (hc:X.calm=true) (hi:QI X ow tg iter mi) (cg:CGM k0 own.length g mg)
 (inner:∀ (C:Addr) (s₀:Shared) (H₀:Hp) (ex:List Addr),CInnM 'i' k0 tg ifs elt g mt me) (ho:ow[j0]? = some true:=by decide) (hk0:own.length≤k0:=by decide) (hjk:js[k0 - own.length]? = some j0:=by rfl)
 (hj:(js.mapIdx fun i j=>decide (i=k0 - own.length) || !decide (ow[j]? = some true)).all id=true:=by decide)
 (hs:∀ x,foldedSetIterable iter X.env x=pure x:=by intro _; rfl):QF X ow 'j' (mL mi mg mt me own.length js j0 k0):=by
 obtain ⟨wi,pi,si⟩:=hi
 have hj':∀ (i j:Nat),js[i]? = some j→i≠k0 - own.length→ow[j]?≠some true:=fun i j e hne z=>by
  rw [List.all_eq_true] at hj
  have:=hj (decide (i=k0 - own.length) || !decide (ow[j]? = some true)) (List.mem_of_getElem? (i:=i) (by rw [List.getElem?_mapIdx,e]; rfl))
  simp [hne,z] at this
 exact ⟨_,oE own js c hc pi 'o' hs,lz si cg ho hk0 hjk hj'⟩
end
section
variable {X:Cx} {M:Md} {a b c e:Expr} {ma mb mc:ME} {pos pos' p1 p2 p3:Pos} {te:TE} {j1:Nat} {ow:List Bool}
theorem iF:∀ {a b:List D},imms a=true→imms b=true→imms (a++b)=true
 | [],b,_,h=>h
 | d :: a,b,h,h2=>by rw [imms,Bool.and_eq_true] at h; rw [List.cons_append,imms,h.1,iF h.2 h2]; rfl
theorem lR {g:TG} {mg:MG} {mt:MT} {me:ME} {mi:MA} {tg iter elt:Expr} {ifs:List Expr} {scope:Scope} {cl:List (Str×Addr)} {i:Nat} {y:Str} {spos py:Pos} (own:List Str) (js:List Nat) (j0 k0:Nat) (c:CompOk X scope cl own js) (hc:X.calm=true) (hN:X.N.Nodup) (hy:X.N[i]? = some y) (hx:Loc X.env.scope y) (hi:QI X M.ow tg iter mi) (cg:CGM k0 own.length g mg)
 (inner:∀ (C:Addr) (s₀:Shared) (H₀:Hp) (ex:List Addr),CInnM 'i' k0 tg ifs elt g mt me) (hoj:M.ow[j0]? = some true:=by decide) (hk0:own.length≤k0:=by decide) (hjk:js[k0 - own.length]? = some j0:=by rfl)
 (hj:(js.mapIdx fun i j=>decide (i=k0 - own.length) || !decide (M.ow[j]? = some true)).all id=true:=by decide) (ho:M.ow[i]?≠some true:=by decide) (hu:M.mu[i]?≠some true:=by decide)
 (hsw:swapsWith 'j' (some (.Name y py)) spos.line X.env=pure true:=by rfl)
 (hs:∀ x,foldedSetIterable iter X.env x=pure x:=by intro _; rfl) (hf:X.fn y=true∨X.env.scope.names.lookup y=some .local:=by first | exact .inl rfl | exact .inr rfl | assumption) :
 QS X M (.Assign [.Name y py] 'j' spos) (jR i (mL mi mg mt me own.length js j0 k0)):=by
 obtain ⟨wi,pi,si⟩:=hi
 have hj':∀ (i j:Nat),js[i]? = some j→i≠k0 - own.length→M.ow[j]?≠some true:=fun i j e hne z=>by
  rw [List.all_eq_true] at hj
  have:=hj (decide (i=k0 - own.length) || !decide (M.ow[j]? = some true)) (List.mem_of_getElem? (i:=i) (by rw [List.getElem?_mapIdx,e]; rfl))
  simp [hne,z] at this
 exact ⟨_,d3 own js c hc hN hy hx pi 'o' hsw hs hf,nH (lz si cg hoj hk0 hjk hj').se ho hu⟩
end
def isW:D→Bool
 | .int _=>true
 | _=>false
def btw (lo hi:Int):D→Bool
 | .int i=>decide (lo≤i)&&decide (i≤hi)
 | _=>false
def gD:D→Bool
 | .tup [.lst ps,.lst rs]=>decide (ps.length=rs.length)&&(decide (1≤ps.length)&&decide (ps.length≤23))
 | _=>false
structure Tree (ps rs:List Int):Prop where
 len:ps.length=rs.length
 lo : 1≤ps.length
 hi:ps.length≤23
 par:∀ (i:Nat) (x:Int),ps[i]? = some x→0≤x∧x≤i
 room:∀ (i:Nat) (x:Int),rs[i]? = some x→1≤x∧x≤1000000
def t9:SpD:=fun ds q=>∃ d,ds=[d]∧d.isS=false∧q (.bl (isW d)) []
def o8:SpD:=fun ds q=>∃ d lo hi,ds=[d,.int lo,.int hi]∧d.isS=false∧q (.bl (btw lo hi d)) []
def xV:SpD:=fun ds q=>∃ ps rs,ds=[aQ ps rs]∧Tree ps rs∧q .non []
def rg (ns:List Int) (k:Int):Int:=ns.getD k.toNat 0
def rk (K:PySem.W.Frag) (φ:Addr→Prop) (ns:List Int):Prop:=∀ a H,φ a→SqL K H a (ns.map V.int)
def wm (K:PySem.W.Frag):SpD:=fun ds q=>∃ φ ns k,ds=[.scr φ ns,.int k]∧rk K φ ns∧0≤k∧q (.int (rg ns k)) []
def wH:SpD:=fun ds q=>∃ c m many,ds=[aL [c,m],.int many]∧0≤c∧0<many∧Sm many∧∀ r c' m',0≤r→r<many→0≤c'→q (.int r) [some (aL [c',m'])]
def qO (K:PySem.W.Frag):SpD:=fun ds q=>∃ φ ns,ds=[.scr φ ns]∧rk K φ ns∧ns.length≤63∧q (.bl true) []
def oQ (K:PySem.W.Frag):Sp:=fun vs H Q _=>∃ (a:Addr) (ns:List Int),vs=[.ref a]∧Only H∧SqL K H a (ns.map V.int)∧ns.length≤63∧∀ H',Q (.bl true) H'
theorem qK {K:PySem.W.Frag} {vs:List V} {H:Hp} {Q:VK} {E:XK} (h:oQ K vs H Q E):bj [false] false (qO K) vs H Q E:=by
 obtain ⟨a,ns,rfl,hO,hS,hl,hq⟩:=h
 have main:∀ φ:Addr→Prop,rk K φ ns→Rep H (.scr φ ns) (.ref a)→bj [false] false (qO K) [.ref a] H Q E:=fun φ hφ r=>by
  refine ⟨⟨H,H,fun _=>none,[none],0⟩,H,[.scr φ ns],fun d _=>d = .bl true,rfl,rfl,⟨fun _=>none,rfl,az.refl _,az.refl _,fun _ _ e=>.inl e,fun a l e=>by (first | cases e),fun a l π e=>by (first | cases e),fun _ _ e _=>e,fun _ e=>e,fun i v e=>?_,?_,trivial,Nat.le_refl _⟩,⟨φ,ns,rfl,hφ,hl,rfl⟩,rfl,?_⟩
  ·cases i with
   | zero=>simp at e
   | succ i=>simp at e
  ·intro i d e
   cases i with
   | zero=>simp at e; subst e; exact ⟨_,rfl,by simpa using r⟩
   | succ i=>simp at e
  ·intro d ρ' σ' v G' H' hd _ _ hr
   subst hd
   unfold Ret at hr
   rw [if_neg 'k'] at hr
   rw [bP hr.2]
   exact hq H'
 rcases hS with (h1 | ⟨o,h1⟩) | h1
 ·rcases hO a with z | ⟨o,xs,z⟩
  ·rw [h1] at z; cases z
  ·rw [h1] at z; cases z
 ·exact main (fun _=>False) (fun _ _ z=>z.elim) (by rw [Rep]; exact ⟨a,rfl,.inl ⟨o,h1⟩⟩)
 ·exact main (fun b=>b=a) (fun b H' z=>by subst z; exact .inr h1) (by rw [Rep]; exact ⟨a,rfl,.inr rfl⟩)
theorem eW {ns:List Int} {k:Int} (h0 : 0≤k) (h1:k<ns.length):atI (ns.map D.int) k=some (.int (ns.getD k.toNat 0)):=by
 have ek:k=((k.toNat:Nat):Int):=by omega
 have hl:k.toNat<ns.length:=by omega
 have:atI (ns.map D.int) ((k.toNat:Nat):Int)=some (.int (ns.getD k.toNat 0)):=fc (by rw [List.getElem?_map,List.getD_eq_getElem?_getD,List.getElem?_eq_getElem hl]; rfl)
 rw [← ek] at this
 exact this
theorem yb {ns:List Int} {k:Int} (h0 : 0≤k) (h1:k<ns.length):atI ns k=some (ns.getD k.toNat 0):=by
 have ek:k=((k.toNat:Nat):Int):=by omega
 have hl:k.toNat<ns.length:=by omega
 have:atI ns ((k.toNat:Nat):Int)=some (ns.getD k.toNat 0):=fc (by rw [List.getD_eq_getElem?_getD,List.getElem?_eq_getElem hl]; rfl)
 rw [← ek] at this
 exact this
theorem bZ {ds:List D} {k:Int} {d:D} {q:D→Prop} (h:atI ds k=some d) (hq:q d):atD ds k q:=by unfold atD; rw [h]; exact hq
theorem gt {ns:List Int} {i:Nat} {d:D} (h:(ns.map D.int)[i]? = some d):∃ z,ns[i]? = some z∧d = .int z:=by
 rw [List.getElem?_map] at h
 cases e:ns[i]? with
 | none=>rw [e] at h; cases h
 | some z=>rw [e] at h; exact ⟨z,rfl,(Option.some.inj h).symm⟩
theorem ju {ps rs:List Int} (hT:Tree ps rs):gD (aQ ps rs)=true:=by
 show (decide ((ps.map D.int).length=(rs.map D.int).length)&&(decide (1≤(ps.map D.int).length)&&decide ((ps.map D.int).length≤23)))=true
 rw [List.length_map,List.length_map,decide_eq_true hT.len,decide_eq_true hT.lo,decide_eq_true hT.hi]; rfl
theorem cw {lo hi z:Int} (h1:lo≤z) (h2:z≤hi):btw lo hi (.int z)=true:=by show (decide (lo≤z)&&decide (z≤hi))=true; rw [decide_eq_true h1,decide_eq_true h2]; rfl
abbrev cM (ps:List Int) (k:Int):Int:=ps.getD (k - 1).toNat 0
theorem Tree.up {ps rs:List Int} (hT:Tree ps rs) {k:Int} (h0 : 0<k) (h1:k≤ps.length) : 0≤cM ps k∧cM ps k<k:=by
 have hl:(k - 1).toNat<ps.length:=by omega
 have e:ps[(k - 1).toNat]? = some (cM ps k):=by unfold cM; rw [List.getD_eq_getElem?_getD,List.getElem?_eq_getElem hl]; rfl
 have:=hT.par _ _ e
 omega
inductive Up (ps:List Int):Int→List Int→Prop
 | zero:Up ps 0 [0]
 | step {k:Int} {u:List Int} (h : 0<k):Up ps (cM ps k) u→Up ps k (k :: u)
theorem Up.det {ps:List Int} {k:Int} {u:List Int} (h:Up ps k u):∀ {v:List Int},Up ps k v→u=v:=by
 induction h with
 | zero=>intro v h; cases h with | zero=>rfl | step h0 _=>omega
 | step h0 _ ih=>intro v h; cases h with | zero=>omega | step _ h=>rw [ih h]
theorem Up.all {ps rs:List Int} (hT:Tree ps rs):∀ (n:Nat) (k:Int),k.toNat=n→0≤k→k≤ps.length→∃ u,Up ps k u
 | n,k,hn,h0,h1=>by
  by_cases hk:k=0
  ·subst hk; exact ⟨_,.zero⟩
  ·have hp:=hT.up (k:=k) 'a' h1
   obtain ⟨u,hu⟩:=Up.all hT (cM ps k).toNat (cM ps k) rfl hp.1 'a'
   exact ⟨_,.step 'a' hu⟩
termination_by n k hn=>n
decreasing_by omega
theorem Up.le {ps rs:List Int} (hT:Tree ps rs) {k:Int} {u:List Int} (h:Up ps k u):k≤ps.length→∀ x∈u,0≤x∧x≤k:=by
 induction h with
 | zero=>intro _ x hx; simp at hx; omega
 | step h0 _ ih =>
  intro h1 x hx
  have hp:=hT.up h0 h1
  rcases List.mem_cons.mp hx with rfl | hx
  ·omega
  ·have:=ih 'a' x hx; omega
theorem Up.head {ps:List Int} {k:Int} {u:List Int} (h:Up ps k u):k∈u:=by cases h <;> simp
inductive Climb (ps:List Int):Int→Int→List Int→Int→Prop
 | same (a:Int):Climb ps a a [] a
 | left {a b:Int} {w:List Int} {m:Int} (h:b<a):Climb ps b (cM ps a) w m→Climb ps a b (a :: w) m
 | right {a b:Int} {w:List Int} {m:Int} (h:a<b):Climb ps a (cM ps b) w m→Climb ps a b (b :: w) m
theorem Climb.meet {ps rs:List Int} (hT:Tree ps rs) {a b m:Int} {w:List Int} (h:Climb ps a b w m) : 0≤a→0≤b→a≤ps.length→b≤ps.length→∀ {ua ub:List Int},Up ps a ua→Up ps b ub→m∈ua∧m∈ub∧∀ x∈ua,x∈ub→x≤m:=by
 induction h with
 | same a=>intro a0 _ a1 _ ua ub ha hb; have:=ha.det hb; subst this; exact ⟨ha.head,ha.head,fun x hx _=>(ha.le hT a1 x hx).2⟩
 | left hlt hc ih =>
  intro a0 b0 a1 b1 ua ub ha hb
  cases ha with
  | zero=>omega
  | step h0 hu =>
   have hp:=hT.up h0 a1
   obtain ⟨m1,m2,m3⟩:=ih b0 hp.1 b1 'a' hb hu
   refine ⟨List.mem_cons_of_mem _ m2,m1,fun x hx hxb=>?_⟩
   rcases List.mem_cons.mp hx with rfl | hx
   ·have:=(hb.le hT b1 _ hxb).2; omega
   ·exact m3 x hxb hx
 | right hlt hc ih =>
  intro a0 b0 a1 b1 ua ub ha hb
  cases hb with
  | zero=>omega
  | step h0 hu =>
   have hp:=hT.up h0 b1
   obtain ⟨m1,m2,m3⟩:=ih a0 hp.1 a1 'a' ha hu
   refine ⟨m1,List.mem_cons_of_mem _ m2,fun x hx hxb=>?_⟩
   rcases List.mem_cons.mp hxb with rfl | hxb
   ·have:=(ha.le hT a1 _ hx).2; omega
   ·exact m3 x hx hxb
theorem Climb.low {ps rs:List Int} (hT:Tree ps rs) {a b m:Int} {w:List Int} (h:Climb ps a b w m) : 0≤a→0≤b→a≤ps.length→b≤ps.length→0≤m∧m≤a∧m≤b:=by
 induction h with
 | same a=>intro a0 _ _ _; omega
 | left hlt hc ih=>intro a0 b0 a1 b1; have hp:=hT.up (show 0<_ by omega) a1; have:=ih b0 hp.1 b1 'a'; omega
 | right hlt hc ih=>intro a0 b0 a1 b1; have hp:=hT.up (show 0<_ by omega) b1; have:=ih a0 hp.1 a1 'a'; omega
theorem Climb.mem {ps rs:List Int} (hT:Tree ps rs) {a b m:Int} {w:List Int} (h:Climb ps a b w m) : 0≤a→0≤b→a≤ps.length→b≤ps.length→∀ x∈w,0<x∧x≤ps.length:=by
 induction h with
 | same a=>intro _ _ _ _ x hx; cases hx
 | left hlt hc ih =>
  intro a0 b0 a1 b1 x hx
  have hp:=hT.up (show 0<_ by omega) a1
  rcases List.mem_cons.mp hx with rfl | hx
  ·omega
  ·exact ih b0 hp.1 b1 'a' x hx
 | right hlt hc ih =>
  intro a0 b0 a1 b1 x hx
  have hp:=hT.up (show 0<_ by omega) b1
  rcases List.mem_cons.mp hx with rfl | hx
  ·omega
  ·exact ih a0 hp.1 a1 'a' x hx
theorem Climb.len {ps rs:List Int} (hT:Tree ps rs) {a b m:Int} {w:List Int} (h:Climb ps a b w m) : 0≤a→0≤b→a≤ps.length→b≤ps.length→(w.length:Int)≤a + b:=by
 induction h with
 | same a=>intro _ _ _ _; simp; omega
 | left hlt hc ih=>intro a0 b0 a1 b1; have hp:=hT.up (show 0<_ by omega) a1; have:=ih b0 hp.1 b1 'a'; simp; omega
 | right hlt hc ih=>intro a0 b0 a1 b1; have hp:=hT.up (show 0<_ by omega) b1; have:=ih a0 hp.1 a1 'a'; simp; omega
theorem Climb.det {ps:List Int} {a b m:Int} {w:List Int} (h:Climb ps a b w m):∀ {m':Int} {w':List Int},Climb ps a b w' m'→w=w'∧m=m':=by
 induction h with
 | same a=>intro m' w' h; cases h with | same=>exact ⟨rfl,rfl⟩ | left h _=>omega | right h _=>omega
 | left hlt hc ih=>intro m' w' h; cases h with | same=>omega | left _ h=>have:=ih h; exact ⟨by rw [this.1],this.2⟩ | right h _=>omega
 | right hlt hc ih=>intro m' w' h; cases h with | same=>omega | right _ h=>have:=ih h; exact ⟨by rw [this.1],this.2⟩ | left h _=>omega
structure Ends2 (ps:List Int) (a b:Int):Prop where
 a0 : 0≤a
 a1:a≤ps.length
 b0 : 0≤b
 b1:b≤ps.length
 ne:a≠b
def u7:SpD:=fun ds q=>∃ ps rs d,ds=[aQ ps rs,d]∧d.isS=false∧q (.bl (btw 0 ps.length d)) []
def nq:SpD:=fun ds q=>∃ ps rs a b,ds=[aQ ps rs,.int a,.int b]∧Tree ps rs∧Ends2 ps a b∧q .non []
def tE:SpD:=fun ds q=>∃ ps rs a b,ds=[aQ ps rs,.int a,.int b]∧Tree ps rs∧0≤a∧a≤ps.length∧0≤b∧b≤ps.length∧∀ w m,Climb ps a b w m→q (.tup [aL (dc w),.int m]) []
def sdWay:SpD:=fun ds q=>∃ ps rs a b,ds=[aQ ps rs,.int a,.int b]∧Tree ps rs∧Ends2 ps a b∧∀ w m,Climb ps a b w m→q (aL (dc w)) []
theorem pF (ps:List Int) (y:Int):D.lst (ps.map D.int++[D.int y])=aL (ps++[y]):=by unfold aL; rw [List.map_append]; rfl
theorem br (ps:List Int):(ps.map D.int).length=ps.length:=List.length_map _
theorem lN {ns:List Int} {k:Nat} (h:k<ns.length):ns.getD k 0∈ns:=by rw [List.getD_eq_getElem?_getD,List.getElem?_eq_getElem h]; exact List.getElem_mem h
theorem oN {P:Nat→Int→Prop} {ps:List Int} {y:Int} (h:∀ (j:Nat) (x:Int),ps[j]? = some x→P j x) (hy:P ps.length y):∀ (j:Nat) (x:Int),(ps++[y])[j]? = some x→P j x:=by
 intro j x hj
 by_cases hjl:j<ps.length
 ·rw [List.getElem?_append_left hjl] at hj; exact h j x hj
 ·rw [List.getElem?_append_right 'a'] at hj
  cases e:j - ps.length with
  | zero => rw [e] at hj; have:y = x:=by simpa using hj
            subst this; rw [show j=ps.length by omega]; exact hy
  | succ q=>rw [e] at hj; simp at hj
def sdTie:SpD:=fun ds q=>∃ ps rs d,ds=[aQ ps rs,d]∧d.isS=false∧q (.bl (btw 1 ps.length d)) []
def pE:SpD:=fun ds q=>∃ ps rs a b,ds=[aQ ps rs,.int a,.int b]∧Tree ps rs∧1≤a∧a≤ps.length∧1≤b∧b≤ps.length∧∀ u,Up ps (cM ps a) u→q (.bl (u.contains b)) []
def lay:Nat→D→Bool
 | _,.int _=>true
 | _,.bl _=>true
 | _,.non=>true
 | n + 1,.tup ds=>ds.all (lay n)
 | n + 1,.lst ds=>ds.all (lay n)
 | _,_=>false
theorem kE {n:Nat} (ih:∀ d,lay n d=true→(toP d).canLay0=true∧(toP d).depth≤n + 1):∀ ds:List D,ds.all (lay n)=true→PyData.canLayAll0 (toPs ds)=true∧PyData.depthAll (toPs ds)≤n + 1
 | [],_=>by rw [toPs]; simp [PyData.canLayAll0,PyData.depthAll]
 | d :: ds,h=>by
  rw [List.all_cons,Bool.and_eq_true] at h
  have h1:=ih d h.1
  have h2:=kE ih ds h.2
  rw [toPs]
  simp only [PyData.canLayAll0,PyData.depthAll,h1.1,h2.1,Bool.and_self,true_and]
  omega
theorem mR:∀ (n:Nat) (d:D),lay n d=true→(toP d).canLay0=true∧(toP d).depth≤n + 1
 | n,.int _,_=>by rw [toP]; simp [PyData.canLay0,PyData.depth]
 | n,.bl _,_=>by rw [toP]; simp [PyData.canLay0,PyData.depth]
 | n,.non,_=>by rw [toP]; simp [PyData.canLay0,PyData.depth]
 | n + 1,.tup ds,h=>by
  have:=kE (mR n) ds (by simpa [lay] using h)
  rw [toP]; simp only [PyData.canLay0,PyData.depth,this.1,true_and]; omega
 | n + 1,.lst ds,h=>by
  have:=kE (mR n) ds (by simpa [lay] using h)
  rw [toP]; simp only [PyData.canLay0,PyData.depth,this.1,true_and]; omega
 | 0,.tup _,h=>by simp [lay] at h
 | 0,.lst _,h=>by simp [lay] at h
 | n,.str _,h=>by cases n <;> simp [lay] at h
 | n,.dct,h=>by cases n <;> simp [lay] at h
 | n,.dic _ _,h=>by cases n <;> simp [lay] at h
 | n,.scr _ _,h=>by cases n <;> simp [lay] at h
 | n,.ext _,h=>by cases n <;> simp [lay] at h
theorem uf {n:Nat} {d:D} (h:lay n d=true) (hn:n≤60):okD d=true:=by
 have:=mR n d h
 unfold okD SeqAt.shaped
 rw [this.1,Bool.true_and]
 exact decide_eq_true 'a'
structure Ask where
 one:Int
 other:Int
 size:Int
 worth:Int
def dH (a:Ask):D:=.tup [.int a.one,.int a.other,.int a.size,.int a.worth]
def bK (as:List Ask):D:=.lst (as.map dH)
structure AskOk (ps:List Int) (a:Ask):Prop where
 ends:Ends2 ps a.one a.other
 s0 : 1≤a.size
 s1:a.size≤1000000
 w0 : 1≤a.worth
 w1:a.worth≤1000000000000
structure AsksOk (ps:List Int) (as:List Ask):Prop where
 len:as.length≤30
 ok:∀ a∈as,AskOk ps a
theorem tN {as:List Ask} {i:Nat} {d:D} (h:(as.map dH)[i]? = some d):∃ a,as[i]? = some a∧d=dH a:=by
 rw [List.getElem?_map] at h
 cases e:as[i]? with
 | none=>rw [e] at h; cases h
 | some z=>rw [e] at h; exact ⟨z,rfl,(Option.some.inj h).symm⟩
def ask0:Ask:=⟨0,0,0,0⟩
theorem eS (as:List Ask):(as.map dH).length=as.length:=List.length_map _
def iQ (ps:List Int):Nat→Int→Int→List Int
 | 0,_,_=>[]
 | f + 1,a,b=>if b<a then a :: iQ ps f b (cM ps a) else if a<b then b :: iQ ps f a (cM ps b) else []
def iD (ps:List Int):Nat→Int→Int→Int
 | 0,a,_=>a
 | f + 1,a,b=>if b<a then iD ps f b (cM ps a) else if a<b then iD ps f a (cM ps b) else a
theorem fQ {ps rs:List Int} (hT:Tree ps rs):∀ (f:Nat) (a b:Int),(a + b).toNat≤f→0≤a→0≤b→a≤ps.length→b≤ps.length→Climb ps a b (iQ ps f a b) (iD ps f a b)
 | 0,a,b,hf,a0,b0,_,_=>by
  have:a=b:=by omega
  subst this
  exact .same a
 | f + 1,a,b,hf,a0,b0,a1,b1=>by
  unfold iQ iD
  by_cases h1:b<a
  ·rw [if_pos h1,if_pos h1]
   have hp:=hT.up (show 0<a by omega) a1
   exact .left h1 (fQ hT f b _ 'a' b0 hp.1 b1 'a')
  ·rw [if_neg h1,if_neg h1]
   by_cases h2:a<b
   ·rw [if_pos h2,if_pos h2]
    have hp:=hT.up (show 0<b by omega) b1
    exact .right h2 (fQ hT f a _ 'a' a0 hp.1 a1 'a')
   ·rw [if_neg h2,if_neg h2]
    have:a=b:=by omega
    subst this
    exact .same a
def sW (ps:List Int) (a b:Int):List Int:=dc (iQ ps 100 a b)
def vh (ps:List Int) (a b:Int):Int:=iD ps 100 a b
theorem Climb.way {ps rs:List Int} (hT:Tree ps rs) {a b m:Int} {w:List Int} (h:Climb ps a b w m) (a0 : 0≤a) (b0 : 0≤b) (a1:a≤ps.length) (b1:b≤ps.length):dc w=sW ps a b∧m=vh ps a b:=by
 have hi:=hT.hi
 have:=h.det (fQ hT 100 a b 'a' a0 b0 a1 b1)
 exact ⟨by rw [this.1]; rfl,this.2⟩
theorem oW {ps rs:List Int} (hT:Tree ps rs) {a b:Int} (a0 : 0≤a) (b0 : 0≤b) (a1:a≤ps.length) (b1:b≤ps.length):∃ w,Climb ps a b w (vh ps a b)∧sW ps a b=dc w:=by
 have hi:=hT.hi
 exact ⟨_,fQ hT 100 a b 'a' a0 b0 a1 b1,rfl⟩
theorem om {ps rs:List Int} (hT:Tree ps rs) {a b:Int} (he:Ends2 ps a b) {x:Int} (hx:x∈sW ps a b) : 0<x∧x≤ps.length:=by
 obtain ⟨w,hw,e⟩:=oW hT he.a0 he.b0 he.a1 he.b1
 rw [e] at hx
 exact hw.mem hT he.a0 he.b0 he.a1 he.b1 x ((dj w).mem_iff.mp hx)
def dg (ps:List Int) (a:Ask):List Int:=sW ps a.one a.other
def uc:SpD:=fun ds q=>∃ ps rs a,ds=[aQ ps rs,dH a]∧Tree ps rs∧Ends2 ps a.one a.other∧q (aL (dg ps a)) []
theorem lP (n:Nat) (d:D):(List.replicate n [d]).flatten=List.replicate n d:=by
 induction n with
 | zero=>rfl
 | succ n ih=>rw [List.replicate_succ,List.flatten_cons,ih,List.replicate_succ]; rfl
theorem tX {n:Nat} {k:Int} (h0 : 0≤k) (h1:k<n):ixN n k=some k.toNat:=by unfold ixN; rw [if_pos h0,if_pos h1]
theorem nu {ps:List Int} {a r:Int} (a0 : 0≤a) (a1:a<1 + (ps.length:Int)) (r0 : 0≤r) (r1:r<ps.length):Ends2 ps a ((a + 1 + r) % (1 + (ps.length:Int))):=by
 refine ⟨a0,by omega,Int.emod_nonneg _ 'a',?_,?_⟩
 ·have:=Int.emod_lt_of_pos (a + 1 + r) (show 0<1 + (ps.length:Int) by omega); omega
 ·intro he
  by_cases hlt:a + 1 + r<1 + (ps.length:Int)
  ·rw [Int.emod_eq_of_lt 'a' hlt] at he; omega
  ·have e:(a + 1 + r) % (1 + (ps.length:Int))=a + 1 + r - (1 + (ps.length:Int)):=by
    rw [← Int.sub_emod_right,Int.emod_eq_of_lt 'a' 'a']
   omega
theorem Climb.nodup {ps rs:List Int} (hT:Tree ps rs) {a b m:Int} {w:List Int} (h:Climb ps a b w m) : 0≤a→0≤b→a≤ps.length→b≤ps.length→w.Nodup∧∀ x∈w,x≤max a b:=by
 induction h with
 | same a=>intro _ _ _ _; exact ⟨List.nodup_nil,fun x h=>by cases h⟩
 | @left a b w m hlt hc ih =>
  intro a0 b0 a1 b1
  have hp:=hT.up (show 0<a by omega) a1
  obtain ⟨h1,h2⟩:=ih b0 hp.1 b1 'a'
  refine ⟨List.nodup_cons.mpr ⟨fun z=>by have:=h2 a z; omega,h1⟩,fun x hx=>?_⟩
  rcases List.mem_cons.mp hx with rfl | hx
  ·omega
  ·have:=h2 x hx; omega
 | @right a b w m hlt hc ih =>
  intro a0 b0 a1 b1
  have hp:=hT.up (show 0<b by omega) b1
  obtain ⟨h1,h2⟩:=ih a0 hp.1 a1 'a'
  refine ⟨List.nodup_cons.mpr ⟨fun z=>by have:=h2 b z; omega,h1⟩,fun x hx=>?_⟩
  rcases List.mem_cons.mp hx with rfl | hx
  ·omega
  ·have:=h2 x hx; omega
theorem pB {ps rs:List Int} (hT:Tree ps rs) {a b:Int} (he:Ends2 ps a b):(sW ps a b).Nodup:=by
 obtain ⟨w,hw,e⟩:=oW hT he.a0 he.b0 he.a1 he.b1
 rw [e]
 exact (dj w).nodup_iff.mpr (hw.nodup hT he.a0 he.b0 he.a1 he.b1).1
section
variable {X:Cx}
end
section
variable {X:Cx} {M:Md} {e:Expr} {ma:ME} {pos:Pos}
end
def eqB:Value→Bool
 | .bool a=>a == true
 | _=>false
def wA:V→List V→Hp→VK→Prop:=fun x vs H Q=>∃ (l:Addr) (bs:List Bool),x = .ref l∧vs=[.bl true]∧H l=some (.lst (bs.map V.bl))∧Q (.int (bs.countP id:Nat)) H
theorem gx:∀ {bs:List Bool} {us:List Value},aM (bs.map V.bl) us→us=bs.map Value.bool
 | [],_,.nil=>rfl
 | b :: bs,_,.cons r t=>by rw [gx (bs:=bs) t]; cases r; rfl
theorem iX:∀ bs:List Bool,(bs.map Value.bool).countP eqB=bs.countP id
 | []=>rfl
 | b :: bs=>by rw [List.map_cons,List.countP_cons,List.countP_cons,iX bs]; cases b <;> rfl
section
variable {X:Cx}
theorem qG:MtM X "list.count" wA:=by
 (try refine ⟨?_⟩); intro pins s σ H x vs v us Q I rx rv h
 obtain ⟨l,bs,rfl,rfl,hH,q⟩:=h
 cases rx
 obtain ⟨u,rfl,ru⟩:=rv.one
 cases ru
 obtain ⟨z,its,n,r,hl,e⟩:=I.lstM hH
 have ei:=gx r
 subst ei
 refine call_meets F.slot_list_count ⟨_,e,rfl⟩ F.entry_list_count (F.args_list_count_2 _ _)
  (SeqAt.list_countAt l (bs.map Value.bool).toArray n none #[] (.bool true) eqB) ⟨e,fun y hy=>?_,?_⟩
 ·obtain ⟨b,hb,rfl⟩:=List.mem_map.mp (List.mem_toArray.mp hy)
  exact SeqAt.EqAt.bool_bool b true
 ·refine ⟨.int (bs.countP id:Nat),H,I.tok _,⟨s.toks,?_⟩,q⟩
  show Value.int (((bs.map Value.bool).toArray.toList.countP eqB:Nat):Int) s.toks=_
  rw [← iX]
variable {ow:List Bool} {e:Expr} {ma:ME}
theorem gR {G:Hp}:∀ {bs:List Bool} {xs:List V},Reps G (bs.map D.bl) xs→xs=bs.map V.bl
 | [],xs,h=>by rw [List.map_nil,Reps] at h; subst h; rfl
 | n :: r,xs,h=>by rw [List.map_cons,Reps] at h; obtain ⟨v,vs,rfl,h1,h2⟩:=h; rw [bP h1,gR h2]; rfl
def yq (m:ME):ME:=fun ρ q=>m ρ fun d ρ1=>match d with
 | .lst ds=>∃ bs:List Bool,ds=bs.map D.bl∧q (.int (bs.countP id:Nat)) ρ1
 | _=>False
theorem tw {j1:Nat} {p1 apos cpos:Pos} (h:QE X ow e ma)
 (hbase:attributeBase e "count" X.env (eval e X.env)=eval e X.env:=by rfl)
 (hfew:((backTo cpos (starEach [.Constant (.bool true) j1 p1] X.env)).all (fun x=>!x.1)&&(backToKw cpos (keywordEach [] X.env)).all (fun x=>x.1.isSome)
  && decide (([.Constant (.bool true) j1 p1]:List Expr).length + ([]:List Keyword).length + (if ([]:List Keyword).isEmpty then 0 else 1)<30))=true:=by rfl)
 (hline:(apos.endLine == cpos.line)=true:=by rfl) (hst:starEach [.Constant (.bool true) j1 p1] X.env=[(false,eval (.Constant (.bool true) j1 p1) X.env)]:=by rfl) :
 QE X ow (.Call (.Attribute e "count" apos) [.Constant (.bool true) j1 p1] [] cpos) (yq ma):=by
 obtain ⟨t,p,s⟩:=h
 refine ⟨_,lw PySem.F.plainAttrs_list PySem.F.slot_list_count PySem.F.type_list_count qG p (aX sC bI hst) hbase hfew hline hst (by rfl),fun C G ρ σ H pd q Q r hm k=>s C G ρ σ H pd _ _ r hm fun d ρ' v G' H' hq z kp r' pp=>?_⟩
 cases d with
 | lst ds =>
  obtain ⟨bs,rfl,hq⟩:=hq
  obtain ⟨l,xs,rfl,h1,h2⟩:=a8 pp
  have ex:=gR h2
  subst ex
  refine ⟨.inl ⟨rfl,_,SqL.of (r'.gh _ _ h1)⟩,?_⟩
  refine ⟨l,bs,rfl,rfl,r'.gh _ _ h1,?_⟩
  exact k _ ρ' _ _ _ hq z kp r' (ba _)
 | _=>exact hq.elim
end
section
variable {X:Cx}
variable {ow:List Bool} {e:Expr} {ma:ME} {pos p1 p2 p3:Pos}
end
end L2
namespace L2
open PySem
end L2
namespace L2
open PySem PySem.Spec PyProof.Rows
section
variable {prog:Program} {w:World} {A:Around} {E:Value→Shared→Prop} {s:Shared}
end
section
variable {X:Cx} {M:Md} {e:Expr} {es:List Expr} {mgs:MGs} {pos:Pos}
end
section
variable {X:Cx} {M:Md} {pos:Pos}
end
def Itz (a b:Addr):It :=
 ⟨fun i H=>∃ xs ys x y,H a = some 'p'∧H b = some (.lst ys)∧xs[i]? = some x∧ys[i]? = some y,
  fun i H v H'=>∃ p x y,H p=none∧v = .ref p∧H'=upd H p (.tup [x,y])∧(∀ xs,H a=some 'p'→xs[i]? = some x)∧∀ ys,H b=some (.lst ys)→ys[i]? = some y,
  fun i H=>∃ xs ys,H a=some 'p'∧H b=some (.lst ys)∧(xs.length≤i∨ys.length≤i)⟩
theorem mem5 {c a1 a2 a3 a4 a5:Addr} (h:c∈[a1,a2,a3,a4,a5]):c=a1∨c=a2∨c=a3∨c=a4∨c=a5:=by simpa using h
theorem mem4 {c a1 a2 a3 a4:Addr} (h:c∈[a1,a2,a3,a4]):c=a1∨c=a2∨c=a3∨c=a4:=by simpa using h
theorem jF {c a1 a2 a3 a4:Addr} (h:c ∉ [a1,a2,a3,a4]):c≠a1∧c≠a2∧c≠a3∧c≠a4:=by simpa using h
theorem nd5 {z TI TO i1 i2:Addr} (h : [z,TI,TO,i1,i2].Nodup):(z≠TI∧z≠TO∧z≠i1∧z≠i2)∧(TI≠TO∧TI≠i1∧TI≠i2)∧(TO≠i1∧TO≠i2)∧i1≠i2:=by simpa using h
theorem ie {z TI TO i1 i2:Addr}:z∈[z,TI,TO,i1,i2]∧TI∈[z,TI,TO,i1,i2]∧TO∈[z,TI,TO,i1,i2]∧i1∈[z,TI,TO,i1,i2]∧i2∈[z,TI,TO,i1,i2]:=by simp
structure ZipSt (z TI TO i1 i2 a b:Addr) (i:Nat) (h:Heap):Prop where
 hz:IsZip h z TI TO .none
 ti:IsPair h TI (.ref i1) (.ref i2)
 to:∃ x y,IsPair h TO x y
 t1:h.IsListIter i1 a i
 t2:h.IsListIter i2 b i
theorem qj {P:Program} {w:World} {K:PySem.W.Frag} {es:List Expr} {k:Nat} {pos:Pos} (a b z TI TO i1 i2:Addr) (nd : [z,TI,TO,i1,i2].Nodup) :
 Turn P w K (.Tuple es k pos) (Itz a b) [z,TI,TO,i1,i2] z (ZipSt z TI TO i1 i2 a b) where
 mem:=ie.1
 obj:=fun i h st c hc=>by
  obtain ⟨hz,ti,⟨x,y,to⟩,⟨o1,e1,c1,d1⟩,⟨o2,e2,c2,d2⟩⟩:=st
  rcases mem5 hc with rfl | rfl | rfl | rfl | rfl
  ·exact ⟨_,hz,fun v q=>by cases q⟩
  ·exact ⟨_,ti,fun v q=>by cases q⟩
  ·exact ⟨_,to,fun v q=>by cases q⟩
  ·exact ⟨o1,e1,fun v q=>by rw [d1] at q; cases q⟩
  ·exact ⟨o2,e2,fun v q=>by rw [d2] at q; cases q⟩
 keep:=fun i h h' st kp=>by
  obtain ⟨m1,m2,m3,m4,m5⟩:=ie (z:=z) (TI:=TI) (TO:=TO) (i1:=i1) (i2:=i2)
  obtain ⟨x,y,q⟩:=st.to
  exact ⟨kp z m1 _ st.hz,kp TI m2 _ st.ti,⟨x,y,kp TO m3 _ q⟩,st.t1.at fun o q=>kp i1 m4 o q,st.t2.at fun o q=>kp i2 m5 o q⟩
 item:=by
  intro X hP hw hK hc i pins s σ H E I hf st hg
  subst hP hw hK
  obtain ⟨xs,ys,x,y,hq1,hq2,hx,hy⟩:=hg
  obtain ⟨hz,ti,⟨ox,oy,to⟩,t1,t2⟩:=st
  obtain ⟨its1,rv1,p1,hz1⟩:=I.list (SqL.of hq1)
  obtain ⟨its2,rv2,p2,hz2⟩:=I.list (SqL.of hq2)
  obtain ⟨u,hu,ru⟩:=rv1.get hx
  obtain ⟨v,hv,rv⟩:=rv2.get hy
  obtain ⟨m1,m2,m3,m4,m5⟩:=ie (z:=z) (TI:=TI) (TO:=TO) (i1:=i1) (i2:=i2)
  have fz:=hf z m1; have fO:=hf TO m3; have f1:=hf i1 m4; have f2:=hf i2 m5
  obtain ⟨⟨n1,n2,n3,n4⟩,⟨n5,n6,n7⟩,⟨n8,n9⟩,n10⟩:=nd5 nd
  have la:∀ {c:Addr},H c=none→a≠c:=fun h=>ar hq1 h
  have lb:∀ {c:Addr},H c=none→b≠c:=fun h=>ar hq2 h
  have AP:ZipApart z TI TO i1 i2 a b:=⟨Ne.symm n1,Ne.symm n2,Ne.symm n3,Ne.symm n4,n5,n6,n7,n8,n9,n10,la fz.1,la fO.1,la f1.1,la f2.1,lb fz.1,lb fO.1,lb f1.1,lb f2.1⟩
  refine wpAny_pyNext_zip_item AP hz ti to t1 t2 p1.isList p2.isList (x:=u) (y:=v) (by simpa using hu) (by simpa using hv) fun h' zo to' t1' t2' ht hsz hk=>?_
  refine ⟨.ref s.heap.objs.size,rfl,?_⟩
  refine wpAny_letOwnedTupleGo_zip zo fun h2 he2 hs2=>?_
  have fr:H s.heap.objs.size=none:=I.hok.fresh 'l'
  have ne2:∀ b,b<s.heap.objs.size→b≠s.heap.objs.size:=fun b hb=>Nat.ne_of_lt hb
  have ee:z<s.heap.objs.size:=Heap.lt_size hz
  have k2:∀ c o,c≠z→c≠TO→c≠i1→c≠i2→s.heap.get? c=some o→h2.get? c=some o:=fun c o c1 c2 c3 c4 q=>(hs2.2 c c1).trans (hk c o c1 c2 c3 c4 q)
  have ht2:h2.get? s.heap.objs.size=some { cls:=.type "tuple",data:=.seq #[u,v] }:=(hs2.2 _ (Nat.ne_of_gt ee)).trans ht
  have trk:∀ c o,H c=some o→c≠z∧c≠TO∧c≠i1∧c≠i2:=fun c o q=>⟨ar q fz.1,ar q fO.1,ar q f1.1,ar q f2.1⟩
  have hok0:HOk X.prog X.w H h2:=fun c o q=>(I.hok c o q).stay (fun d v' hc q'=>by
   rcases hc with rfl | hc
   ·obtain ⟨z1,z2,z3,z4⟩:=trk d _ q; exact k2 d v' z1 z2 z3 z4 q'
   ·obtain ⟨z1,z2,z3,z4⟩:=trk d _ hc; exact k2 d v' z1 z2 z3 z4 q') (fun _ z=>z) fun _ _ z=>z
  have I1:Inv X pins σ (upd H s.heap.objs.size (.tup [x,y])) { s with heap:=h2,toks:=s.toks }:=by
   refine I.step (g':=s.gens) (d':=s.drawn) (ch:=[z,TO,i1,i2]) (fun c hc=>?_) (fun c o _ _ hc q _=>by obtain ⟨z1,z2,z3,z4⟩:=jF hc; exact k2 c o z1 z2 z3 z4 q) (fun c o _ _ hc q _=>by obtain ⟨z1,z2,z3,z4⟩:=jF hc; exact ⟨o.slots,k2 c o z1 z2 z3 z4 q⟩)
    (fun c o _ q n=>by rw [ah (ne2 c (Heap.lt_size q))]; exact n) (fun c o hc q=>by obtain ⟨z1,z2,z3,z4⟩:=jF hc; exact ⟨o,k2 c o z1 z2 z3 z4 q⟩) (fun c ys q=>by rw [ah (ar q fr)]; exact q) (fun c o v q=>by rw [ah (ar q fr)]; exact q)
    (fun c ps q=>⟨#[],by rw [ah (ar q fr),q]; simp⟩) (fun m hm=>?_) ?_ I.bare
   ·rcases mem4 hc with rfl | rfl | rfl | rfl
    ·exact ⟨fz.2.2.2.1,fz.2.1,fz.2.2.2.2.1,fz.2.2.2.2.2⟩
    ·exact ⟨fO.2.2.2.1,fO.2.1,fO.2.2.2.2.1,fO.2.2.2.2.2⟩
    ·exact ⟨f1.2.2.2.1,f1.2.1,f1.2.2.2.2.1,f1.2.2.2.2.2⟩
    ·exact ⟨f2.2.2.2.1,f2.2.1,f2.2.2.2.2.1,f2.2.2.2.2.2⟩
   ·obtain ⟨o,es',ep,ho,r⟩:=hm
    exact ⟨o,es',ep,k2 _ o (Ne.symm fz.2.1) (Ne.symm fO.2.1) (Ne.symm f1.2.1) (Ne.symm f2.2.1) ho,r⟩
   ·exact hok0.adopt fr ⟨by show 2≤sizeLine; decide,[u,v],.cons ru (.cons rv .nil),⟨_,ht2,rfl,_,rfl⟩⟩
  have lt:∀ c∈[z,TI,TO,i1,i2],c<s.heap.objs.size:=fun c hc=>by
   rcases mem5 hc with rfl | rfl | rfl | rfl | rfl
   ·exact ee
   ·exact Heap.lt_size ti
   ·exact Heap.lt_size to
   ·obtain ⟨o,q,_⟩:=t1; exact Heap.lt_size q
   ·obtain ⟨o,q,_⟩:=t2; exact Heap.lt_size q
  refine ⟨.ref s.heap.objs.size,_,I1,rfl,⟨_,x,y,fr,rfl,rfl,fun ws hw=>by rw [hq1] at hw; cases hw; exact hx,fun ws hw=>by rw [hq2] at hw; cases hw; exact hy⟩,⟨he2,(hs2.2 _ (Ne.symm n1)).trans (hk TI _ (Ne.symm n1) n5 n6 n7 ti),⟨_,_,(hs2.2 _ (Ne.symm n2)).trans to'⟩,t1'.extBut hs2.extBut (Ne.symm n3),t2'.extBut hs2.extBut (Ne.symm n4)⟩,fun c hc=>?_⟩
  rw [ah (ne2 c (lt c hc))]
  exact (hf c hc).1
 done:=by
  intro X hP hw hK hc i pins s σ H E I hf st hg
  subst hP hw hK
  obtain ⟨xs,ys,hq1,hq2,hend⟩:=hg
  obtain ⟨hz,ti,⟨ox,oy,to⟩,t1,t2⟩:=st
  obtain ⟨its1,rv1,p1,hz1⟩:=I.list (SqL.of hq1)
  obtain ⟨its2,rv2,p2,hz2⟩:=I.list (SqL.of hq2)
  obtain ⟨m1,m2,m3,m4,m5⟩:=ie (z:=z) (TI:=TI) (TO:=TO) (i1:=i1) (i2:=i2)
  have fz:=hf z m1; have fO:=hf TO m3; have f1:=hf i1 m4; have f2:=hf i2 m5
  obtain ⟨⟨n1,n2,n3,n4⟩,⟨n5,n6,n7⟩,⟨n8,n9⟩,n10⟩:=nd5 nd
  have la:∀ {c:Addr},H c=none→a≠c:=fun h=>ar hq1 h
  have lb:∀ {c:Addr},H c=none→b≠c:=fun h=>ar hq2 h
  have AP:ZipApart z TI TO i1 i2 a b:=⟨Ne.symm n1,Ne.symm n2,Ne.symm n3,Ne.symm n4,n5,n6,n7,n8,n9,n10,la fz.1,la fO.1,la f1.1,la f2.1,lb fz.1,lb fO.1,lb f1.1,lb f2.1⟩
  have l1:=rv1.length
  have l2:=rv2.length
  refine wpAny_pyNext_zip_end (I.ok.hd hc) AP hz ti to t1 t2 p1.isList p2.isList (by rcases hend with h | h; exact .inl (by simp; omega); exact .inr (by simp; omega)) fun h' hk=>⟨rfl,?_⟩
  have trk:∀ c o,H c=some o→c≠z∧c≠TO∧c≠i1∧c≠i2:=fun c o q=>⟨ar q fz.1,ar q fO.1,ar q f1.1,ar q f2.1⟩
  refine I.step (g':=s.gens) (d':=s.drawn) (t':=s.toks) (ch:=[z,TO,i1,i2]) (fun c hc=>?_) (fun c o _ _ hc q _=>by obtain ⟨z1,z2,z3,z4⟩:=jF hc; exact hk c o z1 z2 z3 z4 q) (fun c o _ _ hc q _=>by obtain ⟨z1,z2,z3,z4⟩:=jF hc; exact ⟨o.slots,hk c o z1 z2 z3 z4 q⟩)
   (fun _ _ _ _ n=>n) (fun c o hc q=>by obtain ⟨z1,z2,z3,z4⟩:=jF hc; exact ⟨o,hk c o z1 z2 z3 z4 q⟩) (fun _ _ e=>e) (fun _ _ _ e=>e) (fun c ps e=>⟨#[],by rw [e]; simp⟩) (fun m hm=>?_) (fun c o q=>?_) I.bare
  ·rcases mem4 hc with rfl | rfl | rfl | rfl
   ·exact ⟨fz.2.2.2.1,fz.2.1,fz.2.2.2.2.1,fz.2.2.2.2.2⟩
   ·exact ⟨fO.2.2.2.1,fO.2.1,fO.2.2.2.2.1,fO.2.2.2.2.2⟩
   ·exact ⟨f1.2.2.2.1,f1.2.1,f1.2.2.2.2.1,f1.2.2.2.2.2⟩
   ·exact ⟨f2.2.2.2.1,f2.2.1,f2.2.2.2.2.1,f2.2.2.2.2.2⟩
  ·obtain ⟨o,es',ep,ho,r⟩:=hm
   exact ⟨o,es',ep,hk _ o (Ne.symm fz.2.1) (Ne.symm fO.2.1) (Ne.symm f1.2.1) (Ne.symm f2.2.1) ho,r⟩
  ·refine (I.hok c o q).stay (fun d v' hc q'=>?_) (fun _ z=>z) fun _ _ z=>z
   rcases hc with rfl | hc
   ·obtain ⟨z1,z2,z3,z4⟩:=trk d _ q; exact hk d v' z1 z2 z3 z4 q'
   ·obtain ⟨z1,z2,z3,z4⟩:=trk d _ hc; exact hk d v' z1 z2 z3 z4 q'
 self:=fun _ _ _ _ _ st h=>wpAny_pyIter_zip st.hz h
section
variable {X:Cx} {es:List Expr} {k:Nat} {tpos:Pos}
def iZip (ta:TA):TI:=fun σ H R=>ta σ H fun vs H1=>∃ a b,vs=[.ref a,.ref b]∧(∃ xs,H1 a=some 'p')∧(∃ ys,H1 b=some (.lst ys))∧R (Itz a b) H1
theorem wy {l m:Expr} {ta:TA} {p pos:Pos} (hg:Gl X "zip") (hm:X.mg "zip" = none) (ha:PA X [l,m] ta) (hs:starEach [l,m] X.env=[(false,eval l X.env),(false,eval m X.env)]:=by rfl) (hs2:(backTo pos (starEach [m] X.env)).any (·.1)=false:=by rfl) (hs3:starEach [l,m] X.env=(false,eval l X.env) :: starEach [m] X.env:=by rfl):PI X (.Tuple es k tpos) (.Call (.Name "zip" p) [l,m] [] pos) (iZip ta):=by
 refine ⟨fun pins s σ H R I h=>?_⟩
 refine wpAny_Call_Name_kw (eT I hg hm wO ?_)
 refine PyProof.Rows.callWith_type1 (thn (ha pos pins s σ H _ I h) fun us s1 ⟨vs,H1,I1,r1,a,b,e,⟨xs,hx⟩,⟨ys,hy⟩,q⟩=>?_) hs3 hs2
 subst e
 obtain ⟨u,v,rfl,ru,rv⟩:=hX r1
 cases ru; cases rv
 obtain ⟨its1,rv1,p1,_⟩:=I1.list (SqL.of hx)
 obtain ⟨its2,rv2,p2,_⟩:=I1.list (SqL.of hy)
 refine call_zip_2 p1.isList p2.isList fun h' hz ti to t1 t2 hsz hk=>?_
 have I2:Inv X pins σ H1 { s1 with heap:=h' }:=I1.kept (t':=s1.toks) hk
 have nd : [s1.heap.objs.size + 4,s1.heap.objs.size + 2,s1.heap.objs.size + 3,s1.heap.objs.size,s1.heap.objs.size + 1].Nodup:=by
  simp only [List.nodup_cons,List.mem_cons,List.not_mem_nil,or_false,not_or,not_false_eq_true,List.nodup_nil,and_true]
  refine ⟨⟨?_,?_,?_,?_⟩,⟨?_,?_,?_⟩,⟨?_,?_⟩,?_⟩ <;> omega
 refine wpAny_pyIter_zip hz ⟨s1.heap.objs.size + 4,_,_,Itz a b,H1,rfl,I2,qj a b _ _ _ _ _ nd,⟨hz,ti,⟨_,_,to⟩,t1,t2⟩,fun c hc=>?_,q⟩
 have hc':s1.heap.objs.size≤c:=by
  rcases mem5 hc with rfl | rfl | rfl | rfl | rfl
  ·exact Nat.le_add_right _ 4
  ·exact Nat.le_add_right _ 2
  ·exact Nat.le_add_right _ 3
  ·exact Nat.le_refl _
  ·exact Nat.le_add_right _ 1
 exact I1.fpOk (H':=H1) hc' (I1.hok.fresh hc')
variable {ow:List Bool} {a b:Expr} {mr:MA} {pos:Pos}
def nA (ds es:List D):List D:=List.zipWith (fun a b=>.tup [a,b]) ds es
theorem ou {ds es:List D} {i:Nat} {d:D} (h:(nA ds es)[i]? = some d):∃ x y,ds[i]? = some x∧es[i]? = some y∧d = .tup [x,y]:=by
 unfold nA at h
 rw [List.getElem?_zipWith] at h
 cases e1:ds[i]? with
 | none=>rw [e1] at h; cases h
 | some x =>
  cases e2:es[i]? with
  | none=>rw [e1,e2] at h; cases h
  | some y=>rw [e1,e2] at h; exact ⟨x,y,rfl,rfl,(Option.some.inj h).symm⟩
theorem wu {G:Hp} {p q:Addr} {xs ys:List V} {ds es:List D} (h1:G p=some 'p') (h2:Reps G ds xs) (h3:G q=some (.lst ys)) (h4:Reps G es ys):j8 (Itz p q) G (nA ds es):=fun C ow G' ρ σ H pd i z r=>by
 have hp:=r.gh _ _ (z _ _ h1)
 have hq:=r.gh _ _ (z _ _ h3)
 refine ⟨fun hl=>⟨xs,ys,hp,hq,?_⟩,fun d e=>?_⟩
 ·rw [h2.length,h4.length]
  unfold nA at hl
  rw [List.length_zipWith] at hl
  omega
 ·obtain ⟨x,y,e1,e2,rfl⟩:=ou e
  obtain ⟨v,g1,g2⟩:=c0 h2 e1
  obtain ⟨u,g3,g4⟩:=c0 h4 e2
  refine ⟨⟨xs,ys,v,u,hp,hq,g1,g3⟩,fun w H' hy=>?_⟩
  obtain ⟨t,x',y',ht,rfl,rfl,hy1,hy2⟩:=hy
  have z1:=hy1 xs hp
  rw [g1] at z1; cases z1
  have z2:=hy2 ys hq
  rw [g3] at z2; cases z2
  obtain ⟨O,r⟩:=r
  obtain ⟨r2,s2⟩:=r.new ht (.tup [v,u])
  exact ⟨_,s2,⟨O,r2⟩,gl ao (bf (Rep.mono (z.trans s2) _ _ g2) (bf (Rep.mono (z.trans s2) _ _ g4) bp))⟩
def miZip (m:MA):MA:=fun ρ q=>m ρ fun ds ρ'=>match ds with
 | [.lst ds,.lst es]=>q (nA ds es) ρ'
 | _=>False
theorem qA {p:Pos} (hg:Gl X "zip") (hm:X.mg "zip" = none) (ha:QA X ow [a,b] mr) (hs:starEach [a,b] X.env=[(false,eval a X.env),(false,eval b X.env)]:=by rfl) (hs2:(backTo pos (starEach [b] X.env)).any (·.1)=false:=by rfl) (hs3:starEach [a,b] X.env=(false,eval a X.env) :: starEach [b] X.env:=by rfl):QI X ow (.Tuple es k tpos) (.Call (.Name "zip" p) [a,b] [] pos) (miZip mr):=by
 obtain ⟨t,p,s⟩:=ha
 refine ⟨_,wy hg hm p hs hs2 hs3,fun C G ρ σ H pd q Q r hm k=>s C G ρ σ H pd _ _ r hm fun ds ρ' vs G' H' hq z kp r' p hn=>?_⟩
 split at hq
 ·obtain ⟨v,u,rfl,p1,p2⟩:=dh p
  obtain ⟨a1,xs,rfl,h1,h2⟩:=a8 p1
  obtain ⟨a2,ys,rfl,h3,h4⟩:=a8 p2
  exact ⟨a1,a2,rfl,⟨xs,r'.gh _ _ h1⟩,⟨ys,r'.gh _ _ h3⟩,k _ ρ' G' H' _ hq z kp r' (wu h1 h2 h3 h4)⟩
 ·exact hq.elim
end
end L2
namespace L2
open PySem
def uZ:SpD:=fun ds q=>∃ c m most,ds=[aL [c,m],.int most]∧0≤c∧0<most∧most≤23∧∀ ps rs c' m',Tree ps rs→(ps.length:Int)≤most→0≤c'→q (aQ ps rs) [some (aL [c',m'])]
def xT:SpD:=fun ds q=>∃ c m ps rs n sizes worths,ds=[aL [c,m],.int n,aL sizes,aL worths]∧0≤c∧Tree ps rs∧n=ps.length∧1≤sizes.length∧sizes.length≤100∧(∀ s∈sizes,1≤s∧s≤1000000)∧1≤worths.length∧worths.length≤100∧(∀ s∈worths,1≤s∧s≤1000000000000) ∧
 ∀ a c' m',AskOk ps a→0≤c'→q (dH a) [some (aL [c',m'])]
end L2
namespace L2
open PySem PySem.Spec PyProof.Rows
def kM (h:Heap) (e:Addr) (cls:Value) (dx:Option Addr) (tb:Value):Prop :=
 ∃ (vs:Array Value) (sl:Array (Option Value)),h.get? e=some { cls:=cls,dict:=dx,data:=.fields vs,slots:=sl }∧vs[1]? = some tb
def sj (h:Heap) (t:Addr) (v:Value):Prop:=∃ o ts,h.get? t=some o∧o.data = .fields ts∧ts[3]? = some v
def tbV:Option Addr→Value
 | none=>.none
 | some t=>.ref t
structure FlyO (h:Heap) (e:Addr) (cls:Value) (dx:Option Addr) (T:Option Addr):Prop where
 ex:kM h e cls dx (tbV T)
 tb:∀ t,T=some t→t≠e∧sj h t .none
theorem kM.notFrame {h base:Heap} {l:List Env} {e:Addr} {cls:Value} {dx:Option Addr} {tb:Value} (x:kM h e cls dx tb) (hl:h.FunFrames base l):e ∉ frs l:=fun hm=>by
 obtain ⟨vs,sl,he,_⟩:=x
 obtain ⟨_,o,ho,hnf⟩:=hl.mem hm
 rw [he] at ho; cases ho; exact hnf vs rfl
theorem sj.notFrame {h base:Heap} {l:List Env} {t:Addr} {v:Value} (x:sj h t v) (hl:h.FunFrames base l):t ∉ frs l:=fun hm=>by
 obtain ⟨o',ts,he,hd,_⟩:=x
 obtain ⟨_,o,ho,hnf⟩:=hl.mem hm
 rw [he] at ho; cases ho; exact hnf ts hd
section
variable {M:Model} {A:Around} {E:Value→Shared→Prop} {s:Shared}
def iy (l:List Env) (e:Addr) (T:Option Addr) (h h':Heap):Prop:=∀ b o,b≠e→T≠some b→h.get? b=some o→(b ∉ frs l→h'.get? b=some o)∧∃ sl,h'.get? b=some { o with slots:=sl }
theorem jN {base:Heap} {env:Env} {outer:List Env} {L e:Addr} {cls:Value} {dx:Option Addr} {tb head:Value} {hadNext:Bool} {Q:Unit→Shared→Prop}
 (hfr:A.frames=some (env :: outer)) (hl:s.heap.FunFrames base (env :: outer)) (hf:env.frame=some L) (F:kM s.heap e cls dx tb)
 (h:∀ h',s.heap.objs.size≤h'.objs.size→∀ t',s.heap.objs.size≤t'→FlyO h' e cls dx (some t')→iy (env :: outer) e none s.heap h'→Q () { s with heap:=h' }) :
 wpAny M A (do let a ← frameOf env; let pl ← entryPlaceOf L hadNext; let b ← EntryCells.newEntry head a .none (rawInt L) .none pl; setField (.ref e) 1 b) (fun _ s'=>wpAny M A (setFlight (.ref e) none) Q E s') E s:=by
 have hene:=F.notFrame hl
 obtain ⟨vs,sl,he,h1⟩:=F
 have hsz : 1<vs.size:=(Array.getElem?_eq_some_iff.mp h1).1
 refine wpAny_bind (wpAny_frameOf_fun hfr hl hf fun g1 hs1=>?_)
 refine wpAny_bind (wpAny_entryPlaceOf fun pl hpl=>?_)
 unfold EntryCells.newEntry newFields
 refine wpAny_bind (wpAny_newObj_type ?_ (hpl.sizeOk5 _ _ _ _ _))
 have he1:g1.get? e=some { cls:=cls,dict:=dx,data:=.fields vs,slots:=sl }:=(hs1.2.1 e hene).trans he
 generalize hO:({ cls:=.type "traceback",dict:=none,data:=.fields ([head,.ref L,.none,rawInt L,.none]++(if pl.isEmpty then List.replicate 6 Value.none else pl)).toArray }:Obj)=O
 have hOd:∃ ts:Array Value,O.data = .fields ts∧3<ts.size:=by
  rw [← hO]; exact ⟨_,rfl,by simp only [List.size_toArray,List.length_append,List.length_cons,List.length_nil]; omega⟩
 have hOf:O.isFreed=false:=by rw [← hO]; rfl
 obtain ⟨ts,hts,h3⟩:=hOd
 have he2:=Heap.get?_push_of_some (h:=g1) O he1
 refine wpAny_setField he2 rfl hsz ?_
 have hTe:g1.objs.size≠e:=Nat.ne_of_gt (Heap.lt_size he1)
 have he3:=Heap.get?_update_self (Obj.mapFields (·.setIfInBounds 1 (Value.ref g1.objs.size))) he2 (Obj.isFreed_of_fields (Obj.data_mapFields rfl _))
 have hT3:((g1.push O).update e (Obj.mapFields (·.setIfInBounds 1 (Value.ref g1.objs.size)))).get? g1.objs.size=some O:=(Heap.get?_update_other _ _ (Ne.symm hTe)).trans (Heap.get?_push_size g1 hOf)
 unfold setFlight
 refine wpAny_bind (wpAny_field he3 (Obj.data_mapFields rfl _) (x:=.ref g1.objs.size) (by simp [hsz]) ?_)
 rw [if_pos (show (Value.ref g1.objs.size != Value.none)=true from by simp)]
 refine wpAny_setField hT3 hts h3 ?_
 have hsz1:g1.objs.size=s.heap.objs.size:=hs1.1
 refine h _ ?_ g1.objs.size (Nat.le_of_eq hsz1.symm) ⟨⟨_,sl,?_,by show (vs.setIfInBounds 1 (Value.ref g1.objs.size))[1]? = _; simp [hsz]; rfl⟩,fun t ht=>?_⟩ fun b o hbe _ hb=>?_
 ·rw [Heap.size_after_update,Heap.size_after_update,Heap.size_push]; exact Nat.le_succ_of_le (Nat.le_of_eq hsz1.symm)
 ·rw [Heap.get?_update_other _ _ hTe]; exact he3
 ·cases ht
  refine ⟨hTe,_,_,Heap.get?_update_self _ hT3 (Obj.isFreed_of_fields (Obj.data_mapFields hts _)),Obj.data_mapFields hts _,?_⟩
  show (ts.setIfInBounds 3 ((none:Option Addr).elim Value.none fun f=>rawInt f))[3]? = _
  simp [h3]
 ·have keep:∀ o',g1.get? b=some o'→(((g1.push O).update e (Obj.mapFields (·.setIfInBounds 1 (Value.ref g1.objs.size)))).update g1.objs.size (Obj.mapFields (·.setIfInBounds 3 ((none:Option Addr).elim Value.none fun f=>rawInt f)))).get? b=some o':=fun o' ho'=>by
   have hbT:g1.objs.size≠b:=Nat.ne_of_gt (Heap.lt_size ho')
   rw [Heap.get?_update_other _ _ hbT,Heap.get?_update_other _ _ (Ne.symm hbe)]
   exact Heap.get?_push_of_some _ ho'
  obtain ⟨sl',hb'⟩:=hs1.2.2 b o hb
  exact ⟨fun hn=>keep o ((hs1.2.1 b hn).trans hb),sl',keep _ hb'⟩
theorem kO {base:Heap} {env:Env} {outer:List Env} {L e:Addr} {cls:Value} {dx:Option Addr} {T:Option Addr} {Q:Unit→Shared→Prop}
 (hfr:A.frames=some (env :: outer)) (hl:s.heap.FunFrames base (env :: outer)) (hf:env.frame=some L) (F:FlyO s.heap e cls dx T)
 (h:∀ h',s.heap.objs.size≤h'.objs.size→∀ t',s.heap.objs.size≤t'→FlyO h' e cls dx (some t')→iy (env :: outer) e T s.heap h'→(∀ t,T=some t→∃ o,h'.get? t=some o)→Q () { s with heap:=h' }) :
 wpAny M A (noteFrame (.ref e) env) (fun _ s'=>wpAny M A (setFlight (.ref e) none) Q E s') E s:=by
 obtain ⟨X,tb⟩:=F
 obtain ⟨vs,sl,he,h1⟩:=id X
 unfold noteFrame
 simp only [hf]
 refine wpAny_bind (wpAny_field he rfl h1 ?_)
 cases T with
 | none =>
  rw [if_neg 'k']
  exact jN hfr hl hf X fun h' hs t' ht' fl kb=>h h' hs t' ht' fl kb fun t z=>by cases z
 | some T =>
  obtain ⟨hTe,oT,ts,hT,hdT,h3⟩:=tb T rfl
  show wpAny M A (if (Value.ref T != Value.none)=true then _ else _) _ _ _
  rw [if_pos (show (Value.ref T != Value.none)=true from by simp)]
  refine wpAny_bind (wpAny_field hT hdT h3 ?_)
  rw [if_neg (show ¬ ((Value.none == rawInt L)=true) from by simp [rawInt])]
  refine wpAny_bind (wpAny_setField hT hdT (Array.getElem?_eq_some_iff.mp h3).1 ?_)
  have other:∀ b,b≠T→(s.heap.update T (Obj.mapFields (·.setIfInBounds 3 Value.none))).get? b=s.heap.get? b:=fun b hb=>Heap.get?_update_other _ _ (Ne.symm hb)
  have hTn:=sj.notFrame ⟨oT,ts,hT,hdT,h3⟩ hl
  have hl2:(s.heap.update T (Obj.mapFields (·.setIfInBounds 3 Value.none))).FunFrames base (env :: outer):=hl.of_keeps fun b o hb hnf=>⟨o,(other b fun q=>by subst q; rw [hT] at hb; cases hb; exact hnf ts hdT).trans hb,rfl⟩
  have hT2:=Heap.get?_update_self (Obj.mapFields (·.setIfInBounds 3 Value.none)) hT (Obj.isFreed_of_fields (Obj.data_mapFields hdT _))
  refine jN (s:={ s with heap:=s.heap.update T (Obj.mapFields (·.setIfInBounds 3 Value.none)) }) hfr hl2 hf ⟨vs,sl,(other e (Ne.symm hTe)).trans he,h1⟩ fun h' hs t' ht' fl kb=>?_
  have hs':s.heap.objs.size≤h'.objs.size:=by rw [Heap.size_after_update] at hs; exact hs
  have ht2:s.heap.objs.size≤t':=by rw [Heap.size_after_update] at ht'; exact ht'
  refine h h' hs' t' ht2 fl (fun b o hbe hbT hb=>kb b o hbe (by simp) ((other b fun q=>hbT (by rw [q])).trans hb)) fun t z=>?_
  cases z
  obtain ⟨_,sl2,q⟩:=kb T _ hTe (by simp) hT2
  exact ⟨_,q⟩
theorem p5 {base:Heap} {env:Env} {outer:List Env} {L e:Addr} {cls:Value} {dx:Option Addr} {T:Option Addr} {Q:Unit→Shared→Prop}
 (hfr:A.frames=some (env :: outer)) (hl:s.heap.FunFrames base (env :: outer)) (hf:env.frame=some L) (F:FlyO s.heap e cls dx T)
 (h:∀ h',s.heap.objs.size≤h'.objs.size→∀ t',s.heap.objs.size≤t'→FlyO h' e cls dx (some t')→iy (env :: outer) e T s.heap h'→(∀ t,T=some t→∃ o,h'.get? t=some o)→Q () { s with heap:=h' }):wpAny M A (leaving env (.ref e)) Q E s:=by
 unfold leaving
 exact wpAny_bind (kO hfr hl hf F h)
end
abbrev XS:=St→XK
structure Out (X:Cx) (pins:List 'h') (H:Hp) (a:Addr):Prop where
 new:X.s₀.heap.get? a=none
 unt:H a=none
 pin:∀ p∈X.pn++pins,p.1≠a
structure Fly (X:Cx) (pins:List 'h') (H:Hp) (s:Shared) (e:Addr) (cls:Value) (dx:Option Addr):Prop where
 go:∃ T,FlyO s.heap e cls dx T∧Out X pins H e∧∀ t,T=some t→Out X pins H t
structure Acc (X:Cx) (xk:XS):Prop where
 go:∀ (pins:List 'h') (σ:St) (H:Hp) (s:Shared) (e:Addr) (cls:Value) (dx:Option Addr),Inv X pins σ H s→Fly X pins H s e cls dx→xk σ cls dx H→X.xe (.ref e) s
def CX1 (P:Program) (w:World):CXT:=fun outer H s E e s'=>∃ ea H' cls dx T,e = .ref ea∧s'.os=s.os∧AllBare s'.gens∧Un (frs outer) [] H H' s.heap s'.heap∧HOk P w H' s'.heap∧FlyO s'.heap ea cls dx T ∧
 (s.heap.get? ea=none∧H' ea=none)∧(∀ t,T=some t→s.heap.get? t=none∧H' t=none)∧E cls dx H'
section
variable {X:Cx} {pins:List (Addr×Obj)} {σ:St} {H H':Hp} {s s':Shared} {e:Addr} {cls:Value} {dx:Option Addr} {T:Option Addr}
theorem aP.here {P:Program} {w:World} {H:Hp} {h:Heap} {a:Addr} {o:HO} (x:aP P w H h a o):∃ u,h.get? a=some u:=by
 cases o with
 | lst xs=>obtain ⟨_,_,_,_,e⟩:=x; exact ⟨_,e⟩
 | tup xs=>obtain ⟨_,_,_,_,e,_⟩:=x; exact ⟨_,e⟩
 | dK kvs=>obtain ⟨_,_,_,_,o,_,_,e,_⟩:=x; exact ⟨_,e⟩
 | dT kvs=>obtain ⟨_,_,_,_,o,_,_,e,_⟩:=x; exact ⟨_,e⟩
 | set S n=>obtain ⟨o,_,_,_,e,_⟩:=x; exact ⟨_,e⟩
 | ins C dx fs=>obtain ⟨_,_,_,e,_⟩:=x; exact ⟨_,e⟩
 | own y=>exact x
 | xd fs=>obtain ⟨_,⟨_,_,_,e,_⟩,_⟩:=x; exact ⟨_,e⟩
 | rng lo hi=>obtain ⟨_,_,_,e⟩:=x; exact ⟨_,e⟩
 | frz ob u=>obtain ⟨e,_⟩:=x; exact ⟨_,e⟩
 | tbl ps=>exact ⟨_,(show h.get? a=some _ from x)⟩
 | met f y=>exact ⟨_,(show h.get? a=some _ from x)⟩
 | ext φ=>obtain ⟨_,e,_⟩:=x; exact e
theorem HOk.no {P:Program} {w:World} {H:Hp} {h:Heap} {a:Addr} (x:HOk P w H h) (e:h.get? a=none):H a=none:=by
 cases q:H a with
 | none=>rfl
 | some o=>obtain ⟨u,z⟩:=(x a o q).here; rw [e] at z; cases z
theorem Inv.pinNo (I:Inv X pins σ H s) {a:Addr} (h:s.heap.get? a=none):∀ p∈X.pn++pins,p.1≠a:=fun p hp z=>by
 have:=(I.pin p hp).1
 rw [z,h] at this; cases this
theorem Inv.old (I:Inv X pins σ H s) (hex:X.ex=[]) {a:Addr} (h:s.heap.get? a=none):X.s₀.heap.get? a=none:=by
 cases q:X.s₀.heap.get? a with
 | none=>rfl
 | some o=>obtain ⟨u,z⟩:=I.base.there a o q (by rw [hex]; simp); rw [h] at z; cases z
theorem Inv.callN {h':Heap} {g':Array GenState} {t':Nat} {d':Drawn} {ch:List Addr} (I:Inv X pins σ H s) (u:Un (frs X.stack) ch H H' s.heap h') (hok:HOk X.prog X.w H' h') (hg:AllBare g')
 (hch:∀ b∈ch,X.s₀.heap.get? b=none∧b≠X.env.locals∧(∀ x c,X.env.cells.lookup x=some c→c≠b)∧(∀ p∈X.pn++pins,p.1≠b)∧b ∉ X.fs) :
 Inv X pins σ H' { s with heap:=h',gens:=g',drawn:=d',toks:=t' }:=by
 have nin:∀ b o,X.s₀.heap.get? b=some o→b ∉ ch:=fun b o q hb=>by rw [(hch b hb).1] at q; cases q
 have sp:∀ {b:Addr},b∈ch++X.ex→b∈ch∨b∈X.ex:=fun z=>List.mem_append.mp z
 have ok1:Cx.Ok { X with ex:=ch++X.ex }:={ I.ok with
  exf:=fun b hb=>(sp hb).elim (fun z=>⟨(hch b z).2.1,(hch b z).2.2.1⟩) (I.ok.exf b)
  noex:=fun b o q hb=>(sp hb).elim (nin b o (I.ok.bs b o q).1) (I.ok.noex b o q)
  exfs:=fun b hb=>(sp hb).elim (fun z=>(hch b z).2.2.2.2) (I.ok.exfs b) }
 have I1:Inv { X with ex:=ch++X.ex } pins σ H s:=⟨ok1,I.os,I.bare,I.base.mono (fun _ z=>z) (fun _ z=>List.mem_append_right _ z),I.loc,I.cell,I.free,I.freeC,I.pin,I.hok,I.len⟩
 have J:=I1.call (g':=g') (t':=t') (d':=d') u hok hg fun b hb=>⟨.inl (List.mem_append_left _ hb),(hch b hb).2.1,(hch b hb).2.2.1,(hch b hb).2.2.2.1⟩
 have nn:∀ b o,X.s₀.heap.get? b=some o→b ∉ X.ex→b ∉ ch++X.ex:=fun b o q hx hb=>(sp hb).elim (nin b o q) hx
 exact ⟨I.ok,J.os,J.bare,⟨fun b o q n hb hx=>J.base.keep b o q n hb (nn b o q hx),fun b o q n hb hx=>J.base.slot b o q n hb (nn b o q hx),fun b o q n hx=>J.base.free b o q n (nn b o q hx),fun b o q hx=>J.base.there b o q (nn b o q hx),
  J.base.tups,J.base.frzs,J.base.tbls⟩,J.loc,J.cell,J.free,J.freeC,J.pin,J.hok,J.len⟩
theorem Inv.fieldsNot (I:Inv X pins σ H s) {a:Addr} {o:Obj} {vs:Array Value} (h:s.heap.get? a=some o) (hd:o.data = .fields vs):a≠X.env.locals∧∀ x c,X.env.cells.lookup x=some c→c≠a:=by
 constructor
 ·intro z
  obtain ⟨m,⟨o',es,ep,ho,r⟩,_⟩:=I.loc
  rw [z] at h; rw [h] at ho; cases ho
  obtain ⟨r1,r2,_⟩:=r
  rw [hd] at r1; cases r1
 ·intro x c hc z
  obtain ⟨v,q⟩:=I.cell x c hc
  subst z
  obtain ⟨o',ho,hd'⟩:=q
  rw [h] at ho; cases ho
  rw [hd] at hd'; cases hd'
theorem Inv.noted {h':Heap} {t':Addr} (I:Inv X pins σ H s) (hst:X.stack=X.env :: X.outer) (fl:FlyO s.heap e cls dx T) (oe:Out X pins H e) (ot:∀ t,T=some t→Out X pins H t) (hs:s.heap.objs.size≤h'.objs.size)
 (ht:s.heap.objs.size≤t') (fl':FlyO h' e cls dx (some t')) (kb:iy (X.env :: X.outer) e T s.heap h') (there:∀ t,T=some t→∃ o,h'.get? t=some o) :
 Inv X pins σ H { s with heap:=h' }∧Fly X pins H { s with heap:=h' } e cls dx:=by
 have hst':X.env :: X.outer=X.stack:=hst.symm
 rw [hst'] at kb
 have hch:∀ b∈e :: T.toList,X.s₀.heap.get? b=none∧b≠X.env.locals∧(∀ x c,X.env.cells.lookup x=some c→c≠b)∧(∀ p∈X.pn++pins,p.1≠b)∧b ∉ X.fs:=fun b hb=>by
  have out:∀ z,z∈X.fs→z∈frs (X.env :: X.outer):=fun z hz=>by unfold frs; rw [List.filterMap_cons]; split; exact hz; exact List.mem_cons_of_mem _ hz
  have stk:s.heap.FunFrames X.base (X.env :: X.outer):=by rw [hst']; exact I.stack
  rcases List.mem_cons.mp hb with rfl | hb
  ·obtain ⟨vs,sl,q,_⟩:=fl.ex
   exact ⟨oe.new,(I.fieldsNot q rfl).1,(I.fieldsNot q rfl).2,oe.pin,fun z=>fl.ex.notFrame stk (out _ z)⟩
  ·have:T=some b:=by cases T with | none=>cases hb | some t=>simp at hb; rw [hb]
   obtain ⟨_,o,ts,q,hd,h3⟩:=fl.tb b this
   exact ⟨(ot b this).new,(I.fieldsNot q hd).1,(I.fieldsNot q hd).2,(ot b this).pin,fun z=>sj.notFrame ⟨o,ts,q,hd,h3⟩ stk (out _ z)⟩
 have nb:∀ b,b ∉ e :: T.toList→b≠e∧T≠some b:=fun b hb=>⟨fun z=>hb (by simp [z]),fun z=>hb (by simp [z])⟩
 have un:Un (frs X.stack) (e :: T.toList) H H s.heap h':={
  keep:=fun b o q _ hn hx=>((kb b o (nb b hx).1 (nb b hx).2 q).1 hn)
  slot:=fun b o q _ _ hx=>(kb b o (nb b hx).1 (nb b hx).2 q).2
  free:=fun _ _ _ n _=>n
  there:=fun b o q hx=>let ⟨sl,z⟩:=(kb b o (nb b hx).1 (nb b hx).2 q).2; ⟨_,z⟩
  tups:=fun _ _ z=>z
  frzs:=fun _ _ _ z=>z
  tbls:=fun b ps z=>⟨#[],by rw [z]; simp⟩ }
 have hok:HOk X.prog X.w H h':=fun a o q=>(I.hok a o q).stay (fun c v hc z=>by
  have hH:∃ u,H c=some u:=by rcases hc with hc | hc; exact ⟨_,hc ▸ q⟩; exact ⟨_,hc⟩
  obtain ⟨u,hu⟩:=hH
  have c1:c≠e:=fun y=>by rw [y,oe.unt] at hu; cases hu
  have c2:T≠some c:=fun y=>by rw [(ot c y).unt] at hu; cases hu
  exact (kb c v c1 c2 z).1 fun y=>by rw [I.stkFree c y] at hu; cases hu) (fun _ z=>z) fun _ _ z=>z
 refine ⟨I.callN (h':=h') (g':=s.gens) (d':=s.drawn) (t':=s.toks) un hok I.bare hch,⟨some t',fl',oe,fun t z=>?_⟩⟩
 cases z
 exact ⟨Heap.get?_none_of_le (Nat.le_trans I.sz ht),I.hok.fresh ht,I.pinNo (Heap.get?_none_of_le ht)⟩
end
theorem xR {P:Program} {w:World} {K:PySem.W.Frag} {mg:Str→Option Value} {base:Heap} {N:List Str} {qual:Str} {scope:Scope} {f:Addr} {cd:Value} {A:Around} {outer:List Env} {s:Shared} {H:Hp} {E:XK} :
 Acc (iJ (CX1 P w) P w K mg base N qual scope f cd A outer s H E) (fun _=>E):=by
 refine ⟨fun pins σ H' s' e cls dx I fl h=>?_⟩
 obtain ⟨T,flo,oe,ot⟩:=fl.go
 show wpAny _ _ (leaving _ (.ref e)) _ _ s'
 refine p5 (base:=base) (outer:=outer) (L:=s.heap.objs.size) (T:=T) I.ok.frames I.stack rfl flo fun h' hs t' ht fl' kb there=>?_
 obtain ⟨I2,fl2⟩:=I.noted rfl flo oe ot hs ht fl' kb there
 refine ⟨e,H',cls,dx,some t',rfl,I.os,I.bare,?_,I2.hok,fl',⟨oe.new,oe.unt⟩,fun t z=>?_,h⟩
 ·exact I2.base
 ·cases z; exact ⟨Heap.get?_none_of_le (Nat.le_trans I.sz ht),I.hok.fresh ht⟩
section
variable {X:Cx} {x:Str} {p pos:Pos} {e:Expr} {es:List Expr} {t:TA} {k:Nat} {f:Addr} {fd:FuncData} {ps:List Str} {sp:Sp} {xk:XS}
theorem Inv.raised {pins:List 'h'} {σ:St} {H:Hp} {s s':Shared} {ev:Value} (hex:X.ex=[]) (I:Inv X pins σ H s) (ac:Acc X xk) (h:CX1 X.prog X.w X.stack H s (xk σ) ev s'):X.xe ev s':=by
 obtain ⟨ea,H',cls,dx,T,rfl,os,bare,un,hok,fl,oe,ot,q⟩:=h
 have I2:=I.call' os un hok bare (ch:=[]) fun b z=>absurd z (by simp)
 exact ac.go pins σ H' s' ea cls dx I2 ⟨T,fl,⟨I.old hex oe.1,oe.2,I.pinNo oe.1⟩,fun t z=>⟨I.old hex (ot t z).1,(ot t z).2,I.pinNo (ot t z).1⟩⟩ q
theorem t6 {pins:List 'h'} {σ:St} {H:Hp} {s:Shared} {Q:VK} {us:List Value} {vs:List V} (F:FnOk X.prog X.w X.K X.mg X.base (CX1 X.prog X.w) k f fd ps sp) (hr:Room k X.A) (hb:cD X.K fd ps [])
 (hex:X.ex=[]) (ac:Acc X xk) (I:Inv X pins σ H s) (r:aM vs us) (h:sp vs H Q (xk σ)):wpAny 'b' X.A (call (.ref f) us) (EP X pins σ Q) X.xe s:=by
 have hl:us.length=ps.length:=by rw [← F.len _ _ _ _ h]; exact r.length.symm
 have hb':=hb s us I.kIn (by simpa using hl)
 rw [List.append_nil] at hb'
 refine wpAny_call (codeAny_mono (F.run X.A X.stack s H ⟨us,[]⟩ us vs Q (xk σ) hr I.env0 hb' r h) fun r s' hq=>?_)
 cases r with
 | error e=>exact I.raised hex ac hq
 | ok fl =>
  cases fl with
  | ret u=>exact I.after hq
  | next=>exact False.elim hq
  | brk=>exact False.elim hq
  | cont=>exact False.elim hq
def mH (xk:XS) (sp:Sp) (t:TA):TE:=fun σ H Q=>t σ H fun vs H1=>sp vs H1 Q (xk σ)
theorem k8 (hex:X.ex=[]) (ac:Acc X xk) (F:FnOk X.prog X.w X.K X.mg X.base (CX1 X.prog X.w) k f fd ps sp) (hr:Room k X.A) (hg:Gl X x) (hm:X.mg x=some (.ref f)) (hk:PySem.W.keepIn X.K (.ref f)=true) (hb:cD X.K fd ps [])
 (ha:PA X (e :: es) t) (hdb:'d'=false:=by decide) (he:starEach (e :: es) X.env='n' :: starEach es X.env:=by rfl) (hpl:'m'.any (·.1)=false:=by rfl) :
 PE X (.Call (.Name x p) (e :: es) [] pos) (mH xk sp t):=by
 (try refine ⟨?_⟩); intro pins s σ H Q I h
 refine wpAny_Call_Name_kw (fb I hg hm ?_ hdb)
 refine PySem.W.callWith_K (h₀:=X.base) I.ok.mod.kin hk (thn (ha pos pins s σ H _ I h) fun us s1 ⟨vs,H1,I1,r,q⟩=>⟨I1.kIn,?_⟩) he hpl
 exact t6 F hr hb hex ac I1 r q
end
abbrev bmV:List Value:=[.type "ValueError",.type "Exception",.type "BaseException",.type "object"]
def cf (K:PySem.W.Frag) (C:Addr) (bm:List Value) (ini:Option Value):Bool:=match K.lookup C with
 | some ⟨.type "type",_,.cls cd,sl⟩=>(match cd.mro,sl.toList with
  | .ref C' :: bm',[_,_,_,_,some (.builtin n),_]=>C' == C&&n == "ValueError.__new__" && !cd.hasDel&&bm' == bm&&PySem.W.tailIn K bmV bm&&PySem.W.nsOkIn K cd.ns&&PySem.W.nsIn K cd.ns "__init__" == some ini
  | _,_=>false)
 | _=>false
def mX (h:Heap) (C:Addr) (bm:List Value) (ini:Option Value):Prop:=∃ N nm q bs hdct sn sub ab col dd k0 k1 k2 k3 k5 mN,h.get? C=some (excClassObj nm q C N bs bm hdct sn sub ab col dd k0 k1 k2 k3 k5 "ValueError.__new__")∧h.Ns N mN∧mN "__init__" = ini∧OwnTail h bmV bm
theorem gA {K:PySem.W.Frag} {h:Heap} {N:Addr} {mg:Str→Option Value} {n:Str} {v:Value} (X:K.In h) (G:h.Ns N mg) (e:PySem.W.nsIn K N n=some (some v)):mg n=some v:=by
 obtain ⟨o,es,ep,ho,hd,_,hf⟩:=G
 unfold PySem.W.nsIn at e
 split at e
 ·rename_i c d es' n' sl q
  have:=X _ _ q
  rw [ho] at this
  cases this
  cases hd
  split at e
  ·rename_i w he
   cases e
   rw [← hf]
   unfold nsFind findBy
   rw [← Array.find?_toList,he]
   rfl
  ·split at e <;> cases e
 ·cases e
theorem d6 {K:PySem.W.Frag} {h:Heap} {C:Addr} {bm:List Value} {ini:Option Value} (X:K.In h) (q:cf K C bm ini=true):mX h C bm ini:=by
 unfold cf at q
 split at q
 ·rename_i dd cd sl ho
  split at q
  ·rename_i C' bm' k0 k1 k2 k3 n k5 hm hs
   simp only [Bool.and_eq_true,beq_iff_eq,Bool.not_eq_true'] at q
   obtain ⟨⟨⟨⟨⟨⟨rfl,rfl⟩,hdel⟩,rfl⟩,ht⟩,hok⟩,hni⟩:=q
   obtain ⟨nm,bs,mro,ns,qn,hd,sn,sub,ab,col,del⟩:=cd
   dsimp only at hm hdel hok hni
   subst hm hdel
   have hsl:sl = #[k0,k1,k2,k3,some (.builtin "ValueError.__new__"),k5]:=by
    obtain ⟨l⟩:=sl
    simp only at hs
    rw [hs]
   subst hsl
   refine ⟨ns,nm,qn,bs,hd,sn,sub,ab,col,dd,k0,k1,k2,k3,k5,_,X _ _ ho,.of_isNs (PySem.W.isNs_of_in X hok),?_,PySem.W.tail_of_in X ht⟩
   cases ini with
   | none=>exact PySem.W.nsMap_none_of_in X hok hni
   | some v=>exact gA X (.of_isNs (PySem.W.isNs_of_in X hok)) hni
  ·cases q
 ·cases q
theorem gI {h:Heap} {bm:List Value} (T:OwnTail h bmV bm):bm.contains (.type "BaseException")=true:=T.hasType 'k'
section
variable {X:Cx} {pins:List (Addr×Obj)} {σ:St} {H:Hp} {s:Shared} {xk:XS}
variable {x:Str} {C:Addr} {bm:List Value} {e:Expr} {args:List Expr} {np cpos pos:Pos} {t:TA}
end
def iI (e:Addr) (cls:Value) (dx:Option Addr):Heap→Prop:=fun h=>∃ vs sl,h.get? e=some { cls:=cls,dict:=dx,data:=.fields vs,slots:=sl }
abbrev Cx.tr (X:Cx) (E:Value→Shared→Prop) (p:List 'h'):Cx:={ X with xe:=E,pn:=X.pn++p }
abbrev Cx.hand (X:Cx) (v:Value):Cx:={ X with A:=X.A.mark (some v),calm:=false,xe:=fun _ _=>False }
def Ends.unb (D:Ends) (i:Nat):Ends:={ nx:=fun σ H=>D.nx (σ.set i none) H,rt:=D.rt,bk:=fun σ H=>D.bk (σ.set i none) H,ct:=fun σ H=>D.ct (σ.set i none) H }
section
variable {X:Cx} {pins p:List (Addr×Obj)} {σ:St} {H:Hp} {s:Shared} {E:Value→Shared→Prop} {v:Value}
theorem Cx.Ok.tr (ok:X.Ok):(X.tr E p).Ok:={ ok with }
theorem Cx.Ok.untr (ok:(X.tr E p).Ok):X.Ok:={ ok with }
theorem Inv.tr (I:Inv X (p++pins) σ H s):Inv (X.tr E p) pins σ H s:=⟨I.ok.tr,I.os,I.bare,I.base,I.loc,I.cell,I.free,I.freeC,fun q hq=>I.pin q (by simpa using hq),I.hok,I.len⟩
theorem Inv.untr (I:Inv (X.tr E p) pins σ H s):Inv X (p++pins) σ H s:=⟨I.ok.untr,I.os,I.bare,I.base,I.loc,I.cell,I.free,I.freeC,fun q hq=>I.pin q (by simpa using hq),I.hok,I.len⟩
theorem SP.untr {D:Ends} {f:Flow} {s':Shared} (h:SP (X.tr E p) pins D f s'):SP X (p++pins) D f s':=by
 cases f with
 | next=>obtain ⟨σ',H',I,q⟩:=h; exact ⟨σ',H',I.untr,q⟩
 | brk=>obtain ⟨σ',H',I,q⟩:=h; exact ⟨σ',H',I.untr,q⟩
 | cont=>obtain ⟨σ',H',I,q⟩:=h; exact ⟨σ',H',I.untr,q⟩
 | ret u=>obtain ⟨v,σ',H',I,r,q⟩:=h; exact ⟨v,σ',H',I.untr,r,q⟩
theorem Inv.drop (I:Inv X (p++pins) σ H s):Inv X p σ H s:=I.pins_of fun q hq=>I.pin q (by simp [hq])
theorem Cx.Ok.hand (ok:X.Ok):(X.hand v).Ok:={ ok with hd:=(fun z=>by cases z),frames:=ok.frames }
theorem Inv.hand (I:Inv X pins σ H s):Inv (X.hand v) pins σ H s:=⟨I.ok.hand,I.os,I.bare,I.base,I.loc,I.cell,I.free,I.freeC,I.pin,I.hok,I.len⟩
theorem Inv.unhand (ok:X.Ok) (I:Inv (X.hand v) pins σ H s):Inv X pins σ H s:=⟨ok,I.os,I.bare,I.base,I.loc,I.cell,I.free,I.freeC,I.pin,I.hok,I.len⟩
theorem PS.any {st:Stmt} {t:TS} (h:PS X.nox st t):PS (X.tr E p) st t:=⟨fun pins s σ H D I hw =>
 wpAny_mono (h (p++pins) s σ H D (I.untr.wish _) hw) (fun f s' q=>by
  have q:=q.unwish
  cases f with
  | next=>obtain ⟨σ',H',I,q⟩:=q; exact ⟨σ',H',I.tr,q⟩
  | brk=>obtain ⟨σ',H',I,q⟩:=q; exact ⟨σ',H',I.tr,q⟩
  | cont=>obtain ⟨σ',H',I,q⟩:=q; exact ⟨σ',H',I.tr,q⟩
  | ret u=>obtain ⟨v,σ',H',I,r,q⟩:=q; exact ⟨v,σ',H',I.tr,r,q⟩) fun _ _ z=>False.elim z⟩
theorem PA.any {es:List Expr} {t:TA} (h:PA X.nox es t):PA (X.tr E p) es t:=⟨fun pos pins s σ H D I hw =>
 wpAny_mono (h pos (p++pins) s σ H D (I.untr.wish _) hw) (fun f s' ⟨vs,H',I',r,q⟩=>⟨vs,H',(I'.unwish).tr,r,q⟩) fun _ _ z=>False.elim z⟩
theorem PT.any {e:Expr} {t:TT} (h:PT X.nox e t):PT (X.tr E p) e t:=⟨fun pins s σ H D I hw =>
 wpAny_mono (h (p++pins) s σ H D (I.untr.wish _) hw) (fun f s' ⟨H',I',q⟩=>⟨H',(I'.unwish).tr,q⟩) fun _ _ z=>False.elim z⟩
theorem PE.any {e:Expr} {t:TE} (h:PE X.nox e t):PE (X.tr E p) e t:=⟨fun pins s σ H D I hw =>
 wpAny_mono (h (p++pins) s σ H D (I.untr.wish _) hw) (fun f s' ⟨v,H',I',r,q⟩=>⟨v,H',(I'.unwish).tr,r,q⟩) fun _ _ z=>False.elim z⟩
variable {e:Addr} {cls:Value} {dx T:Option Addr}
theorem Inv.track {vs:Array Value} {sl:Array (Option Value)} (I:Inv X pins σ H s) (he:s.heap.get? e=some { cls:=cls,dict:=dx,data:=.fields vs,slots:=sl }) (o:Out X pins H e) :
 Inv X pins σ (upd H e (.ext (iI e cls dx))) s:=by
 have ne:∀ b u,H b=some u→b≠e:=fun b u q z=>by rw [z,o.unt] at q; cases q
 have up:∀ b,b≠e→upd H e (.ext (iI e cls dx)) b=H b:=fun b z=>by simp [upd,z]
 have old:∀ b ob,X.s₀.heap.get? b=some ob→b≠e:=fun b ob q z=>by rw [z,o.new] at q; cases q
 refine ⟨I.ok,I.os,I.bare,⟨I.base.keep,I.base.slot,fun b ob q n hx=>(up b (old b ob q)).trans (I.base.free b ob q n hx),I.base.there,fun b xs q=>?_,fun b ob u q=>?_,fun b ps q=>?_⟩,I.loc,I.cell,
  (up _ (Ne.symm (I.fieldsNot he rfl).1)).trans I.free,fun x c q=>(up _ ((I.fieldsNot he rfl).2 x c q)).trans (I.freeC x c q),fun q hq=>?_,fun b u q=>?_,I.len⟩
 ·have z:=I.base.tups b xs q; exact (up b (ne b _ z)).trans z
 ·have z:=I.base.frzs b ob u q; exact (up b (ne b _ z)).trans z
 ·obtain ⟨m,z⟩:=I.base.tbls b ps q; exact ⟨m,(up b (ne b _ z)).trans z⟩
 ·obtain ⟨a1,a2,a3⟩:=I.pin q hq; exact ⟨a1,(up _ (o.pin q hq)).trans a2,a3⟩
 ·by_cases hb:b=e
  ·subst hb
   have:u = .ext (iI b cls dx):=by simp [upd] at q; exact q.symm
   subst this
   exact ⟨⟨vs,sl,he⟩,⟨_,he⟩,fun h1 h2 ⟨vs',sl',q'⟩ k=>⟨vs',sl',k _ q'⟩⟩
  ·rw [up b hb] at q
   exact (I.hok b u q).stay (fun _ _ _ z=>z) (fun c z=>(up c (ne c _ z)).trans z) fun c xs z=>(up c (ne c _ z)).trans z
theorem ng {M:Model} {A:Around} {t:Addr} {Q:Unit→Shared→Prop} (F:FlyO s.heap e cls dx (some t))
 (h:∀ h',FlyO h' e cls dx (some t)→(∀ b o,b≠t→s.heap.get? b=some o→h'.get? b=some o)→Q () { s with heap:=h' }):wpAny M A (setFlight (.ref e) none) Q E s:=by
 obtain ⟨⟨vs,sl,he,h1⟩,tb⟩:=F
 obtain ⟨hte,o,ts,ht,hd,h3⟩:=tb t rfl
 unfold setFlight
 refine wpAny_bind (wpAny_field he rfl h1 ?_)
 show wpAny M A (if (Value.ref t != Value.none)=true then _ else _) _ _ _
 rw [if_pos (show (Value.ref t != Value.none)=true from by simp)]
 refine wpAny_setField ht hd (Array.getElem?_eq_some_iff.mp h3).1 ?_
 have hsz : 3<ts.size:=(Array.getElem?_eq_some_iff.mp h3).1
 refine h _ ⟨⟨vs,sl,(Heap.get?_update_other _ _ hte).trans he,h1⟩,fun t' z=>?_⟩ fun b ob hb q=>(Heap.get?_update_other _ _ (Ne.symm hb)).trans q
 cases z
 refine ⟨hte,_,_,Heap.get?_update_self _ ht (Obj.isFreed_of_fields (Obj.data_mapFields hd _)),Obj.data_mapFields hd _,?_⟩
 show (ts.setIfInBounds 3 ((none:Option Addr).elim Value.none fun f=>rawInt f))[3]? = _
 simp [hsz]
theorem Inv.goes {h':Heap} {m:Str→Option Value} {w:Option Value} {n:Str} {i t':Nat} (I:Inv X pins σ H s) (hN:X.N.Nodup) (hi:X.N[i]? = some n)
 (hl:∀ (i:Nat) (x:Str) (v:V),X.N[i]? = some x→σ[i]? = some (some v)→Vis X.env.scope x→∃ u,aT v u∧Look X.env s.heap m x u) (hn:s.heap.Ns X.env.locals m)
 (hn':h'.Ns X.env.locals (fun x=>if x=n then w else m x)) (hs:Heap.SameBut X.env.locals s.heap h'):Inv X pins (σ.set i none) H { s with heap:=h',toks:=t' }:=by
 have oth:∀ b o,X.s₀.heap.get? b=some o→b≠X.env.locals:=fun b o e=>Nat.ne_of_lt (Nat.lt_of_lt_of_le (Heap.lt_size e) I.ok.above)
 refine ⟨I.ok,I.os,I.bare,⟨fun b o e n hb hx=>(hs.2 b (oth b o e)).trans (I.base.keep b o e n hb hx),fun b o e n hb hx=>?_,I.base.free,fun b o e hx=>?_,I.base.tups,I.base.frzs,I.base.tbls⟩,⟨_,hn',fun j y v' e1 e2 e3=>?_⟩,fun y c e=>?_,I.free,I.freeC,fun q hq=>?_,fun b u q=>?_,by simpa using I.len⟩
 ·obtain ⟨sl,e1⟩:=I.base.slot b o e n hb hx
  exact ⟨sl,(hs.2 b (oth b o e)).trans e1⟩
 ·obtain ⟨o',e1⟩:=I.base.there b o e hx
  exact ⟨o',(hs.2 b (oth b o e)).trans e1⟩
 ·by_cases hj:j=i
  ·subst hj
   have:j<σ.length:=by rw [I.len]; exact (List.getElem?_eq_some_iff.mp hi).1
   rw [List.getElem?_set_self this] at e2; cases e2
  ·rw [List.getElem?_set_ne (Ne.symm hj)] at e2
   obtain ⟨u',r',q⟩:=hl j y v' e1 e2 e3
   refine ⟨u',r',?_⟩
   rcases q with ⟨k,e⟩ | ⟨k,c,e,z⟩
   ·refine .inl ⟨k,?_⟩
    have:y≠n:=fun e=>hj (i9 hN e1 (e ▸ hi))
    simp [this,e]
   ·exact .inr ⟨k,c,e,z.sameBut hs (I.cne y c e)⟩
 ·obtain ⟨w',z⟩:=I.cell y c e
  exact ⟨w',z.sameBut hs (I.cne y c e)⟩
 ·obtain ⟨e,n,ne,nf,d⟩:=I.pin q hq
  exact ⟨(hs.2 q.1 ne).trans e,n,ne,nf,d⟩
 ·refine (I.hok b u q).stay (fun c w' hc z=>(hs.2 c ?_).trans z) (fun _ z=>z) fun _ _ z=>z
  rintro rfl
  rcases hc with rfl | hc
  ·rw [I.free] at q; cases q
  ·rw [I.free] at hc; cases hc
theorem iR {M:Model} {A:Around} {C D0:Addr} {bm bmD:List Value} {ini iniD:Option Value} {oe:Obj} {Q:Bool→Shared→Prop} (hC:mX s.heap C bm ini) (hD:mX s.heap D0 bmD iniD) (he:s.heap.get? e=some oe) (hcls:oe.cls = .ref C)
 (hq:Q ((Value.ref C :: bm).contains (.ref D0)) s):wpAny M A (excMatches (.ref e) (.ref D0)) Q E s:=by
 obtain ⟨N,nm,q,bs,hdct,sn,sub,ab,col,dd,k0,k1,k2,k3,k5,mN,hC,hN,hni,T⟩:=hC
 obtain ⟨N',nm',q',bs',hdct',sn',sub',ab',col',dd',k0',k1',k2',k3',k5',mN',hD,hN',hni',T'⟩:=hD
 obtain ⟨h,g,d,t,os⟩:=s
 have hbD:(Value.ref D0 :: bmD).contains (.type "BaseException")=true:=by rw [List.contains_cons,gI T',Bool.or_true]
 have f:=tc_notTuple
 generalize hb:(Value.ref C :: bm).contains (.ref D0)=b at hq
 unfold excMatches
 repeat (first | (with_reducible refine wpAny_loadPart_at he ?_; rw [hcls]) | with_reducible refine wpAny_loadPart_at hD ?_ | (with_reducible refine wpAny_isSubtype_exc hD ?_; rw [hbD]) | (with_reducible refine wpAny_isSubtype_exc hC ?_; rw [hb]) | wp_step)
 cases b <;> (wp_walk; exact hq)
theorem uQ {A:Around} {D:Ends} {n:Str} {i:Nat} {f:Flow} {s':Shared} {npos:Pos} (ok:X.Ok) (hN:X.N.Nodup) (hi:X.N[i]? = some n) (hl:X.env.kindOf n=some .local) (h:SP (X.hand v) pins (D.unb i) f s') :
 wpAny 'b' A (do bindName X.env n .none; unbindBehindTheSuite X.env n npos) (fun _ s5=>SP X pins D f s5) E s':=by
 have hcls:(X.env.scope.kind == .class||(X.env.scope.kind == .module&&X.env.locals != X.env.globals))=false:=by rw [ok.kind]; rfl
 have main:∀ σ' H',Inv (X.hand v) pins σ' H' s'→(∀ s5,Inv X pins (σ'.set i none) H' s5→SP X pins D f s5)→wpAny 'b' A (do bindName X.env n .none; unbindBehindTheSuite X.env n npos) (fun _ s5=>SP X pins D f s5) E s':=fun σ' H' J k=>by
  have J:=J.unhand ok
  obtain ⟨m,hn,hll⟩:=id J.loc
  exact wpAny_nameGoes_keeps hl hn hcls fun h' w hn' hs=>k _ (J.goes hN hi hll hn hn' hs)
 cases f with
 | next=>obtain ⟨σ',H',J,q⟩:=h; exact main σ' H' J fun s5 J5=>⟨_,H',J5,q⟩
 | brk=>obtain ⟨σ',H',J,q⟩:=h; exact main σ' H' J fun s5 J5=>⟨_,H',J5,q⟩
 | cont=>obtain ⟨σ',H',J,q⟩:=h; exact main σ' H' J fun s5 J5=>⟨_,H',J5,q⟩
 | ret u=>obtain ⟨v',σ',H',J,r,q⟩:=h; exact main σ' H' J fun s5 J5=>⟨v',_,H',J5,r,q⟩
variable {x n:Str} {i:Nat} {C D0:Addr} {bm bmD:List Value} {ini iniD:Option Value} {b0:Stmt} {suite:List Stmt} {np npos:Pos} {ts:TS} {D:Ends} {t:Addr}
theorem pR (hN:X.N.Nodup) (hi:X.N[i]? = some n) (hl:X.env.kindOf n=some .local) (hg:Gl X x) (hm:X.mg x=some (.ref D0)) (hD:cf X.K D0 bmD iniD=true) (hC:cf X.K C bm ini=true)
 (hsub:(Value.ref C :: bm).contains (.ref D0)=true) (hs:PSs (X.hand (.ref e)) (b0 :: suite) ts) (I:Inv X pins σ H s) (F:FlyO s.heap e (.ref C) dx (some t)) (oe:Out X pins H e) (ot:Out X pins H t) (ht:X.s₀.heap.objs.size≤t)
 (q:ts (D.unb i) (σ.set i (some (.ref e))) (upd H e (.ext (iI e (.ref C) dx)))) (hdb:'d'=false:=by decide) :
 wpAny 'b' X.A (handleBy (.ref e) X.env [.ExceptHandler (some (.Name x np)) (some n) (b0 :: suite) npos]) (SP X pins D) X.xe s:=by
 refine wpAny_handleBy_cons (codeAny_handlers_test (fb (X:=X.hand (.ref e)) I.hand hg hm ?_ hdb)) (by intro q; cases q)
 obtain ⟨⟨vs,sl,he,h1⟩,tb⟩:=id F
 refine iR (d6 I.kIn hC) (d6 I.kIn hD) he rfl ?_
 rw [hsub]
 refine codeAny_handlers_suite_as (ng F fun h' F' k=>?_)
 obtain ⟨hte,o',ts',ht',hd',_⟩:=tb t rfl
 have I2:Inv X pins σ H { s with heap:=h' }:=I.turned (t':=s.toks) k ot.unt (I.fieldsNot ht' hd').1 (.inr ht) (I.fieldsNot ht' hd').2 ot.pin
 obtain ⟨vs2,sl2,he2,_⟩:=F'.ex
 have I3:=I2.track he2 oe
 refine dR (X:=X.hand (.ref e)) I3.hand hN hi (.inl hl) (v:=.ref e) rfl (fun s3 I4=>?_) (.inr hl)
 refine wpAny_mono (hs pins s3 _ _ _ I4 q) (fun f s4 h4=>?_) fun _ _ z=>False.elim z
 exact uQ I.ok hN hi hl h4
def tTry (i:Nat) (okc:Value→Prop) (tb:XS→TS) (ts:Addr→TS):TS:=fun D σ H=>tb (fun σ' cls dx H'=>okc cls∧∀ ea,H' ea=none→ts ea (D.unb i) (σ'.set i (some (.ref ea))) (upd H' ea (.ext (iI ea cls dx)))) D σ H
def gv (K:PySem.W.Frag) (D0:Addr) (cls:Value):Prop:=∃ C bm ini,cls = .ref C∧cf K C bm ini=true∧(Value.ref C :: bm).contains (.ref D0)=true
theorem vN {body:List Stmt} {pos:Pos} {tb:XS→TS} {ts:Addr→TS} (hst:X.stack=X.env :: X.outer) (hf:X.env.frame=some X.env.locals) (hN:X.N.Nodup) (hi:X.N[i]? = some n) (hl:X.env.kindOf n=some .local) (hg:Gl X x) (hm:X.mg x=some (.ref D0)) (hD:cf X.K D0 bmD iniD=true)
 (hb:∀ E p xk,PassesOwn 'b' X.A X.env E→Acc (X.tr E p) xk→PSs (X.tr E p) body (tb xk)) (hs:∀ ea,PSs (X.hand (.ref ea)) (b0 :: suite) (ts ea)) (hdb:'d'=false:=by decide) :
 PS X (.Try body [.ExceptHandler (some (.Name x np)) (some n) (b0 :: suite) npos] [] [] pos) (tTry i (gv X.K D0) tb ts):=by
 refine ⟨fun pins s σ H D I h=>?_⟩
 refine wpAny_Try_except ?_
 have ac:Acc (X.tr (fun e s₁=>wpAny 'b' X.A (noteFrame e X.env) (fun _ s₂=>wpAny 'b' X.A (setFlight e none) (fun _ s₃ =>
  wpAny 'b' X.A (handleBy e X.env [.ExceptHandler (some (.Name x np)) (some n) (b0 :: suite) npos]) (SP X pins D) X.xe s₃) X.xe s₂) X.xe s₁) pins)
  (fun σ' cls dx H'=>gv X.K D0 cls∧∀ ea,H' ea=none→ts ea (D.unb i) (σ'.set i (some (.ref ea))) (upd H' ea (.ext (iI ea cls dx)))):=by
  refine ⟨fun pins' σ' H' s' ea cls dx J fl ⟨⟨C,bm,ini,hc,hC,hsub⟩,hk⟩=>?_⟩
  subst hc
  obtain ⟨T,flo,oe,ot⟩:=fl.go
  have J:=J.untr.drop
  have oe:Out X pins H' ea:=⟨oe.new,oe.unt,fun q hq=>oe.pin q (List.mem_append_left _ hq)⟩
  have ot:∀ t,T=some t→Out X pins H' t:=fun t z=>⟨(ot t z).new,(ot t z).unt,fun q hq=>(ot t z).pin q (List.mem_append_left _ hq)⟩
  show wpAny _ _ (noteFrame (.ref ea) X.env) _ _ s'
  refine kO (base:=X.base) (outer:=X.outer) (L:=X.env.locals) (T:=T) (by rw [← hst]; exact J.ok.frames) (by rw [← hst]; exact J.stack) hf flo fun h' hs' t' ht fl' kb there=>?_
  obtain ⟨J2,fl2⟩:=J.noted hst flo oe ot hs' ht fl' kb there
  have hsz:X.s₀.heap.objs.size≤t':=Nat.le_trans J.sz ht
  exact pR hN hi hl hg hm hD hC hsub (hs _) J2 fl' oe ⟨Heap.get?_none_of_le hsz,J.hok.fresh ht,J.pinNo (Heap.get?_none_of_le ht)⟩ hsz (hk ea oe.unt) hdb
 refine wpAny_mono (hb _ pins _ PassesOwn.looking ac [] s σ H D (Inv.tr (by simpa using I)) h) (fun f s' q=>?_) fun e s' q=>q
 have q:=q.untr
 rw [List.append_nil] at q
 cases f with
 | next=>exact wpAny_execs_nil q
 | ret v=>exact q
 | brk=>exact q
 | cont=>exact q
end
theorem l7 {C:Ctx} {ow:List Bool} {G:Hp} {ρ:DSt} {σ:St} {H:Hp} {pd T:List (D×V)} {ks:List AK} {ds ds':List D} {vs:List V}
 (hn:C.np≤pd.length) (r:R C ow G ρ σ H (T.reverse++pd)) (ha:gj G σ ks ds vs T) (hf:cL ks ds ρ=some ds') (nd:(aw ks).Nodup) (hw:∀ i∈aw ks,ow[i]? = some true) :
 ∃ C':Ctx,C'.np=0∧C'.mu=msV (ks.map AK.isM) vs∧R C' (ks.map AK.isM) G (ds'.map some) (vs.map some) H []∧(ks.map AK.isM).length=ds'.length ∧
  ∀ (fr:Bool) d ρ2 σ2 v G2 H2,az G G2→ρ2.length=(ks.map AK.isM).length→Ret fr C' (ks.map AK.isM) G2 ρ2 σ2 H2 d v→Kp ow ρ (eC ks (mus (ks.map AK.isM) ρ2) ρ) ∧
   (if fr=true then R C ow G2 (eC ks (mus (ks.map AK.isM) ρ2) ρ) σ H2 ((d,v) :: pd) else R C ow G2 (eC ks (mus (ks.map AK.isM) ρ2) ρ) σ H2 pd∧Rep G2 d v):=by
 obtain ⟨O,ro⟩:=r
 have pn:=ro.pn
 obtain ⟨l1,l2,hat⟩:=fW (O:=O) (H:=H) (r:=pd.length) ha hf (fun j x e=>ix pn e) (fun i hi d e=>by
  obtain ⟨v,h1,h2⟩:=ro.sl i d e; rw [if_pos (hw i hi)] at h2; exact ⟨v,h1,h2⟩)
 let lb:=lbs ks pd.length
 let fin:Nat→Option Nat:=fun l=>(fnd l lb 0).map (2 * ·)
 let fbk:Nat→Option Nat:=fun l=>if l=1 then some (2 * pd.length + 1) else if l % 2=0 then (match lb[l / 2]? with | some o=>o | none=>none) else none
 have uq:=eQ (ks:=ks) (r:=pd.length) nd
 have fin_at:∀ (i l:Nat),lb[i]? = some (some l)→fin l=some (2 * i):=fun i l e=>by
  show (fnd l lb 0).map _=_
  rw [nr uq e]; simp
 have fin_of:∀ l l',fin l=some l'→∃ i,l'=2 * i∧lb[i]? = some (some l):=fun l l' e=>by
  change (fnd l lb 0).map _=_ at e
  cases z:fnd l lb 0 with
  | none=>rw [z] at e; cases e
  | some j=>rw [z] at e; cases e; obtain ⟨i,rfl,e2⟩:=nJ z; exact ⟨i,by show 2 * (0 + i)=2 * i; omega,e2⟩
 have fin_none:∀ l,(∀ i:Nat,lb[i]?≠some (some l))→fin l=none:=fun l e=>by
  show (fnd l lb 0).map _=_
  rw [iW e]; rfl
 have ri:=ro.into (mu:=ks.map AK.isM) (fin:=fin) (ds:=ds') (vs:=vs) l1 (fun j d e=>by
  obtain ⟨v,h1,h2⟩:=hat j d e
  refine ⟨v,h1,?_⟩
  rcases h2 with ⟨l,h2,h3,h4⟩ | ⟨h2,h3⟩
  ·rw [if_pos h3]; exact ⟨l,h4,fin_at j l h2⟩
  ·rw [if_neg (by rw [h2]; decide)]; exact h3) (fun l l' e=>by
  obtain ⟨i,rfl,e2⟩:=fin_of l l' e
  exact ⟨i,rfl,d7 e2,by have:=(List.getElem?_eq_some_iff.mp (d7 e2)).1; rw [List.length_map] at this; omega⟩)
 refine ⟨_,rfl,rfl,⟨_,ri⟩,by rw [List.length_map,l1,l2],?_⟩
 intro fr d ρ2 σ2 v G2 H2 z hl hr
 rw [List.length_map] at hl
 rw [f9 hl]
 have out:∀ (pd2 pd3:List (D×V)) (O2:Own),RO ⟨G,H,b7 fin O,msV (ks.map AK.isM) vs,0⟩ (ks.map AK.isM) G2 ρ2 σ2 H2 pd2 O2→C.np≤pd3.length →
  (∀ (O3:Own),(∀ a l π,O a=some (l,π)→fin l=none→O3 a=some (l,π)∧H2 a=H a)→(∀ a l l' π,O2 a=some (l',π)→fbk l'=some l→O3 a=some (l,π))→ce G G2→bE G2 H2 O3 pd3) →
  RO C ow G2 (bT ks ρ2 ρ) σ H2 pd3 (kP fin fbk O O2):=fun pd2 pd3 O2 r2 hn3 hP=>by
  refine ro.out (vs:=vs) r2 ?_ (by rw [eJ]; exact ro.len) hn3 ?_ ?_ hP
  ·intro l0 l' l e1 e2
   obtain ⟨i,rfl,e3⟩:=fin_of l0 l' e1
   change (if 2 * i=1 then _ else if 2 * i % 2=0 then _ else _)=_ at e2
   rw [if_neg 'a',if_pos 'a',show 2 * i / 2=i by omega,e3] at e2
   exact (Option.some.inj e2).symm
  ·intro i d c e
   rcases d_ e hl with ⟨_,h2⟩ | ⟨k,h1,_⟩
   ·exact h2
   ·exact absurd (hw i (oG h1)) c
  ·intro i d c e
   rcases d_ e hl with ⟨h1,h2⟩ | ⟨j,h1,h2⟩
   ·refine .inl ⟨fin_none _ fun j e=>?_,h2⟩
    rcases b9 e with ⟨z,h3,h4⟩ | ⟨z,h3,h4⟩
    ·exact h1 (by rw [show i=z by omega]; exact h3)
    ·omega
   ·obtain ⟨u,g1,g2⟩:=dY ha h1
    have im:(ks.map AK.isM)[j]? = some true:=by rw [List.getElem?_map,h1]; rfl
    refine .inr ⟨j,u,?_,im,h2,g2,r2.mp j u (km im g1)⟩
    show (if 2 * j=1 then _ else if 2 * j % 2=0 then _ else _)=_
    rw [if_neg 'a',if_pos 'a',show 2 * j / 2=j by omega,lZ h1]
 have pdk:∀ (O3:Own),(∀ a l π,O a=some (l,π)→fin l=none→O3 a=some (l,π)∧H2 a=H a)→ce G G2→bE G2 H2 O3 pd:=fun O3 h1 ts =>
  bE.keep ts (fun a j π hj e=>h1 a _ _ e (fin_none _ fun i e=>by
   rcases b9 e with ⟨z,h3,h4⟩ | ⟨z,h3,h4⟩ <;> omega)) (dQ (T:=T.reverse) pn)
 have kp:Kp ow ρ (bT ks ρ2 ρ):=fun j hj=>eM fun hs=>hj (hw j hs)
 refine ⟨kp,?_⟩
 unfold Ret at hr
 split at hr
 ·rename_i c
  rw [if_pos c]
  obtain ⟨O2,r2⟩:=hr
  refine ⟨_,out _ ((d,v) :: pd) O2 r2 (Nat.le_succ_of_le hn) fun O3 h1 h2 ts=>⟨?_,pdk O3 h1 ts⟩⟩
  exact r2.pn.1.keep 'r' fun a τ e=>⟨h2 a _ _ _ e (by show (if 2 * 0 + 1=1 then _ else _)=_; rw [if_pos rfl]),rfl⟩
 ·rename_i c
  rw [if_neg c]
  obtain ⟨⟨O2,r2⟩,p⟩:=hr
  exact ⟨⟨_,out _ pd O2 r2 hn fun O3 h1 h2 ts=>pdk O3 h1 ts⟩,p⟩
def lI (H:Hp) (ns:List Str) (ds:List D):Option Addr→Prop
 | none=>ns=[]∧ds=[]
 | some d=>∃ xs,H d=some (.xd (ns.zip xs))∧xs.length=ns.length∧Reps H ds xs
theorem lI.mono {H H':Hp} {ns:List Str} {ds:List D} {dx:Option Addr} (s:az H H') (h:lI H ns ds dx):lI H' ns ds dx:=by
 cases dx with
 | none=>exact h
 | some d=>obtain ⟨xs,h1,h2,h3⟩:=h; exact ⟨xs,s _ _ h1,h2,Reps.mono s _ _ h3⟩
abbrev XD:=Addr→List Str→List D→DSt→Prop
abbrev SpX:=List D→(D→DSt→Prop)→XD→Prop
def cZ (mu:List Bool) (fr:Bool) (sd:SpX):Sp:=fun vs H Q E=>∃ (C:Ctx) (G:Hp) (ds:List D) (q:D→DSt→Prop) (qx:XD),C.np=0∧C.mu=msV mu vs∧R C mu G (ds.map some) (vs.map some) H []∧sd ds q qx∧mu.length=ds.length ∧
 (∀ d ρ' σ' v G' H',q d (mus mu ρ')→az G G'→ρ'.length=mu.length→Ret fr C mu G' ρ' σ' H' d v→Q v H') ∧
 (∀ c ns es ρ' σ' dx G' H',qx c ns es (mus mu ρ')→az G G'→ρ'.length=mu.length→R C mu G' ρ' σ' H' []→lI G' ns es dx→E (.ref c) dx H')
theorem ji {C:Ctx} {ow:List Bool} {G:Hp} {ρ:DSt} {σ:St} {H:Hp} {pd T:List (D×V)} {ks:List AK} {ds ds':List D} {vs:List V} {fr:Bool} {sd:SpX} {q:D→DSt→Prop} {qx:XD} {Q:VK} {E:XK}
 (hn:C.np≤pd.length) (r:R C ow G ρ σ H (T.reverse++pd)) (ha:gj G σ ks ds vs T) (hf:cL ks ds ρ=some ds') (nd:(aw ks).Nodup) (hw:∀ i∈aw ks,ow[i]? = some true)
 (h:sd ds' (fun d os=>q d (eC ks os ρ)) fun c ns es os=>qx c ns es (eC ks os ρ))
 (k:∀ d ρ' v G' H',q d ρ'→az G G'→Kp ow ρ ρ'→(if fr=true then R C ow G' ρ' σ H' ((d,v) :: pd) else R C ow G' ρ' σ H' pd∧Rep G' d v)→Q v H')
 (kx:∀ c ns es ρ' dx G' H',qx c ns es ρ'→az G G'→Kp ow ρ ρ'→R C ow G' ρ' σ H' pd→lI G' ns es dx→E (.ref c) dx H'):cZ (ks.map AK.isM) fr sd vs H Q E:=by
 obtain ⟨C',h1,h2,h3,h4,h5⟩:=l7 hn r ha hf nd hw
 refine ⟨C',G,ds',_,_,h1,h2,h3,h,h4,fun d ρ' σ' v G' H' hq z hl hr=>?_,fun c ns es ρ' σ' dx G' H' hq z hl hr hx=>?_⟩
 ·obtain ⟨kp,hr⟩:=h5 fr d ρ' σ' v G' H' z hl hr
  exact k d _ v G' H' hq z kp hr
 ·obtain ⟨kp,hr⟩:=h5 false .non ρ' σ' .non G' H' z hl (by unfold Ret; rw [if_neg 'k']; exact ⟨hr,kC⟩)
  rw [if_neg 'k'] at hr
  exact kx c ns es _ dx G' H' hq z kp hr.1 hx
section
variable {X:Cx} {E:Value→Shared→Prop} {p:List (Addr×Obj)}
theorem gz.tr {pins:List 'h'} {H:Hp} {b:Addr} (h:gz X (p++pins) H b):gz (X.tr E p) pins H b:=⟨h.1,h.2.1,h.2.2.1,h.2.2.2.1,h.2.2.2.2.1,fun q hq=>h.2.2.2.2.2 q (by simpa using hq)⟩
theorem PI.any {tg iter:Expr} {wi:TI} (h:PI X.nox tg iter wi):PI (X.tr E p) tg iter wi:=⟨fun pins s σ H R I hw =>
 wpAny_mono (h (p++pins) s σ H R (I.untr.wish _) hw) (fun v s1 h1=>wpAny_mono h1 (fun u s2 ⟨it,fp,tn,J,H',e,I',T,t0,f,r⟩=>⟨it,fp,tn,J,H',e,(I'.unwish).tr,T,t0,fun b hb=>gz.tr (f b hb),r⟩) fun _ _ z=>False.elim z) fun _ _ z=>False.elim z⟩
theorem PG.any {tg:Expr} {t:TG} (h:PG X.nox tg t):PG (X.tr E p) tg t:=⟨fun pins s σ H v u Q I r hw =>
 wpAny_mono (h (p++pins) s σ H v u Q (I.untr.wish _) r hw) (fun _ s1 ⟨σ',H',I',q⟩=>⟨σ',H',(I'.unwish).tr,q⟩) fun _ _ z=>False.elim z⟩
end
structure KsX (C:Ctx) (ow:List Bool) (G:Hp) (pd:List (D×V)) (xx:XD) (xk:XS):Prop where
 go:∀ c ns es ρ σ dx G' H,xx c ns es ρ→az G G'→R C ow G' ρ σ H pd→lI G' ns es dx→xk σ (.ref c) dx H
theorem KsX.mono {C:Ctx} {ow:List Bool} {G G1:Hp} {pd:List (D×V)} {xx:XD} {xk:XS} (h:KsX C ow G pd xx xk) (s:az G G1):KsX C ow G1 pd xx xk:=⟨fun c ns es ρ σ dx G' H a b=>h.go c ns es ρ σ dx G' H a (s.trans b)⟩
abbrev MSX:=XD→MS
abbrev MEX:=XD→ME
def Good (X:Cx) (E:Value→Shared→Prop) (p:List 'h') (xk:XS):Prop:=PassesOwn 'b' X.A X.env E∧Acc (X.tr E p) xk
def SSX (M:Md) (t:XS→TS) (m:MSX):Prop:=∀ (C:Ctx) (G:Hp) (ρ:DSt) (σ:St) (H:Hp) (n:EndsD) (D:Ends) (xx:XD) (xk:XS),fG C M.mu→C.np=0→R C M.ow G ρ σ H []→m xx n ρ→Ks C M.ow M.fr G n D→KsX C M.ow G [] xx xk→t xk D σ H
def SEX (ow:List Bool) (t:XS→TE) (m:MEX):Prop:=∀ (C:Ctx) (G:Hp) (ρ:DSt) (σ:St) (H:Hp) (pd:List (D×V)) (q:D→DSt→Prop) (Q:VK) (xx:XD) (xk:XS),R C ow G ρ σ H pd→m xx ρ q→KsX C ow G pd xx xk →
 (∀ d ρ' v G' H',q d ρ'→az G G'→Kp ow ρ ρ'→R C ow G' ρ' σ H' pd→Rep G' d v→Q v H')→t xk σ H Q
def SFX (ow:List Bool) (t:XS→TE) (m:MEX):Prop:=∀ (C:Ctx) (G:Hp) (ρ:DSt) (σ:St) (H:Hp) (pd:List (D×V)) (q:D→DSt→Prop) (Q:VK) (xx:XD) (xk:XS),R C ow G ρ σ H pd→m xx ρ q→KsX C ow G pd xx xk →
 (∀ d ρ' v G' H',q d ρ'→az G G'→Kp ow ρ ρ'→R C ow G' ρ' σ H' ((d,v) :: pd)→Q v H')→t xk σ H Q
structure QX (X:Cx) (M:Md) (st:Stmt) (m:MSX):Prop where
 ex:∃ t,(∀ E p xk,Good X E p xk→PS (X.tr E p) st (t xk))∧SSX M t m
structure QXs (X:Cx) (M:Md) (st:List Stmt) (m:MSX):Prop where
 ex:∃ t,(∀ E p xk,Good X E p xk→PSs (X.tr E p) st (t xk))∧SSX M t m
structure QXE (X:Cx) (ow:List Bool) (e:Expr) (m:MEX):Prop where
 ex:∃ t,(∀ E p xk,Good X E p xk→PE (X.tr E p) e (t xk))∧SEX ow t m
structure QXF (X:Cx) (ow:List Bool) (e:Expr) (m:MEX):Prop where
 ex:∃ t,(∀ E p xk,Good X E p xk→PE (X.tr E p) e (t xk))∧SFX ow t m
section
variable {X:Cx} {M:Md} {a b c e:Expr} {mt:MT} {pos pos':Pos} {st:Stmt} {rest:List Stmt} {m:MS} {m1 m2:MSX} {mex:MEX}
theorem bQ (h:QS X.nox M st m):QX X M st (fun _=>m):=by
 obtain ⟨t,p,s⟩:=h
 exact ⟨fun _=>t,fun E q xk g=>PS.any p,fun C G ρ σ H n D xx xk hm hn r h k kx=>s C G ρ σ H n D hm hn r h k⟩
theorem eh:QXs X M [] (fun _=>vJ):=⟨fun _=>_,fun E q xk g=>jV,fun C G ρ σ H n D xx xk hm hn r h k kx=>k.nx ρ σ G H h (az.refl _) r⟩
theorem bi (h:QX X M st m1):QXs X M [st] m1:=by obtain ⟨t,p,s⟩:=h; exact ⟨_,fun E q xk g=>ij (p E q xk g),s⟩
theorem aK (h:QX X M st m1) (h2:QXs X M rest m2):QXs X M (st :: rest) (fun xx=>mSeq (m1 xx) (m2 xx)):=by
 obtain ⟨t,p,s⟩:=h; obtain ⟨t2,p2,s2⟩:=h2
 refine ⟨fun xk=>tSeq (t xk) (t2 xk),fun E q xk g=>cx (p E q xk g) (p2 E q xk g),fun C G ρ σ H n D xx xk hm hn r h k kx=>s C G ρ σ H _ _ xx xk hm hn r h ?_ kx⟩
 exact ⟨fun ρ' σ' G' H' h' z r'=>s2 C G' ρ' σ' H' n D xx xk hm hn r' h' (k.mono z) (kx.mono z),k.bk,k.ct,k.rt⟩
theorem iO {s1 s2:List Stmt} (h:QT X.nox M.ow c mt) (h1:QXs X M s1 m1) (h2:QXs X M s2 m2):QX X M (.If c s1 s2 pos) (fun xx=>mIfS mt (m1 xx) (m2 xx)):=by
 obtain ⟨t,p,s⟩:=h; obtain ⟨t1,p1,s1⟩:=h1; obtain ⟨t2,p2,s2⟩:=h2
 refine ⟨fun xk=>tIfS t (t1 xk) (t2 xk),fun E q xk g=>vi (PT.any p) (p1 E q xk g) (p2 E q xk g),fun C G ρ σ H n D xx xk hm hn r h k kx=>s C G ρ σ H [] _ _ r h fun b ρ' G' H' hq z kp r'=>?_⟩
 cases b with
 | true=>rw [if_pos rfl] at hq ⊢; exact s1 C G' ρ' σ H' n D xx xk hm hn r' hq (k.mono z) (kx.mono z)
 | false=>rw [if_neg 'k'] at hq ⊢; exact s2 C G' ρ' σ H' n D xx xk hm hn r' hq (k.mono z) (kx.mono z)
theorem ic (h:QXE X M.ow e mex) (hs:swapsWith e none pos.line X.env=pure false:=by rfl):QX X M (.Expr e pos) (fun xx=>vm (mex xx)):=by
 obtain ⟨t,p,s⟩:=h
 exact ⟨fun xk=>vE (t xk),fun E q xk g=>d4 (p E q xk g) hs,fun C G ρ σ H n D xx xk hm hn r h k kx=>s C G ρ σ H [] _ _ xx xk r h kx fun d ρ' v G' H' hq z kp r' p=>k.nx ρ' σ G' H' hq z r'⟩
theorem ni (h:QXE X M.ow e mex) (hf:M.fr=false:=by rfl):QX X M (.Return (some e) pos) (fun xx=>mRet (mex xx)):=by
 obtain ⟨t,p,s⟩:=h
 exact ⟨fun xk=>tRet (t xk),fun E q xk g=>mG (p E q xk g),fun C G ρ σ H n D xx xk hm hn r h k kx=>s C G ρ σ H [] _ _ xx xk r h kx fun d ρ' v G' H' hq z kp r' p=>k.rt d ρ' σ v G' H' hq z (by unfold Ret; rw [if_neg (by rw [hf]; decide)]; exact ⟨r',p⟩)⟩
theorem wU {i:Nat} {x:Str} (hN:X.N.Nodup) (hi:X.N[i]? = some x) (hx:Loc X.env.scope x) (he:QXE X M.ow e mex) (ho:M.ow[i]?≠some true:=by decide) (hu:M.mu[i]?≠some true:=by decide) (hs:swapsWith e (some (.Name x pos')) pos.line X.env=pure false:=by rfl) (hf:X.fn x=true∨X.env.scope.names.lookup x=some .local:=by first | exact .inl rfl | exact .inr rfl | assumption) :
 QX X M (.Assign [.Name x pos'] e pos) (fun xx=>jR i (mex xx)):=by
 obtain ⟨t,p,s⟩:=he
 refine ⟨fun xk=>p_ (t xk) (hV i),fun E q xk g=>i5 hN hi hx (p E q xk g) hs hf,fun C G ρ σ H n D xx xk hm hn r h k kx=>s C G ρ σ H [] _ _ xx xk r h kx fun d ρ' v G' H' hq z kp r' p=>?_⟩
 obtain ⟨O,r'⟩:=r'
 exact k.nx _ _ G' H' hq z ⟨O,r'.setS ho (hm.no hu) p⟩
variable {mg:MG}
theorem mj {mi:MA} {tg iter:Expr} {body:List Stmt} (hc:X.calm=true) (hi:QI X.nox M.ow tg iter mi) (hg:QG X.nox M tg mg) (hb:QXs X M body m1)
 (hs:∀ x,foldedSetIterable iter X.env x=pure x:=by intro _; rfl):QX X M (.For tg iter body [] pos) (fun xx=>mFor mi mg (m1 xx)):=by
 obtain ⟨ti,pi,si⟩:=hi; obtain ⟨tg',pg,sg⟩:=hg; obtain ⟨tb,pb,sb⟩:=hb
 refine ⟨fun xk=>tFor ti tg' (tb xk),fun E q xk g=>mw g.1 hc (PI.any pi) (PG.any pg) (pb E q xk g) hs,fun C G ρ σ H n D xx xk hm hn r h k kx=>si C G ρ σ H [] _ _ r h fun ds ρ0 G0 H0 J hq z0 kp r0 jo=>?_⟩
 obtain ⟨I,i0,turn,fin⟩:=hq
 refine ⟨fun i j σ' H'=>j=ds.length - i∧i≤ds.length∧∃ G' ρ',az G0 G'∧R C M.ow G' ρ' σ' H' []∧I i ρ',⟨_,rfl,Nat.zero_le _,G0,ρ0,az.refl _,r0,i0⟩,?_⟩
 rintro i j σ' H' ⟨rfl,hi,G',ρ',z,r',w⟩
 obtain ⟨st,go⟩:=jo C M.ow G' ρ' σ' H' [] i z r'
 by_cases hlt:i<ds.length
 ·obtain ⟨g1,g2⟩:=go ds[i] (List.getElem?_eq_getElem hlt)
  refine .inr ⟨g1,fun σ2 H2=>∃ G2 ρ2,az G0 G2∧R C M.ow G2 ρ2 σ2 H2 []∧I (i + 1) ρ2,fun σ2 H2 h=>⟨ds.length - (i + 1),by omega,rfl,hlt,h⟩,fun x H1 hy=>?_⟩
  obtain ⟨G1,z1,r1,p1⟩:=g2 x H1 hy
  refine sg C G1 ρ' σ' H1 [] ds[i] x _ _ hm r1 p1 (turn i ds[i] ρ' (List.getElem?_eq_getElem hlt) w) fun ρ2 σ2 h2 r2=>?_
  refine sb C G1 ρ2 σ2 H1 _ _ xx xk hm hn r2 h2 ⟨?_,?_,?_,?_⟩ (kx.mono (z0.trans (z.trans z1)))
  ·intro ρ3 σ3 G3 H3 h3 z3 r3; exact ⟨G3,ρ3,z.trans (z1.trans z3),r3,h3⟩
  ·intro ρ3 σ3 G3 H3 h3 z3 r3; exact k.nx ρ3 σ3 G3 H3 h3 (z0.trans (z.trans (z1.trans z3))) r3
  ·intro ρ3 σ3 G3 H3 h3 z3 r3; exact ⟨G3,ρ3,z.trans (z1.trans z3),r3,h3⟩
  ·intro d ρ3 σ3 v G3 H3 h3 z3 r3; exact k.rt d ρ3 σ3 v G3 H3 h3 (z0.trans (z.trans (z1.trans z3))) r3
 ·have e:i=ds.length:=by omega
  subst e
  exact .inl ⟨st 'l',k.nx ρ' σ' G' H' (fin ρ' w) (z0.trans z) r'⟩
variable {es:List Expr} {ks:List AK} {mr:MA} {x:Str} {p':Pos} {ow:List Bool}
def jS (ks:List AK) (sd:SpX) (m:MA):MEX:=fun xx ρ q=>m ρ fun ds ρ1=>match cL ks ds ρ1 with
 | some ds'=>sd ds' (fun d os=>q d (eC ks os ρ1)) fun c ns es os=>xx c ns es (eC ks os ρ1)
 | none=>False
end
section
variable {X:Cx} {M:Md} {e:Expr} {es:List Expr} {ks:List AK} {mr:MA} {x:Str} {pos p':Pos} {ow:List Bool} {mu:List Bool} {k:Nat} {f:Addr} {fd:FuncData} {ps:List Str} {sd:SpX}
theorem rM (F:FnOk X.prog X.w X.K X.mg X.base (CX1 X.prog X.w) k f fd ps (cZ mu false sd)) (hr:Room k X.A) (hg:Gl X x) (hm:X.mg x=some (.ref f)) (hk:PySem.W.keepIn X.K (.ref f)=true) (hb:cD X.K fd ps [])
 (ha:QAk X.nox ow ks (e :: es) mr) (hex:X.ex=[]:=by rfl) (hmu:mu=ks.map AK.isM:=by rfl) (nd:(aw ks).Nodup:=by decide) (hw:∀ i∈aw ks,ow[i]? = some true:=by decide) (hdb:'d'=false:=by decide)
 (he:starEach (e :: es) X.env='n' :: starEach es X.env:=by rfl) (hpl:'m'.any (·.1)=false:=by rfl):QXE X ow (.Call (.Name x p') (e :: es) [] pos) (jS ks sd mr):=by
 obtain ⟨t,p,s⟩:=ha
 subst hmu
 refine ⟨fun xk=>mH xk (cZ (ks.map AK.isM) false sd) t,fun E q xk g=>k8 (X:=X.tr E q) hex g.2 F hr hg hm hk hb (PA.any p) hdb he hpl,fun C G ρ σ H pd q Q xx xk r hm kx k=>s C G ρ σ H pd _ _ r hm fun ds ρ' vs T G' H' hq z kp r' p=>?_⟩
 split at hq
 ·rename_i ds' ef
  exact ji (fr:=false) r.np r' p ef nd hw hq (fun d ρ2 v G2 H2 hq2 z2 kp2 h2=>by
   rw [if_neg 'k'] at h2
   exact k d ρ2 v G2 H2 hq2 (z.trans z2) (kp.trans kp2) h2.1 h2.2) fun c ns es ρ2 dx G2 H2 hq2 z2 kp2 r2 x2=>kx.go c ns es ρ2 σ dx G2 H2 hq2 (z.trans z2) r2 x2
 ·exact hq.elim
theorem sD (F:FnOk X.prog X.w X.K X.mg X.base (CX1 X.prog X.w) k f fd ps (cZ mu true sd)) (hr:Room k X.A) (hg:Gl X x) (hm:X.mg x=some (.ref f)) (hk:PySem.W.keepIn X.K (.ref f)=true) (hb:cD X.K fd ps [])
 (ha:QAk X.nox ow ks (e :: es) mr) (hex:X.ex=[]:=by rfl) (hmu:mu=ks.map AK.isM:=by rfl) (nd:(aw ks).Nodup:=by decide) (hw:∀ i∈aw ks,ow[i]? = some true:=by decide) (hdb:'d'=false:=by decide)
 (he:starEach (e :: es) X.env='n' :: starEach es X.env:=by rfl) (hpl:'m'.any (·.1)=false:=by rfl):QXF X ow (.Call (.Name x p') (e :: es) [] pos) (jS ks sd mr):=by
 obtain ⟨t,p,s⟩:=ha
 subst hmu
 refine ⟨fun xk=>mH xk (cZ (ks.map AK.isM) true sd) t,fun E q xk g=>k8 (X:=X.tr E q) hex g.2 F hr hg hm hk hb (PA.any p) hdb he hpl,fun C G ρ σ H pd q Q xx xk r hm kx k=>s C G ρ σ H pd _ _ r hm fun ds ρ' vs T G' H' hq z kp r' p=>?_⟩
 split at hq
 ·rename_i ds' ef
  exact ji (fr:=true) r.np r' p ef nd hw hq (fun d ρ2 v G2 H2 hq2 z2 kp2 h2=>by
   rw [if_pos rfl] at h2
   exact k d ρ2 v G2 H2 hq2 (z.trans z2) (kp.trans kp2) h2) fun c ns es ρ2 dx G2 H2 hq2 z2 kp2 r2 x2=>kx.go c ns es ρ2 σ dx G2 H2 hq2 (z.trans z2) r2 x2
 ·exact hq.elim
end
theorem Fun.okX {P:Program} {w:World} {K:PySem.W.Frag} {mg:Str→Option Value} {base:Heap} {x qual:Str} {st:Stmt} {f:Addr} {fd:FuncData} {N ps:List Str} {k:Nat} {sp:Sp} (F:Fun K x qual st f fd) (S:FnScope N ps (ai st)) (len:∀ vs H Q E,sp vs H Q E→vs.length=ps.length)
 (hbody:∀ (cdv:Value) (A:Around) (outer:List Env) (s:Shared) (H:Hp) (vs:List V) (Q:VK) (E:XK),Room k (A.deeper (envOfC qual (ai st) s.heap.objs.size f cdv))→sp vs H Q E →
  ∃ t,PSs (iJ (CX1 P w) P w K mg base N qual (ai st) f cdv A outer s H E) (bU st) t∧t { nx:=fun _ H'=>Q .non H',rt:=Q } (de N vs) H):FnOk P w K mg base (CX1 P w) (k + 1) f fd ps sp:=by
 obtain ⟨oc,od,kV,doc,pm,an,cdv,ct,osl,rfl,lk,hcd⟩:=F.ex
 exact vK lk hcd S len fun A outer s H vs Q E hr hsp=>hbody cdv A outer s H vs Q E hr hsp
theorem fnX {P:Program} {w:World} {K:PySem.W.Frag} {mg:Str→Option Value} {base:Heap} {x qual:Str} {st:Stmt} {f:Addr} {fd:FuncData} {N ps:List Str} {k:Nat} (F:Fun K x qual st f fd) (S:FnScope N ps (ai st)) (M:Md) (sd:SpX)
 (hl:∀ ds q qx,sd ds q qx→ds.length=ps.length) (ho:M.ow.take ps.length=M.mu) (hml:M.mu.length=ps.length)
 (hbody:∀ (cdv:Value) (A:Around) (outer:List Env) (s:Shared) (H:Hp) (E:XK),Room k (A.deeper (envOfC qual (ai st) s.heap.objs.size f cdv)) →
  ∃ m,QXs (iJ (CX1 P w) P w K mg base N qual (ai st) f cdv A outer s H E) M (bU st) m∧∀ ds q qx,sd ds q qx→m (fun c ns es ρ=>qx c ns es (mus M.mu ρ)) (iN M.mu q) (ds.map some++List.replicate (N.length - ps.length) none)) :
 FnOk P w K mg base (CX1 P w) (k + 1) f fd ps (cZ M.mu M.fr sd):=by
 have hov:∀ i:Nat,i<M.mu.length→M.ow[i]? = M.mu[i]?:=fun i hi=>by rw [← ho,List.getElem?_take_of_lt 'a']
 have hlen:∀ vs H Q E,cZ M.mu M.fr sd vs H Q E→vs.length=ps.length:=fun vs H Q E ⟨C,G,ds,q,qx,_,_,⟨O,ro⟩,h1,_,_⟩=>by
  have:=ro.len; simp at this; rw [← this]; exact hl ds q qx h1
 refine F.okX S hlen fun cdv A outer s H vs Q E hr hsp=>?_
 obtain ⟨m,⟨t,p,ss⟩,hm⟩:=hbody cdv A outer s H E hr
 have hvl:=hlen vs H Q E hsp
 obtain ⟨C,G,ds,q,qx,hnp,hmu,⟨O,ro⟩,hsd,hml2,kk,kkx⟩:=hsp
 refine ⟨t (fun _=>E),p _ [] (fun _=>E) ⟨PassesOwn.leaving,xR⟩,?_⟩
 have hmo:fG C M.mu:=fun i v e=>by rw [hmu] at e; exact (kf e).1
 have r0:R C M.ow G (ds.map some++List.replicate (N.length - ps.length) none) (de N vs) H []:=by
  unfold de; rw [hvl]
  exact ⟨O,ro.grow _ fun i hi=>hov i 'a'⟩
 refine ss C G _ _ H (iN M.mu q) _ _ _ hmo hnp r0 (hm ds q qx hsd) ⟨?_,fun _ _ _ _ h=>h.elim,fun _ _ _ _ h=>h.elim,?_⟩ ⟨?_⟩
 ·intro ρ σ G' H' h z ⟨O',r'⟩
  refine kk .non (bY M.mu.length ρ) (bY M.mu.length σ) .non G' H' (by rw [b5]; exact h) z (b6 _ _) (R.non ⟨O',r'.trim hmo hov⟩)
 ·intro d ρ σ v G' H' h z hr'
  refine kk d (bY M.mu.length ρ) (bY M.mu.length σ) v G' H' (by rw [b5]; exact h) z (b6 _ _) ?_
  unfold Ret at hr' ⊢
  split at hr'
  ·rename_i c; rw [if_pos c]; obtain ⟨O',r'⟩:=hr'; exact ⟨O',r'.trim hmo hov⟩
  ·rename_i c; rw [if_neg c]; obtain ⟨⟨O',r'⟩,p⟩:=hr'; exact ⟨⟨O',r'.trim hmo hov⟩,p⟩
 ·intro c ns es ρ σ dx G' H' h z ⟨O',r'⟩ hx
  exact kkx c ns es (bY M.mu.length ρ) (bY M.mu.length σ) dx G' H' (by rw [b5]; exact h) z (b6 _ _) ⟨O',r'.trim hmo hov⟩ hx
def iL (c:Addr) (ns:List Str) (es:List D):D:=.ext fun H a=>∃ dx,H a=some (.ext (iI a (.ref c) dx))∧lI H ns es dx
def EndsD.unb (n:EndsD) (i:Nat):EndsD:={ nx:=fun ρ=>n.nx (ρ.set i none),rt:=fun d ρ=>n.rt d (ρ.set i none),bk:=fun ρ=>n.bk (ρ.set i none),ct:=fun ρ=>n.ct (ρ.set i none) }
theorem RO.gone {C:Ctx} {ow:List Bool} {G:Hp} {ρ:DSt} {σ:St} {H:Hp} {pd:List (D×V)} {O:Own} (h:RO C ow G ρ σ H pd O) (i:Nat) (hm:∀ v,C.mu[i]?≠some (some v)):RO C ow G (ρ.set i none) (σ.set i none) H pd O:=by
 refine ⟨by simpa using h.len,h.gh,h.g0,h.gn,h.og,h.cok,h.fr,h.al,fun j v e=>?_,fun j d e=>?_,h.pn,h.np⟩
 ·have:i≠j:=fun z=>by subst z; exact hm v e
  rw [List.getElem?_set_ne this]; exact h.mp j v e
 ·have:i≠j:=fun z=>by
   subst z
   rw [List.getElem?_set] at e
   split at e
   ·split at e <;> cases e
   ·rename_i c; exact c rfl
  rw [List.getElem?_set_ne this] at e ⊢
  exact h.sl j d e
def mTry (i:Nat) (ok:Value→Prop) (mb:MSX) (ms:Value→MS):MSX:=fun _ n ρ=>mb (fun c ns es ρ'=>ok (.ref c)∧∀ v,ms v (n.unb i) (ρ'.set i (some (iL c ns es)))) n ρ
theorem yg {X:Cx} {M:Md} {body:List Stmt} {b0:Stmt} {suite:List Stmt} {x n:Str} {i:Nat} {D0:Addr} {bmD:List Value} {iniD:Option Value} {np npos pos:Pos} {mb:MSX} {ms:Value→MS} (hN:X.N.Nodup) (hi:X.N[i]? = some n) (hl:X.env.kindOf n=some .local) (hg:Gl X x) (hm:X.mg x=some (.ref D0)) (hD:cf X.K D0 bmD iniD=true)
 (hb:QXs X M body mb) (hs:∀ v,QSs (X.hand v) M (b0 :: suite) (ms v)) (hst:X.stack=X.env :: X.outer:=by rfl) (hf:X.env.frame=some X.env.locals:=by rfl) (ho:M.ow[i]?≠some true:=by decide) (hu:M.mu[i]?≠some true:=by decide) (hdb:'d'=false:=by decide) :
 QX X M (.Try body [.ExceptHandler (some (.Name x np)) (some n) (b0 :: suite) npos] [] [] pos) (mTry i (gv X.K D0) mb ms):=by
 obtain ⟨tb,pb,sb⟩:=hb
 have hs':∀ ea:Addr,∃ t,PSs (X.hand (.ref ea)) (b0 :: suite) t∧SS M t (ms (.ref ea)):=fun ea=>(hs (.ref ea)).ex
 let ts:Addr→TS:=fun ea=>(hs' ea).choose
 have hts:∀ ea,PSs (X.hand (.ref ea)) (b0 :: suite) (ts ea)∧SS M (ts ea) (ms (.ref ea)):=fun ea=>(hs' ea).choose_spec
 refine ⟨fun _=>tTry i (gv X.K D0) tb ts,fun E q xk g=>vN (X:=X.tr E q) hst hf hN hi hl hg hm hD (fun E' p' xk' h1 h2=>?_) (fun ea=>?_) hdb,fun C G ρ σ H n D xx xk hm hn r h k kx=>?_⟩
 ·have e:(X.tr E q).tr E' p'=X.tr E' (q++p'):=by
   show ({ X with xe:=E',pn:=(X.pn++q)++p' }:Cx) = { X with xe:=E',pn:=X.pn++(q++p') }
   rw [List.append_assoc]
  rw [e] at h2 ⊢
  exact pb E' (q++p') xk' ⟨h1,h2⟩
 ·refine ⟨fun pins s σ H D I hw=>?_⟩
  have I':Inv (X.hand (.ref ea)) (q++pins) σ H s:=⟨{ I.ok with },I.os,I.bare,I.base,I.loc,I.cell,I.free,I.freeC,fun z hz=>I.pin z (by simpa using hz),I.hok,I.len⟩
  refine wpAny_mono ((hts ea).1 (q++pins) s σ H D I' hw) (fun f s' z=>?_) fun _ _ z=>False.elim z
  have back:∀ {σ' H'},Inv (X.hand (.ref ea)) (q++pins) σ' H' s'→Inv ((X.tr E q).hand (.ref ea)) pins σ' H' s':=fun {σ' H'} J=>⟨{ J.ok with },J.os,J.bare,J.base,J.loc,J.cell,J.free,J.freeC,fun z hz=>J.pin z (by simpa using hz),J.hok,J.len⟩
  cases f with
  | next=>obtain ⟨σ',H',J,q⟩:=z; exact ⟨σ',H',back J,q⟩
  | brk=>obtain ⟨σ',H',J,q⟩:=z; exact ⟨σ',H',back J,q⟩
  | cont=>obtain ⟨σ',H',J,q⟩:=z; exact ⟨σ',H',back J,q⟩
  | ret u=>obtain ⟨v,σ',H',J,r,q⟩:=z; exact ⟨v,σ',H',back J,r,q⟩
 ·refine sb C G ρ σ H n D _ _ hm hn r h k ⟨fun c ns es ρ' σ' dx G' H' hq z r' hx=>⟨hq.1,fun ea hea=>?_⟩⟩
  obtain ⟨O,ro⟩:=r'
  obtain ⟨ro2,z2⟩:=ro.new hea (.ext (iI ea (.ref c) dx))
  have rep:Rep (upd G' ea (.ext (iI ea (.ref c) dx))) (iL c ns es) (.ref ea):=by
   unfold iL
   rw [Rep]
   exact ⟨ea,_,rfl,az.refl _,dx,by simp [upd],hx.mono z2⟩
  refine (hts ea).2 C _ _ _ _ (n.unb i) (D.unb i) hm hn ⟨O,ro2.setS ho (hm.no hu) rep⟩ (hq.2 (.ref ea)) ⟨?_,?_,?_,?_⟩
  ·intro ρ3 σ3 G3 H3 h3 z3 ⟨O3,r3⟩; exact k.nx _ _ G3 H3 h3 (z.trans (z2.trans z3)) ⟨O3,r3.gone i (hm.no hu)⟩
  ·intro ρ3 σ3 G3 H3 h3 z3 ⟨O3,r3⟩; exact k.bk _ _ G3 H3 h3 (z.trans (z2.trans z3)) ⟨O3,r3.gone i (hm.no hu)⟩
  ·intro ρ3 σ3 G3 H3 h3 z3 ⟨O3,r3⟩; exact k.ct _ _ G3 H3 h3 (z.trans (z2.trans z3)) ⟨O3,r3.gone i (hm.no hu)⟩
  ·intro d ρ3 σ3 v G3 H3 h3 z3 r3
   refine k.rt d (ρ3.set i none) (σ3.set i none) v G3 H3 h3 (z.trans (z2.trans z3)) ?_
   unfold Ret at r3 ⊢
   split at r3
   ·rename_i c; rw [if_pos c]; obtain ⟨O3,r3⟩:=r3; exact ⟨O3,r3.gone i (hm.no hu)⟩
   ·rename_i c; rw [if_neg c]; obtain ⟨⟨O3,r3⟩,p⟩:=r3; exact ⟨⟨O3,r3.gone i (hm.no hu)⟩,p⟩
end L2
namespace L2
open PySem PySem.Spec PyProof.Rows PySem.W Builtin.ObjectAttr
section
variable {prog:Program} {w:World} {A:Around} {E:Value→Shared→Prop} {s:Shared} {K:PySem.W.Frag} {x D:Addr} {ox:Obj} {od:Option Obj} {name:Str} {bm:List Value} {ini:Option Value} {tk:Tok}
theorem p8 {M:Model} {nameV:Value} {Q:Unit→Shared→Prop} (I:PySem.W.InstAt s.heap x ox D od) (hC:mX s.heap D bm ini) (hq:Q () s):wpAny M A (checkBuiltinCall "BaseException.__getattribute__" ⟨[.ref x,nameV],[]⟩) Q E s:=by
 obtain ⟨N,nm,q,bs,hdct,sn,sub,ab,col,dd,k0,k1,k2,k3,k5,mN,hC,hN,hni,T⟩:=hC
 obtain ⟨h,g,d,t,os⟩:=s
 have hx:=I.at_
 have hc:=I.cls
 have hk:builtinKind "BaseException.__getattribute__" = some .slot:=by decide +kernel
 have hsplit:splitId "BaseException.__getattribute__" = some ("BaseException","__getattribute__"):=by decide +kernel
 have hcB:(Value.ref D :: bm).contains (.type "BaseException")=true:=by rw [List.contains_cons,gI T,Bool.or_true]
 have ha:=PySem.F.args_bexc_ga (.ref x) nameV
 simp only [checkBuiltinCall,hk,hsplit]
 refine wpAny_bind ?_
 ·unfold isInstance
  repeat (first | (with_reducible refine wpAny_loadPart_at hx ?_; rw [hc]) | (with_reducible refine wpAny_isSubtype_exc hC ?_; rw [hcB]) | wp_step)
  exact hq
theorem rz {g a:Value} {Q:Fin→Shared→Prop} (X:K.In s.heap) (I:PySem.W.InstAt s.heap x ox D od) (hf:PySem.W.findObj K D od name=some (.bind g a)) (h:wpAny 's' A (call g [a,.ref x,.ref D]) (fun v s'=>Q (.done (.ret v)) s') E s) :
 wpAny 's' A (Builtin.«object.__getattribute__» ⟨[.ref x,.str name tk],[]⟩) Q E s:=by
 have L0:=I.type (M:=model prog w)
 have L1:=PySem.W.looks_find (M:=model prog w) X I hf
 refine wpAny_bind (wpAny_pure (wpAny_bind (wpAny_pure (wpAny_bind (L0.at (wpAny_bind (L1.at ?_)))))))
 show wpAny _ _ (bindTo g a (.ref x) (.ref D)) _ _ _
 unfold bindTo
 exact wpAny_bind (wpAny_holding (wpAny_mono h (fun v s' z=>wpAny_pure z) fun _ _ z=>z))
theorem xQ {fill expr:Bool} {Q:Value→Shared→Prop} (X:K.In s.heap) (I:PySem.W.InstAt s.heap x ox D od) (hC:mX s.heap D bm ini) (hga:PySem.W.findIn K (.ref D) "__getattribute__" = some (some (.builtin "BaseException.__getattribute__")))
 (hgn:PySem.W.findIn K (.ref D) "__getattr__" = some none)
 (h:wpAny 's' A.in1 (Builtin.«object.__getattribute__» ⟨[.ref x,.str name tk],[]⟩) (fun fin s'=>match fin with | .done (.ret v)=>wpAny 's' A (handedOut v) Q E s' | _=>False) (fun _ _=>False) s) :
 wpAny 's' A (getAttrBy (.ref x) (.str name tk) fill expr) Q E s:=by
 obtain ⟨hh,g,d,t,os⟩:=s
 have L0:=I.type (M:=model prog w)
 have L1:=PySem.W.looks_findIn (M:=model prog w) X hga
 have L2:=PySem.W.looks_findIn (M:=model prog w) X hgn
 have f3:=PySem.F.attr_ValueError.ga.bind (.ref x)
 unfold getAttrBy
 refine wpAny_holding (wpAny_bind (L0.at (wpAny_bind (L1.at ?_))))
 show wpAny _ _ (if (true&&(Value.builtin "BaseException.__getattribute__" == Value.builtin "object.__getattribute__"))=true then _ else getAttrByItsOwn _ _ _ _ _ _) _ _ _
 rw [if_neg 'q']
 unfold getAttrByItsOwn
 show wpAny _ _ (typeLookup (.ref D) "__getattr__" >>= _) _ _ _
 refine wpAny_bind (L2.at (wpAny_bind (wpAny_attempt (wpAny_holding ?_))))
 unfold callGetattribute
 rw [if_neg (by cases expr <;> decide)]
 unfold boundAndCalled
 rw [f3]
 refine wpAny_bind (wpAny_pure (wpAny_call (codeAny_call_builtin PySem.F.attr_ValueError.ga.plain PySem.F.entry_bexc_ga (p8 I hC ?_))))
 refine wpAny_mono h (fun fin s' z=>?_) fun _ _ z=>z.elim
 rcases fin with (_ | _ | _ | _) | _ <;> first | exact z | exact z.elim
theorem pW {Q:Option Value→Shared→Prop} (X:K.In s.heap) (I:PySem.W.InstAt s.heap x ox D od) (hC:mX s.heap D bm ini) (hga:PySem.W.findIn K (.ref D) "__getattribute__" = some (some (.builtin "BaseException.__getattribute__")))
 (hgn:PySem.W.findIn K (.ref D) "__getattr__" = some none) (hf:PySem.W.findObj K D od "__class__" = some (.bind (.builtin "getset_descriptor.__get__") (.builtin "object.__class__"))) (hm:PySem.W.mroIn K D (.type "object")=some true)
 (h:Q (some (.ref D)) { s with toks:=s.toks + 1 }):wpAny 's' A (getAttr? (.ref x) "__class__") Q E s:=by
 unfold getAttr?
 refine wpAny_bind (wpAny_mkText ?_)
 unfold getAttrBy?
 refine wpAny_bind (wpAny_attempt ?_)
 refine xQ (s:={ s with toks:=s.toks + 1 }) X I hC hga hgn (rz (s:={ s with toks:=s.toks + 1 }) X I hf ?_)
 exact wpAny_call (PySem.W.class_get (s:={ s with toks:=s.toks + 1 }) X I hm (PySem.W.handed_on rfl (wpAny_pure h)))
def eA (K:PySem.W.Frag) (D:Addr):Bool:=PySem.W.findIn K (.ref D) "__getattribute__" == some (some (.builtin "BaseException.__getattribute__"))&&PySem.W.findIn K (.ref D) "__getattr__" == some none &&
 PySem.W.findIn K (.ref D) "__class__" == some (some (.builtin "object.__class__"))&&PySem.W.specialIn K (.builtin "object.__class__") "__get__" == some (some (.builtin "getset_descriptor.__get__"))&&PySem.W.takesIn K (.builtin "object.__class__") == some true &&
 PySem.W.mroIn K D (.type "object") == some true&&PySem.W.hasDictIn K D
theorem kT (q:eA K D=true) (hq:cf K D bm ini=true):PySem.W.KitX K (.ref x) (.ref D) (fun h=>∃ ox od,PySem.W.InstAt h x ox D od):=by
 simp only [eA,Bool.and_eq_true,beq_iff_eq] at q
 obtain ⟨⟨⟨⟨⟨⟨q1,q2⟩,q3⟩,q4⟩,q5⟩,q6⟩,q7⟩:=q
 obtain ⟨cdD,hcD,_⟩:=PySem.W.any_some q7
 refine ⟨fun _ _ _ ⟨ox,od,I⟩=>I.type,fun _ _ X _=>?_,fun h tp dd its n sl X htp=>?_,fun {_ _ _ _ _ s} X ⟨ox,od,I⟩ k=>?_⟩
 ·unfold PySem.W.clsIn at hcD
  split at hcD
  ·rename_i c' d' cd' sl' ho
   intro A' Q' E' s' k q
   unfold isType loadHead
   exact wpAny_bind (wpAny_loadPart (k _ _ (X _ _ ho)) (wpAny_pure q))
  ·cases hcD
 ·refine Bool.eq_false_iff.mpr fun q=>?_
  have e:D=tp:=Value.ref.inj (beq_iff_eq.mp q)
  subst e
  unfold PySem.W.clsIn at hcD
  split at hcD
  ·rename_i c' d' cd' sl' ho
   have z:=(X _ _ ho).symm.trans htp
   cases z
  ·cases hcD
 ·refine pW X I (d6 X hq) q1 q2 ?_ q6 k
  unfold PySem.W.findObj
  rw [hcD,q3]
  simp only [Option.bind_some,q4,q5]
end
end L2
namespace L2
open PySem PySem.Spec PyProof.Rows
section
variable {X:Cx}
theorem lm {pins:List 'h'} {σ:St} {H:Hp} {s:Shared} {a:Addr} {C:Addr} {dx:Option Addr} {ns:List Str} {es:List D} (I:Inv X pins σ H s) (h:H a=some (.ext (iI a (.ref C) dx))) (hx:lI H ns es dx):∃ ox od,PySem.W.InstAt s.heap a ox C od:=by
 obtain ⟨⟨vs,sl,q⟩,_,_⟩:=(show aP X.prog X.w H s.heap a (.ext (iI a (.ref C) dx)) from I.hok a _ h)
 cases dx with
 | none=>exact ⟨_,none,q,rfl,rfl,trivial⟩
 | some d =>
  obtain ⟨xs,h1,_,_⟩:=hx
  obtain ⟨u,z⟩:=(I.hok d _ h1).here
  exact ⟨_,some u,q,rfl,rfl,z⟩
def IsX (K:PySem.W.Frag) (c:Value) (d:D) (b:Bool):Prop:=(∃ C ns es bm ini,d=iL C ns es∧cf K C bm ini=true∧eA K C=true∧PySem.W.kitOne K (.ref C) c=some b)∨(d.isS=false∧PySem.W.kitOne K (.type d.ty) c=some b)
def rIsX (K:PySem.W.Frag) (c:V) (cv:Value):List V→Hp→VK→Prop:=fun xs H Q=>∃ x d b,xs=[x,c]∧Rep H d x∧IsX K cv d b∧Q (.bl b) H
theorem qI {c:V} {cv:Value} (hc:∀ u,aT c u→u=cv):cj X (.builtin "isinstance") (rIsX X.K c cv):=by
 intro pins s σ H xs us Q I r h
 obtain ⟨x,d,b,rfl,hd,e,q⟩:=h
 obtain ⟨u,w',rfl,ru,rw'⟩:=hX r
 obtain rfl:=hc _ rw'
 have fin:∀ tk,EP X pins σ Q (.bool b) { s with toks:=tk }:=fun tk=>⟨.bl b,H,I.tok tk,rfl,q⟩
 rcases e with ⟨C,ns,es,bm,ini,rfl,h1,h2,h3⟩ | ⟨hs,e⟩
 ·unfold iL at hd
  rw [Rep] at hd
  obtain ⟨a,H0,rfl,z,dx,h4,h5⟩:=hd
  cases (show u=Value.ref a from ru)
  exact PySem.W.kia_one (kT h2 h1) I.kIn (lm I (z _ _ h4) (h5.mono z)) h3 (fun z=>nomatch z) fin
 ·exact jy I ru (hd.ty hs) e fin
variable {ow:List Bool} {a:Expr} {ma:ME} {pos:Pos}
def mIsX (K:PySem.W.Frag) (c:Value) (m:ME):ME:=fun ρ q=>m ρ fun d ρ'=>∃ b,IsX K c d b∧q (.bl b) ρ'
theorem mE {c:V} {cv:Value} {x y:Str} {p1 p2:Pos} (hc:∀ u,aT c u→u=cv) (hg:Gl X x) (hm:X.mg x=none) (hv:bootBuiltins x=some (.builtin "isinstance")) (ha:QE X ow a ma) (ht:PE X (.Name y p2) (tC c))
 (hn:x ≠ "__name__":=by decide) (hdb:'d'=false:=by decide)
 (hs:starEach [.Name y p2] X.env=[(false,eval (.Name y p2) X.env)]:=by rfl)
 (he:starEach [a,.Name y p2] X.env=(false,eval a X.env) :: starEach [.Name y p2] X.env:=by rfl) (hpl:(backTo pos (starEach [.Name y p2] X.env)).any (·.1)=false:=by rfl) :
 QE X ow (.Call (.Name x p1) [a,.Name y p2] [] pos) (mIsX X.K cv ma):=by
 obtain ⟨t,p,s⟩:=ha
 refine ⟨_,eK (qI hc) hg hm hv (aX p (aX ht bI hs) he) hn hdb he hpl,fun C G ρ σ H pd q Q r hm k=>s C G ρ σ H pd _ _ r hm fun d ρ' v G' H' hq s kp r' p=>?_⟩
 obtain ⟨b,h1,h2⟩:=hq
 exact ⟨v,d,b,rfl,Rep.mono r'.gh _ _ p,h1,k _ ρ' _ G' H' h2 s kp r' (bN _)⟩
theorem sR {C:Addr}:∀ u,aT (.ref C) u→u = .ref C:=fun _ h=>h
theorem relTy {T:String}:∀ u,aT (.ty T) u→u = .type T:=fun _ h=>h
end
section
variable {K:PySem.W.Frag} {C a N:Addr} {dd nd:Option Addr} {nm qn:Str} {bs bm sub:List Value} {hd ab:Bool} {sn:List Str} {col:Option Bool} {k0 k1 k2 k3 k5 ini:Option Value} {no:Value} {es:Array DictEntry} {np:Nat} {nl:Array (Option Value)} {sl:Array (Option Value)} {oc:Value} {cd:ClassData}
theorem il:PySem.W.tailIn K bmV bmV=true:=by unfold PySem.W.tailIn; simp
theorem io (n:K.lookup N=some ⟨no,nd,.dict es np,nl⟩) (q:(es.all fun e=>match e.key with | .str _ _=>true | _=>false)=true):PySem.W.nsOkIn K N=true:=by unfold PySem.W.nsOkIn; rw [n]; exact q
theorem t5 (l:K.lookup a=some ⟨oc,dd,.cls cd,sl⟩) (n:PySem.W.nsOkIn K cd.ns=true) (t:PySem.W.nsIn K cd.ns "__init__" = some none) (r:PySem.W.tailIn K bmV bm=true):PySem.W.tailIn K bmV (.ref a :: bm)=true:=by
 unfold PySem.W.tailIn
 simp only [l,n,t,r,beq_self_eq_true,Bool.and_self,Bool.or_true]
theorem xc_mk (l:K.lookup C=some ⟨.type "type",dd,.cls ⟨nm,bs,.ref C :: bm,N,qn,hd,sn,sub,ab,col,false⟩,#[k0,k1,k2,k3,some (.builtin "ValueError.__new__"),k5]⟩) (n:PySem.W.nsOkIn K N=true) (t:PySem.W.nsIn K N "__init__" = some ini)
 (r:PySem.W.tailIn K bmV bm=true):cf K C bm ini=true:=by
 unfold cf
 simp only [l,n,t,r,beq_self_eq_true,Bool.not_false,Bool.and_self]
theorem lq {t:Value}:PySem.W.kitOne K t t=some true:=by unfold PySem.W.kitOne; simp
theorem tG {t:Value} {b:Bool} (l:K.lookup a=some ⟨oc,dd,.cls cd,sl⟩) (y:PySem.W.typeIn K (.ref a)=some (.type "type")) (s:PySem.W.subIn K t (.ref a)=some b) (ne:b=true∨(t == .ref a)=false):PySem.W.kitOne K t (.ref a)=some b:=by
 have c:PySem.W.kitCls K t (.ref a)=some b:=by
  unfold PySem.W.kitCls PySem.W.clsIn
  simp only [l,y,Option.isSome_some,beq_self_eq_true,Bool.and_self,if_true,s]
 unfold PySem.W.kitOne
 rw [c]
 rcases ne with rfl | ne
 ·split <;> rfl
 ·rw [ne]; rfl
theorem kh {t:Value} (s:PySem.W.subIn K t (.type "ValueError")=some true):PySem.W.kitOne K t (.type "ValueError")=some true:=by
 have c:PySem.W.kitCls K t (.type "ValueError")=some true:=by
  unfold PySem.W.kitCls
  show (if PySem.W.kitMeta "ValueError" = true then _ else _)=_
  rw [if_pos 'q',s]
 unfold PySem.W.kitOne
 rw [c]
 split <;> rfl
theorem kB (g:PySem.W.findIn K (.ref C) "__getattribute__" = some (some (.builtin "BaseException.__getattribute__"))) (h:PySem.W.findIn K (.ref C) "__getattr__" = some none) (c:PySem.W.findIn K (.ref C) "__class__" = some (some (.builtin "object.__class__")))
 (s:PySem.W.specialIn K (.builtin "object.__class__") "__get__" = some (some (.builtin "getset_descriptor.__get__"))) (t:PySem.W.takesIn K (.builtin "object.__class__")=some true) (m:PySem.W.mroIn K C (.type "object")=some true) (d:PySem.W.hasDictIn K C=true):eA K C=true:=by
 unfold eA
 simp only [g,h,c,s,t,m,d,beq_self_eq_true,Bool.and_self]
theorem jg:bootBuiltins "ValueError" = some (.type "ValueError"):=by decide +kernel
end
theorem fnT {P:Program} {w:World} {K:PySem.W.Frag} {mg:Str→Option Value} {base:Heap} {x qual:Str} {st:Stmt} {f:Addr} {fd:FuncData} {N ps:List Str} {k:Nat} (F:Fun K x qual st f fd) (S:FnScope N ps (ai st)) (M:Md) (sd:SpD)
 (hl:∀ ds q,sd ds q→ds.length=ps.length) (ho:M.ow.take ps.length=M.mu) (hml:M.mu.length=ps.length)
 (hbody:∀ (cdv:Value) (A:Around) (outer:List Env) (s:Shared) (H:Hp) (E:XK),Room k (A.deeper (envOfC qual (ai st) s.heap.objs.size f cdv)) →
  ∃ m,QXs (iJ CX0 P w K mg base N qual (ai st) f cdv A outer s H E) M (bU st) m∧∀ ds q,sd ds q→m (fun _ _ _ _=>False) (iN M.mu q) (ds.map some++List.replicate (N.length - ps.length) none)) :
 FnOk P w K mg base CX0 (k + 1) f fd ps (bj M.mu M.fr sd):=by
 refine fnD F S M sd hl ho hml fun cdv A outer s H E hr=>?_
 obtain ⟨m,⟨t,p,ss⟩,hm⟩:=hbody cdv A outer s H E hr
 refine ⟨m fun _ _ _ _=>False,⟨t fun _ _ _ _=>False,p (fun _ _=>False) [] (fun _ _ _ _=>False) ⟨PassesOwn.never,⟨fun _ _ _ _ _ _ _ _ _ z=>z.elim⟩⟩,fun C G ρ σ H n D hm hn r h k=>ss C G ρ σ H n D _ _ hm hn r h k ⟨fun _ _ _ _ _ _ _ _ z=>z.elim⟩⟩,hm⟩
theorem xg {X:Cx} {M:Md} {st:Stmt} {m:MSX} (h:QX X M st m):QX X M st (fun xx=>mCut (m xx)):=by
 obtain ⟨t,p,s⟩:=h
 refine ⟨t,p,fun C G ρ σ H n D xx xk hm hn r h k kx=>?_⟩
 obtain ⟨I,h1,h2⟩:=h
 exact s C G ρ σ H _ D xx xk hm hn r h1 ⟨fun ρ' σ' G' H' a b c=>k.nx ρ' σ' G' H' (h2 ρ' a) b c,k.bk,k.ct,k.rt⟩ kx
section
variable {X:Cx}
theorem p7 {pins:List 'h'} {σ:St} {H:Hp} {s:Shared} {A:Around} {E:Value→Shared→Prop} {Q:Value→Shared→Prop} {d:D} {x:V} {u:Value} {tp:Addr} {dd:Option Addr} {its:List Value} {n:Nat} {sl:Array (Option Value)} {b:Bool}
 (I:Inv X pins σ H s) (hd:Rep H d x) (ru:aT x u) (hs:d.isS=false) (htp:s.heap.get? tp=some ⟨.type "tuple",dd,.seq its.toArray n,sl⟩) (e:PySem.W.kitAny X.K (.type d.ty) its=some b) (h:∀ tk,Q (.bool b) { s with toks:=tk }) :
 wpAny 'b' A (call (.builtin "isinstance") [u,.ref tp]) Q E s:=by
 cases d with
 | non=>rw [Rep] at hd; subst hd; cases (show u=Value.none from ru); exact PySem.W.kia_tup PySem.W.kitx_none I.kIn True.intro htp e (fun z=>nomatch z) h
 | bl y=>rw [Rep] at hd; subst hd; cases (show u=Value.bool y from ru); exact PySem.W.kia_tup PySem.W.kitx_bool I.kIn True.intro htp e (fun z=>nomatch z) h
 | int i=>rw [Rep] at hd; subst hd; obtain ⟨t,q⟩:=(show ∃ t,u=Value.int i t from ru); cases q; exact PySem.W.kia_tup PySem.W.kitx_int I.kIn True.intro htp e (fun z=>nomatch z) h
 | str y=>rw [Rep] at hd; subst hd; obtain ⟨t,q⟩:=(show ∃ t,u=Value.str y t from ru); cases q; exact PySem.W.kia_tup PySem.W.kitx_str I.kIn True.intro htp e (fun z=>nomatch z) h
 | tup ds =>
  rw [Rep] at hd; obtain ⟨a,xs,rfl,ea,_⟩:=hd
  cases (show u=Value.ref a from ru)
  obtain ⟨_,_,_,o,h1,h2,_⟩:=(show aP X.prog X.w H s.heap a (.tup xs) from I.hok a _ ea)
  exact PySem.W.kia_tup PySem.W.kitx_tuple I.kIn ⟨o,h1,h2⟩ htp e (fun z=>nomatch z) h
 | lst ds =>
  rw [Rep] at hd; obtain ⟨a,xs,rfl,ea,_⟩:=hd
  cases (show u=Value.ref a from ru)
  obtain ⟨_,_,n,_,h1⟩:=(show aP X.prog X.w H s.heap a 'p' from I.hok a _ ea)
  exact PySem.W.kia_tup PySem.W.kitx_list I.kIn ⟨_,h1,rfl⟩ htp e (fun z=>nomatch z) h
 | dct =>
  rw [Rep] at hd; obtain ⟨a,kvs,rfl,ea⟩:=hd
  cases (show u=Value.ref a from ru)
  obtain ⟨_,_,vs,_,o,es,ep,h1,h2,_⟩:=(show aP X.prog X.w H s.heap a (.dK kvs) from I.hok a _ ea)
  exact PySem.W.kia_tup PySem.W.kitx_dict I.kIn ⟨o,h1,h2.1⟩ htp e (fun z=>nomatch z) h
 | dic ks ds =>
  rw [Rep] at hd; obtain ⟨a,xs,rfl,ea,_⟩:=hd
  cases (show u=Value.ref a from ru)
  obtain ⟨_,_,vs,_,o,es,ep,h1,h2,_⟩:=(show aP X.prog X.w H s.heap a (.dK (ks.zip xs)) from I.hok a _ ea)
  exact PySem.W.kia_tup PySem.W.kitx_dict I.kIn ⟨o,h1,h2.1⟩ htp e (fun z=>nomatch z) h
 | scr φ ns=>cases hs
 | ext φ=>cases hs
def IsXs (K:PySem.W.Frag) (cs:List Addr) (d:D) (b:Bool):Prop:=(∃ C ns es bm ini,d=iL C ns es∧cf K C bm ini=true∧eA K C=true∧PySem.W.kitAny K (.ref C) (cs.map .ref)=some b)∨(d.isS=false∧PySem.W.kitAny K (.type d.ty) (cs.map .ref)=some b)
def rIsXs (K:PySem.W.Frag) (cs:List Addr):List V→Hp→VK→Prop:=fun xs H Q=>∃ x d b tp,xs=[x,.ref tp]∧H tp=some (.tup (cs.map .ref))∧Rep H d x∧IsXs K cs d b∧Q (.bl b) H
theorem jj:∀ {cs:List Addr} {us:List Value},aM (cs.map V.ref) us→us=cs.map Value.ref
 | [],us,h=>by cases h; rfl
 | c :: cs,us,h=>by
  cases h with
  | cons r t=>cases (show _=Value.ref c from r); rw [jj t]; rfl
theorem pT {cs:List Addr}:cj X (.builtin "isinstance") (rIsXs X.K cs):=by
 intro pins s σ H xs us Q I r h
 obtain ⟨x,d,b,tp,rfl,ht,hd,e,q⟩:=h
 obtain ⟨u,w',rfl,ru,rw'⟩:=hX r
 cases (show w'=Value.ref tp from rw')
 obtain ⟨_,its,rv,o,h1,h2,n,h3⟩:=(show aP X.prog X.w H s.heap tp (.tup (cs.map .ref)) from I.hok tp _ ht)
 obtain rfl:=jj rv
 obtain ⟨oc,od,oda,sl⟩:=o
 cases h2; cases h3
 have fin:∀ tk,EP X pins σ Q (.bool b) { s with toks:=tk }:=fun tk=>⟨.bl b,H,I.tok tk,rfl,q⟩
 rcases e with ⟨C,ns,es,bm,ini,rfl,g1,g2,g3⟩ | ⟨hs,e⟩
 ·unfold iL at hd
  rw [Rep] at hd
  obtain ⟨a,H0,rfl,z,dx,h4,h5⟩:=hd
  cases (show u=Value.ref a from ru)
  exact PySem.W.kia_tup (kT g2 g1) I.kIn (lm I (z _ _ h4) (h5.mono z)) h1 g3 (fun z=>nomatch z) fin
 ·exact p7 I hd ru hs h1 e fin
def oV (cs:List Addr):TA:=fun _ H Q=>Q (cs.map .ref) H
theorem o5:PA X [] (oV []):=bI
theorem cY {c:Addr} {cs:List Addr} {y:Str} {p:Pos} {es:List Expr} (hg:Gl X y) (hm:X.mg y=some (.ref c)) (h:PA X es (oV cs)) (hd:(y == ("__debug__":Str))=false:=by decide) (hs:starEach (.Name y p :: es) X.env=(false,eval (.Name y p) X.env) :: starEach es X.env:=by rfl) :
 PA X (.Name y p :: es) (oV (c :: cs)):=aX (fX (v:=.ref c) hg hm rfl hd) h hs
variable {ow:List Bool} {a:Expr} {ma:ME} {pos:Pos}
def mIsXs (K:PySem.W.Frag) (cs:List Addr) (m:ME):ME:=fun ρ q=>m ρ fun d ρ'=>∃ b,IsXs K cs d b∧q (.bl b) ρ'
theorem ol {cs:List Addr} {x:Str} {p1 p2:Pos} {k2} {names:List Expr} (hg:Gl X x) (hm:X.mg x=none) (hv:bootBuiltins x=some (.builtin "isinstance")) (ha:QE X ow a ma) (ht:PA X names (oV cs)) (hz:cs.length≤sizeLine:=by simp [sizeLine])
 (hn:x ≠ "__name__":=by decide) (hdb:'d'=false:=by decide)
 (hs:starEach [.Tuple names k2 p2] X.env=[(false,eval (.Tuple names k2 p2) X.env)]:=by rfl)
 (he:starEach [a,.Tuple names k2 p2] X.env=(false,eval a X.env) :: starEach [.Tuple names k2 p2] X.env:=by rfl) (hpl:(backTo pos (starEach [.Tuple names k2 p2] X.env)).any (·.1)=false:=by rfl) :
 QE X ow (.Call (.Name x p1) [a,.Tuple names k2 p2] [] pos) (mIsXs X.K cs ma):=by
 obtain ⟨t,p,s⟩:=ha
 refine ⟨_,eK (pT (cs:=cs)) hg hm hv (aX p (aX (mP ht) bI hs) he) hn hdb he hpl,fun C G ρ σ H pd q Q r hm k=>s C G ρ σ H pd _ _ r hm fun d ρ' v G' H' hq s kp r' p=>?_⟩
 obtain ⟨b,h1,h2⟩:=hq
 refine ⟨by rw [List.length_map]; exact hz,fun tp hp=>?_⟩
 obtain ⟨O,ro⟩:=r'
 obtain ⟨ro2,z2⟩:=ro.new hp (.tup (cs.map .ref))
 refine ⟨v,d,b,tp,rfl,by simp [upd],Rep.mono (fun b o q=>ro2.gh b o (z2 b o q)) _ _ p,h1,?_⟩
 exact k _ ρ' _ _ _ h2 (s.trans z2) kp ⟨O,ro2⟩ (bN _)
end
section
variable {K:PySem.W.Frag} {t c:Value} {cs:List Value} {b:Bool}
theorem fL:PySem.W.kitAny K t []=some false:=rfl
theorem bo (h:PySem.W.kitOne K t c=some false) (r:PySem.W.kitAny K t cs=some b):PySem.W.kitAny K t (c :: cs)=some b:=by unfold PySem.W.kitAny; rw [h]; exact r
end
section
variable {prog:Program} {w:World} {A:Around} {E:Value→Shared→Prop} {h:Heap} {g:Array GenState} {d:Drawn} {t:Nat} {os:OsState}
variable {nm q:Str} {C N:Addr} {bs bm:List Value} {hdct:Bool} {sn:List Str} {sub:List Value} {ab:Bool} {col:Option Bool} {dd:Option Addr} {k0 k1 k2 k3 k5:Option Value}
theorem jh (T:OwnTail h bmV bm) {mN:Str→Option Value} {rest:List Value} {fI:Addr} {oI:Obj} {Q:Fin→Shared→Prop}
 (hC:h.get? C=some (excClassObj nm q C N bs bm hdct sn sub ab col dd k0 k1 k2 k3 k5 "ValueError.__new__")) (hn:h.Ns N mN) (hi:mN "__init__" = some (.ref fI)) (hfI:h.get? fI=some oI) (hfc:oI.cls = .type "function")
 (hq:∀ h' e,h.objs.size≤e→Heap.MadeExcOf h h' e (.ref C) rest→wpAny 's' A (call (.ref fI) (.ref e :: rest)) (fun r s'=>r = .none∧Q (.done (.ret (.ref e))) s') E ⟨h',g,d,t,os⟩) (hrest:rest.length≤sizeLine) :
 wpAny 's' A (Builtin.«type.__call__» ⟨.ref C :: rest,[]⟩) Q E ⟨h,g,d,t,os⟩:=by
 have F:=PySem.F.excBase_ValueError
 repeat (first | with_reducible refine wpAny_loadPart_at hC ?_ | with_reducible refine wpAny_madeBy_exc hC ?_ | wp_step)
 refine codeAny_call_builtin_code (Code.quiet_builtin _ F.quiet) (wpAny_check_new_subT F T hC (codeAny_exc_new_subT F T hC ?_ hrest))
 show wpAny _ _ _ _ _ _
 generalize ho1:({ cls:=.type "tuple",data:=.seq rest.toArray }:Obj)=o1
 generalize ho2:({ cls:=.ref C,data:=.fields #[.ref h.objs.size,.none,.none,.none,.bool false,.none] }:Obj)=o2
 have keep:∀ b o,h.get? b=some o→((h.push o1).push o2).get? b=some o:=fun b o z=>Heap.get?_push_of_some _ (Heap.get?_push_of_some _ z)
 have hC₁:=keep _ _ hC
 have hfI₁:=keep _ _ hfI
 have hn₁:((h.push o1).push o2).Ns N mN:=hn.keeps keep
 have T₁:=T.keeps keep
 have hf2:o2.isFreed=false:=by rw [← ho2]; rfl
 have hf1:o1.isFreed=false:=by rw [← ho1]; rfl
 have hget:((h.push o1).push o2).get? (h.objs.size + 1)=some o2:=Heap.get?_push_at (by rw [Heap.size_push]) hf2
 have hcls:o2.cls = .ref C:=by rw [← ho2]
 have hcC:(Value.ref C :: bm).contains (.ref C)=true:=by simp
 unfold isInstance
 repeat (first | (with_reducible refine wpAny_loadPart_at hget ?_; rw [hcls]) | (with_reducible refine wpAny_isSubtype_exc hC₁ ?_; rw [hcC]) | wp_step)
 show wpAny _ _ (typeLookup (.ref C) _) _ _ _
 refine wpAny_typeLookup_tail hC₁ hn₁ T₁ F.mroIs F.init.lookup ?_
 rw [hi]
 refine wpAny_holding (wpAny_bind ?_)
 unfold bindSpecial
 refine wpAny_bind (wpAny_typeOf (T:="function") ⟨_,hfI₁,hfc⟩ ?_)
 rw [if_pos 'k']
 refine wpAny_pure (wpAny_bind (wpAny_mono (hq _ (h.objs.size + 1) (Nat.le_succ _) ⟨keep,Heap.get?_none_of_le (Nat.le_succ _),h.objs.size,by rw [hget,ho2],Heap.get?_none_of_le 'l',?_⟩) (fun r s' hr=>?_) fun _ _ x=>x))
 ·rw [ho1]; exact Heap.get?_push_of_some _ (Heap.get?_push_at rfl hf1)
 ·obtain ⟨rfl,hQ⟩:=hr
  wp_walk
  exact hQ
theorem pU (T:OwnTail h bmV bm) {mN:Str→Option Value} {rest:List Value} {fI:Addr} {oI:Obj} {Q:Value→Shared→Prop}
 (hC:h.get? C=some (excClassObj nm q C N bs bm hdct sn sub ab col dd k0 k1 k2 k3 k5 "ValueError.__new__")) (hn:h.Ns N mN) (hi:mN "__init__" = some (.ref fI)) (hfI:h.get? fI=some oI) (hfc:oI.cls = .type "function")
 (hq:∀ h' e,h.objs.size≤e→Heap.MadeExcOf h h' e (.ref C) rest→wpAny 's' (A.under (.builtin "type.__call__" ⟨.ref C :: rest,[]⟩)) (call (.ref fI) (.ref e :: rest)) (fun r s'=>r = .none∧Q (.ref e) s') E ⟨h',g,d,t,os⟩) (hrest:rest.length≤sizeLine) :
 wpAny 's' A (call (.ref C) rest) Q E ⟨h,g,d,t,os⟩:=by
 have f1:=tc_lookup
 have f2:=tc_bind (.ref C)
 have hT:(⟨h,g,d,t,os⟩:Shared).TypeIs (.ref C) "type":=⟨_,hC,rfl⟩
 refine wpAny_call (codeAny_of_tree ?_)
 show wpAny _ _ (callAny (.ref C) _) _ _ _
 repeat (any_goals (first | assumption | with_reducible refine wpAny_loadPart_at hC ?_ | wp_step))
 refine ⟨rfl,?_⟩
 refine codeAny_call_builtin_at (Code.quiet_builtin _ 'q') entry_typeCall (wpAny_check_type_call_sub hC (jh T hC hn hi hfI hfc (fun h' e hz hm=>?_) hrest))
 exact hq h' e hz hm
end
section
variable {prog:Program} {w:World} {A:Around} {E:Value→Shared→Prop} {h:Heap} {g:Array GenState} {d:Drawn} {t:Nat} {os:OsState}
variable {nm q:Str} {C N:Addr} {bs bm:List Value} {hdct:Bool} {sn:List Str} {sub:List Value} {ab:Bool} {col:Option Bool} {dd:Option Addr} {k0 k1 k2 k3 k5:Option Value}
theorem pK (T:OwnTail h bmV bm) {rest:List Value} {e:Addr} {oe:Obj} {vs:Array Value} {Q:Value→Shared→Prop}
 (hC:h.get? C=some (excClassObj nm q C N bs bm hdct sn sub ab col dd k0 k1 k2 k3 k5 "ValueError.__new__")) (he:h.get? e=some oe) (hcls:oe.cls = .ref C) (hd:oe.data = .fields vs) {x0:Value} (hx0:vs[0]? = some x0)
 (hq:Q .none ⟨(h.push { cls:=.type "tuple",data:=.seq rest.toArray }).update e (Obj.mapFields (·.setIfInBounds 0 (Value.ref h.objs.size))),g,d,t,os⟩) (hrest:rest.length≤sizeLine) :
 wpAny 's' A (call (.builtin "ValueError.__init__") (.ref e :: rest)) Q E ⟨h,g,d,t,os⟩:=by
 have F:=PySem.F.excBase_ValueError
 have h0 : 0<vs.size:=(Array.getElem?_eq_some_iff.mp hx0).1
 have he1:=Heap.get?_push_of_some { cls:=.type "tuple",data:=.seq rest.toArray } he
 refine wpAny_call (codeAny_call_builtin F.init.plain F.initEntry (wpAny_check_init_subT F T hC he hcls ?_))
 repeat (first | with_reducible refine wpAny_field he1 hd hx0 ?_ | with_reducible refine wpAny_setField he1 hd h0 ?_ | wp_step)
 cases x0 <;> (repeat wp_step) <;> exact hq
end
end L2
namespace L2
open PySem PySem.Spec PyProof.Rows PySem.W Builtin.ObjectAttr Builtin
theorem lA {h:Heap} {bm:List Value} (T:OwnTail h bmV bm) (self:Value):refuseLoop self "__setattr__" bm=pure ():=by
 induction T with
 | base=>exact PySem.F.store_ValueError.passes self
 | own _ _ _ _ ih=>exact (refuseLoop_ref self "__setattr__" _ _).trans ih
section
variable {prog:Program} {w:World} {A:Around} {E:Value→Shared→Prop} {s:Shared} {K:PySem.W.Frag} {x C:Addr} {ox:Obj} {od:Option Obj} {name:Str} {bm:List Value} {ini:Option Value} {v:Value}
theorem ya (q:cf K C bm ini=true):∃ cd,clsIn K C=some cd∧cd.mro = .ref C :: bm:=by
 unfold cf at q
 split at q
 ·rename_i dd cd sl ho
  split at q
  ·rename_i C' bm' k0 k1 k2 k3 n k5 hm hs
   simp only [Bool.and_eq_true,beq_iff_eq] at q
   obtain ⟨⟨⟨⟨⟨⟨rfl,_⟩,_⟩,rfl⟩,_⟩,_⟩,_⟩:=q
   exact ⟨cd,by unfold clsIn; rw [ho],hm⟩
  ·cases q
 ·cases q
def mS (K:PySem.W.Frag) (C:Addr) (name:Str):Prop:=findIn K (.ref C) "__setattr__" = some (some (.builtin "object.__setattr__"))∧findIn K (.ref C) name=some none
theorem oz {tk:Tok} {R:Result→Shared→Prop} (X:K.In s.heap) (I:InstAt s.heap x ox C od) (hc:cf K C bm ini=true) (hm:mroIn K C (.type "object")=some true) (ha:findIn K (.ref C) name=some none)
 (h:wpAny 's' A.in1 (storeInOwnDict (.ref x) (.ref C) (.str name tk) name v false) (fun fin s'=>match fin with | .done f=>R (.ok f) s' | .again c'=>c'.quiet=true∧codeAny 's' A c' R s') (fun e s'=>R (.error e) s') s) :
 codeAny 's' A (.call (.builtin "object.__setattr__") ⟨[.ref x,.str name tk,v],[]⟩) R s:=by
 have F:=PySem.F.store_object
 obtain ⟨cd,hcd,hmro⟩:=ya hc
 obtain ⟨N,nm,q,bs,hdct,sn,sub,ab,col,dd,k0,k1,k2,k3,k5,mN,hC,hN,hni,T⟩:=d6 X hc
 have L1:Looks 's' s.heap (isInstance (.ref x) (.type "object")) true:=I.type.andThen (looks_mroIn X hm)
 have L2:Looks 's' s.heap (mroOf (.ref C)) cd.mro:=(looks_clsIn X hcd).andThen .now
 refine codeAny_call_builtin F.slot.plain F.entry ?_
 refine check_slot (i:="object.__setattr__") (owner:="object") (n:="__setattr__") F.kind F.split L1 (F.args _ _ _) ?_
 rw [osa_eq,refuse_eq]
 refine wpAny_bind (wpAny_bind (I.type.here (wpAny_bind (L2.here ?_))))
 rw [hmro,refuseLoop_ref,lA T]
 refine wpAny_pure (wpAny_bind (I.type.here ?_))
 refine wpAny_bind ((looks_findIn X ha).here (wpAny_bind ?_))
 exact wpAny_pure h
theorem hasD (hd:hasDictIn K C=true):∃ cd,clsIn K C=some cd∧cd.hasDict=true:=any_some hd
theorem xset1 {d0:Addr} {mA:Str→Option Value} {ns:List Str} {Q:Unit→Shared→Prop} {vs:Array Value} {sl:Array (Option Value)} (X:K.In s.heap) (hx:s.heap.get? x=some ⟨.ref C,some d0,.fields vs,sl⟩) (hn:s.heap.Ns1 d0 mA) (hne:d0≠x)
 (hc:cf K C bm ini=true) (ho:eA K C=true) (hs:mS K C name) (hw:PySem.Within mA ns) (hz:ns.length≤100)
 (h:∀ h' tk',h'.Ns1 d0 (fun y=>if y=name then some v else mA y)→Heap.SameBut d0 s.heap h'→Q () { s with heap:=h',toks:=tk' }):wpAny 's' A (setAttr (.ref x) name v) Q E s:=by
 obtain ⟨o,es,ep,e1,e2⟩:=id hn
 have J:InstAt s.heap x ⟨.ref C,some d0,.fields vs,sl⟩ C (some o):=⟨hx,rfl,rfl,e1⟩
 simp only [eA,Bool.and_eq_true,beq_iff_eq] at ho
 obtain ⟨cd,hcd,hd'⟩:=hasD ho.2
 refine set_plain X J hs.1 (oz (s:={ s with toks:=s.toks + 1 }) X J hc ho.1.2 hs.2 ?_)
 refine wpAny_bind (wpAny_pure (wpAny_bind (wpAny_bind (wpAny_loadPart hx (wpAny_bind (Looks.here (s:={ s with toks:=s.toks + 1 }) (looks_clsIn X hcd) ?_))))))
 rw [hd']
 refine wpAny_pure (a:=some d0) (wpAny_bind (wpAny_pure (wpAny_bind ?_)))
 refine wpAny_nsSet1 (s:={ s with toks:=s.toks + 1 }) hn fun h' hn2 hs2=>?_
 obtain ⟨oD,esD,epD,hoD,hdD,hcD⟩:=hn2.count (Within.cons name v hw)
 refine wpAny_bind (wpAny_lookBehind hoD ?_ ?_)
 ·rw [hdD]; exact pastItsLine_dict (Nat.le_trans hcD (by rw [List.length_cons,sizeLine_eq]; omega))
 ·exact wpAny_pure (h h' _ hn2 hs2)
theorem xset0 {Q:Unit→Shared→Prop} {vs:Array Value} {sl:Array (Option Value)} (X:K.In s.heap) (hx:s.heap.get? x=some ⟨.ref C,none,.fields vs,sl⟩)
 (hc:cf K C bm ini=true) (ho:eA K C=true) (hs:mS K C name)
 (h:∀ h' tk',h'.Ns1 s.heap.objs.size (fun y=>if y=name then some v else none)→h'.get? x=some ⟨.ref C,some s.heap.objs.size,.fields vs,sl⟩→(∀ b o,b≠x→s.heap.get? b=some o→h'.get? b=some o)→Q () { s with heap:=h',toks:=tk' }) :
 wpAny 's' A (setAttr (.ref x) name v) Q E s:=by
 have J:InstAt s.heap x ⟨.ref C,none,.fields vs,sl⟩ C none:=⟨hx,rfl,rfl,trivial⟩
 simp only [eA,Bool.and_eq_true,beq_iff_eq] at ho
 obtain ⟨cd,hcd,hd'⟩:=hasD ho.2
 refine set_plain X J hs.1 (oz (s:={ s with toks:=s.toks + 1 }) X J hc ho.1.2 hs.2 ?_)
 refine wpAny_bind (wpAny_pure (wpAny_bind (wpAny_bind (wpAny_loadPart hx (wpAny_bind (Looks.here (s:={ s with toks:=s.toks + 1 }) (looks_clsIn X hcd) ?_))))))
 rw [hd']
 show wpAny _ _ (do let d ← alloc ({ cls:=.type "dict",data:=.dict #[] }:Obj); update x (fun o=>{ o with dict:=some d }); pure (some d)) _ _ _
 generalize hO:({ cls:=.type "dict",data:=.dict #[] }:Obj)=O
 have hOf:O.isFreed=false:=by rw [← hO]; rfl
 have hx1:(s.heap.push O).get? x=some ⟨.ref C,none,.fields vs,sl⟩:=Heap.get?_push_of_some _ hx
 have hne:s.heap.objs.size≠x:=Nat.ne_of_gt (Heap.lt_size hx)
 generalize hU:(fun o:Obj=>{ o with dict:=some s.heap.objs.size })=U
 have hx2:((s.heap.push O).update x U).get? x=some ⟨.ref C,some s.heap.objs.size,.fields vs,sl⟩:=by
  have z:=Heap.get?_update_self U hx1 (by rw [← hU]; rfl)
  rw [z,← hU]
 have hd2:((s.heap.push O).update x U).get? s.heap.objs.size=some O:=(Heap.get?_update_other _ _ (Ne.symm hne)).trans (Heap.get?_push_size _ hOf)
 have hn:((s.heap.push O).update x U).Ns s.heap.objs.size (fun _=>none):=⟨O,#[],_,hd2,by rw [← hO],fun e he=>absurd he (by simp),fun _=>rfl⟩
 refine wpAny_bind (wpAny_alloc' ?_)
 refine wpAny_bind (wpAny_update' hx1 ?_)
 refine wpAny_pure ?_
 show wpAny _ _ (storeInDict s.heap.objs.size (.str name s.toks) name v) _ _ _
 rw [hU]
 refine wpAny_bind (wpAny_pure (wpAny_bind ?_))
 refine wpAny_nsSet1 (s:={ s with heap:=(s.heap.push O).update x U,toks:=s.toks + 1 }) (Heap.Ns1.of_empty hn) fun h' hn2 hs2=>?_
 obtain ⟨oD,esD,epD,hoD,hdD,hcD⟩:=hn2.count (Within.cons name v Within.nil)
 refine wpAny_bind (wpAny_lookBehind hoD ?_ ?_)
 ·rw [hdD]; exact pastItsLine_dict (Nat.le_trans hcD (by rw [List.length_cons,List.length_nil,sizeLine_eq]; omega))
 ·refine wpAny_pure (h h' _ hn2 ((hs2.2 x (Ne.symm hne)).trans hx2) fun b o hb q=>?_)
  have hbs:b≠s.heap.objs.size:=Nat.ne_of_lt (Heap.lt_size q)
  exact (hs2.2 b hbs).trans ((Heap.get?_update_other _ _ (Ne.symm hb)).trans (Heap.get?_push_of_some _ q))
end
end L2
namespace L2
open PySem PySem.Spec PyProof.Rows
def b3 (e:Addr) (cls:Value) (dx:Option Addr):Heap→Prop:=fun h=>∃ (vs:Array Value) (sl:Array (Option Value)),h.get? e=some ⟨cls,dx,.fields vs,sl⟩∧(∃ x0,vs[0]? = some x0)∧vs[1]? = some .none
def xdφ (d:Addr) (fs:List (Str×V)):Heap→Prop:=fun h=>∃ mA,h.Ns1 d mA∧(∀ f,h9 (fs.lookup f) (mA f))∧∃ ns,PySem.Within mA ns∧ns.length≤fs.length
theorem b3.st {e:Addr} {cls:Value} {dx:Option Addr} {h1 h2:Heap} (q:b3 e cls dx h1) (k:∀ o,h1.get? e=some o→h2.get? e=some o):b3 e cls dx h2:=by
 obtain ⟨vs,sl,a,b⟩:=q; exact ⟨vs,sl,k _ a,b⟩
theorem xdφ.st {d:Addr} {fs:List (Str×V)} {h1 h2:Heap} (q:xdφ d fs h1) (k:∀ o,h1.get? d=some o→h2.get? d=some o):xdφ d fs h2:=by
 obtain ⟨mA,a,b⟩:=q; exact ⟨mA,a.at k,b⟩
theorem b3.ok {P:Program} {w:World} {H:Hp} {e:Addr} {cls:Value} {dx:Option Addr} {h:Heap} (q:b3 e cls dx h):aP P w H h e (.ext (b3 e cls dx)):=⟨q,⟨_,q.choose_spec.choose_spec.1⟩,fun _ _ a b=>a.st b⟩
theorem xdφ.ok {P:Program} {w:World} {H:Hp} {d:Addr} {fs:List (Str×V)} {h:Heap} (q:xdφ d fs h):aP P w H h d (.ext (xdφ d fs)):=by
 obtain ⟨mA,⟨o,es,ep,e1,e2⟩,b⟩:=id q
 exact ⟨q,⟨_,e1⟩,fun _ _ a b=>a.st b⟩
def p0:V→Prop
 | .non=>True
 | .int i=>i.natAbs.log2<1920
 | .str x=>x.length≤1000
 | _=>False
def i3 (C:Addr) (ns:List Str):Sp:=fun vs H Q E=>∃ e xs,vs = .ref e :: xs∧xs.length=ns.length∧(∀ x∈xs,p0 x)∧H e=some (.ext (b3 e (.ref C) none)) ∧
 ∀ d,H d=none→Q .non (upd (upd H e (.ext (b3 e (.ref C) (some d)))) d (.ext (xdφ d (ns.zip xs))))
section
variable {X:Cx} {pins:List (Addr×Obj)} {σ:St} {H:Hp} {s:Shared} {e C fI:Addr} {bm:List Value}
theorem Inv.trackφ {φ:Heap→Prop} {o0:Obj} {vs:Array Value} (I:Inv X pins σ H s) (he:s.heap.get? e=some o0) (hd:o0.data = .fields vs) (o:Out X pins H e) (hφ:aP X.prog X.w (upd H e (.ext φ)) s.heap e (.ext φ)):Inv X pins σ (upd H e (.ext φ)) s:=by
 have ne:∀ b u,H b=some u→b≠e:=fun b u q z=>by rw [z,o.unt] at q; cases q
 have up:∀ b,b≠e→upd H e (.ext φ) b=H b:=fun b z=>ah z
 have old:∀ b ob,X.s₀.heap.get? b=some ob→b≠e:=fun b ob q z=>by rw [z,o.new] at q; cases q
 have nf:=I.fieldsNot he hd
 refine ⟨I.ok,I.os,I.bare,⟨I.base.keep,I.base.slot,fun b ob q n hx=>(up b (old b ob q)).trans (I.base.free b ob q n hx),I.base.there,fun b xs q=>?_,fun b ob u q=>?_,fun b ps q=>?_⟩,I.loc,I.cell,
  (up _ (Ne.symm nf.1)).trans I.free,fun x c q=>(up _ (nf.2 x c q)).trans (I.freeC x c q),fun q hq=>?_,fun b u q=>?_,I.len⟩
 ·have z:=I.base.tups b xs q; exact (up b (ne b _ z)).trans z
 ·have z:=I.base.frzs b ob u q; exact (up b (ne b _ z)).trans z
 ·obtain ⟨m,z⟩:=I.base.tbls b ps q; exact ⟨m,(up b (ne b _ z)).trans z⟩
 ·obtain ⟨a1,a2,a3⟩:=I.pin q hq; exact ⟨a1,(up _ (o.pin q hq)).trans a2,a3⟩
 ·by_cases hb:b=e
  ·subst hb; rw [ao] at q; cases q; exact hφ
  ·rw [up b hb] at q
   exact (I.hok b u q).stay (fun _ _ _ z=>z) (fun c z=>(up c (ne c _ z)).trans z) fun c xs z=>(up c (ne c _ z)).trans z
theorem rP {k:Nat} {fd:FuncData} {ps ns:List Str} {Q:Value→Shared→Prop} {us:List Value} {vs:List V} (F:FnOk X.prog X.w X.K X.mg X.base CX0 k fI fd ps (i3 C ns)) (hr:Room (k + 1) X.A) (hb:cD X.K fd ps [])
 (hc:cf X.K C bm (some (.ref fI))=true) (hf:PySem.W.typeIn X.K (.ref fI)=some (.type "function")) (hex:X.ex=[]) (hps:ps.length=ns.length + 1) (hsz:ns.length≤sizeLine) (I:Inv X pins σ H s) (r:aM vs us) (hl:vs.length=ns.length) (hv:∀ x∈vs,p0 x)
 (h:∀ ea d s',Inv X pins σ (upd H d (.xd (ns.zip vs))) s'→H d=none→FlyO s'.heap ea (.ref C) (some d) none→Out X pins (upd H d (.xd (ns.zip vs))) ea→Q (.ref ea) s') :
 wpAny 'b' X.A (call (.ref C) us) Q X.xe s:=by
 obtain ⟨N,nm,q,bs,hdct,sn,sub,ab,col,dd,k0,k1,k2,k3,k5,mN,hC,hN,hni,T⟩:=d6 I.kIn hc
 obtain ⟨oI,hoI,hcl⟩:∃ o,X.K.lookup fI=some o∧o.cls = .type "function":=by
  unfold PySem.W.typeIn at hf
  exact Option.map_eq_some_iff.mp hf
 obtain ⟨h0,g0,d0,t0,os0⟩:=s
 refine pU T hC hN hni (I.kIn _ _ hoI) hcl (fun h' e hz m=>?_) (by rw [← r.length,hl]; exact hsz)
 have I1:Inv X pins σ H ⟨h',g0,d0,t0,os0⟩:=I.kept (t':=t0) m.keeps
 have hno:H e=none:=I.hok.no m.new
 have oe:Out X pins H e:=⟨I.old hex m.new,hno,I.pinNo m.new⟩
 obtain ⟨tt,ht,_,_⟩:=m.there
 have ψ0:b3 e (.ref C) none h':=⟨_,_,ht,⟨_,rfl⟩,rfl⟩
 have I2:=I1.trackφ (φ:=b3 e (.ref C) none) ht rfl oe ψ0.ok
 have r2:aM (V.ref e :: vs) (Value.ref e :: us):=.cons rfl r
 have hlen:(Value.ref e :: us).length=ps.length:=by rw [List.length_cons,hps,← r.length,hl]
 have bnd:=hb ⟨h',g0,d0,t0,os0⟩ (Value.ref e :: us) I2.kIn (by rw [List.append_nil]; exact hlen)
 rw [List.append_nil] at bnd
 have run:=F.run _ X.stack ⟨h',g0,d0,t0,os0⟩ _ ⟨Value.ref e :: us,[]⟩ (Value.ref e :: us) (V.ref e :: vs)
  (fun v H'=>v = .non∧∃ d,upd H e (.ext (b3 e (.ref C) none)) d=none∧H'=upd (upd (upd H e (.ext (b3 e (.ref C) none))) e (.ext (b3 e (.ref C) (some d)))) d (.ext (xdφ d (ns.zip vs)))) E0
  (hr.make C us []) (I2.env0.make C us []) bnd r2 ⟨e,vs,rfl,hl,hv,ao,fun d hd=>⟨rfl,d,hd,rfl⟩⟩
 refine wpAny_call (codeAny_mono run fun rr s' hq'=>?_)
 cases rr with
 | error x=>exact hq'.elim
 | ok fl =>
  cases fl with
  | next=>exact False.elim hq'
  | brk=>exact False.elim hq'
  | cont=>exact False.elim hq'
  | ret u =>
   obtain ⟨v,H',hos,bare,un,hok,rv,rfl,d,hd,rfl⟩:=hq'
   have hde:d≠e:=fun z=>by rw [z,ao] at hd; cases hd
   have hHd:H d=none:=by rw [ah hde] at hd; exact hd
   refine ⟨rv,?_⟩
   rw [iu] at un hok
   generalize hHf:upd H d (.xd (ns.zip vs))=Hf
   have at':∀ b,b≠e→b≠d→upd (upd H e (.ext (b3 e (.ref C) (some d)))) d (.ext (xdφ d (ns.zip vs))) b=Hf b:=fun b h1 h2=>by rw [ah h2,ah h1,← hHf,ah h2]
   have atd:upd (upd H e (.ext (b3 e (.ref C) (some d)))) d (.ext (xdφ d (ns.zip vs))) d=some (.ext (xdφ d (ns.zip vs))):=ao
   have ate:upd (upd H e (.ext (b3 e (.ref C) (some d)))) d (.ext (xdφ d (ns.zip vs))) e=some (.ext (b3 e (.ref C) (some d))):=by rw [ah (Ne.symm hde),ao]
   have fe:Hf e=none:=by rw [← hHf,ah (Ne.symm hde)]; exact hno
   have hne:∀ b o,h0.get? b=some o→b≠e:=fun b o q z=>by rw [z,m.new] at q; cases q
   have hup:∀ b o,h0.get? b=some o→H b=none→upd H e (.ext (b3 e (.ref C) none)) b=none:=fun b o q n=>by rw [ah (hne b o q)]; exact n
   have un0:Un (frs X.stack) [] H Hf h0 s'.heap:={
    keep:=fun b o q n hn hx=>un.keep b o (m.keeps b o q) (hup b o q n) hn hx
    slot:=fun b o q n hn hx=>un.slot b o (m.keeps b o q) (hup b o q n) hn hx
    free:=fun b o q n hx=>by
     have z:=un.free b o (m.keeps b o q) (hup b o q n) hx
     have hbd:b≠d:=fun y=>by rw [y,atd] at z; cases z
     rw [← hHf,ah hbd]; exact n
    there:=fun b o q hx=>un.there b o (m.keeps b o q) hx
    tups:=fun b xs z=>by rw [← hHf,ah (ar z hHd)]; exact z
    frzs:=fun b o u z=>by rw [← hHf,ah (ar z hHd)]; exact z
    tbls:=fun b ps z=>⟨#[],by rw [← hHf,ah (ar z hHd),z]; simp⟩ }
   have hokf:HOk X.prog X.w Hf s'.heap:=fun a o q=>by
    by_cases had:a=d
    ·subst had
     rw [← hHf,ao] at q; cases q
     obtain ⟨⟨mA,z1,z2,z3⟩,_⟩:=(show aP X.prog X.w _ s'.heap a (.ext (xdφ a (ns.zip vs))) from hok a _ atd)
     exact ⟨mA,z1,z2⟩
    ·have hae:a≠e:=fun z=>by rw [z,fe] at q; cases q
     refine (hok a o ((at' a hae had).trans q)).stay (fun _ _ _ z=>z) (fun b z=>?_) fun b xs z=>?_
     ·have h1:b≠e:=fun y=>by rw [y,ate] at z; cases z
      have h2:b≠d:=fun y=>by rw [y,atd] at z; cases z
      rw [← at' b h1 h2]; exact z
     ·have h1:b≠e:=fun y=>by rw [y,ate] at z; cases z
      have h2:b≠d:=fun y=>by rw [y,atd] at z; cases z
      rw [← at' b h1 h2]; exact z
   have I3:Inv X pins σ Hf s':=I.call' hos un0 hokf bare (ch:=[]) fun b z=>absurd z (by simp)
   have hx:=h e d s'
   rw [hHf] at hx
   obtain ⟨⟨ws,sl,z1,_,z2⟩,_⟩:=(show aP X.prog X.w _ s'.heap e (.ext (b3 e (.ref C) (some d))) from hok e _ ate)
   exact hx I3 hHd ⟨⟨ws,sl,z1,z2⟩,fun t z=>by cases z⟩ ⟨oe.new,fe,oe.pin⟩
end
section
variable {prog:Program} {w:World} {A:Around} {E:Value→Shared→Prop} {s:Shared} {env:Env}
theorem nQ {x:Expr} {pos:Pos} {Q:Flow→Shared→Prop} (hh:A.handled=none)
 (h:wpAny 's' A (eval x env) (fun v s₁=>∃ e C bm ini dx,v = .ref e∧mX s₁.heap C bm ini∧kM s₁.heap e (.ref C) dx .none∧E v s₁) E s) :
 wpAny 's' A (exec (.Raise (some x) none pos) env) Q E s:=by
 rw [arm_exec_Raise]
 simp only [evalOpt,Option.map]
 refine wpAny_bind (wpAny_standAt ?_)
 unfold raiseStmt
 refine wpAny_bind (wpAny_bind (wpAny_mono h (fun v s₁ z=>wpAny_bind (wpAny_standAt (wpAny_pure ?_))) fun _ _ y=>y))
 obtain ⟨e,C,bm,ini,dx,rfl,⟨N,nm,q,bs,hdct,sn,sub,ab,col,dd,k0,k1,k2,k3,k5,mN,hC,hN,hni,T⟩,⟨vs,sl,he,h1⟩,hE⟩:=z
 obtain ⟨hp,g,d,tk,os⟩:=s₁
 have hcB:(Value.ref C :: bm).contains (.type "BaseException")=true:=by rw [List.contains_cons,gI T,Bool.or_true]
 have fl:∀ {α:Type} {k:Sem α} {Q : α→Shared→Prop},wpAny 's' A k Q E ⟨hp,g,d,tk,os⟩→wpAny 's' A (setFlight (.ref e) none >>= fun _=>k) Q E ⟨hp,g,d,tk,os⟩:=fun {α k Q} hk=>by
  unfold setFlight
  exact wpAny_bind (wpAny_bind (wpAny_field he rfl h1 (wpAny_pure hk)))
 repeat (first | with_reducible refine wpAny_loadPart_at he ?_ | with_reducible refine wpAny_loadPart_at hC ?_ | (with_reducible refine wpAny_isSubtype_exc hC ?_; rw [hcB]) | with_reducible refine fl ?_ | wp_step)
 exact wpAny_raiseNew_none hh hE
end
section
variable {X:Cx} {xk:XS} {x:Str} {C fI:Addr} {bm:List Value} {e:Expr} {args:List Expr} {np cpos pos:Pos} {t:TA} {k:Nat} {fd:FuncData} {ps ns:List Str}
def oX (xk:XS) (C:Addr) (ns:List Str) (t:TA):TS:=fun _ σ H=>t σ H fun vs H1=>vs.length=ns.length∧(∀ x∈vs,p0 x)∧∀ d,H1 d=none→xk σ (.ref C) (some d) (upd H1 d (.xd (ns.zip vs)))
theorem pf (hex:X.ex=[]) (hcalm:X.calm=true) (ac:Acc X xk) (F:FnOk X.prog X.w X.K X.mg X.base CX0 k fI fd ps (i3 C ns)) (hr:Room (k + 1) X.A) (hb:cD X.K fd ps []) (hc:cf X.K C bm (some (.ref fI))=true)
 (hf:PySem.W.typeIn X.K (.ref fI)=some (.type "function")) (hk:PySem.W.keepIn X.K (.ref C)=true) (hps:ps.length=ns.length + 1) (hsz:ns.length≤sizeLine) (hg:Gl X x) (hm:X.mg x=some (.ref C)) (ha:PA X (e :: args) t)
 (hdb:'d'=false:=by decide) (he:starEach (e :: args) X.env='n' :: starEach args X.env:=by rfl) (hpl:(backTo cpos (starEach args X.env)).any (·.1)=false:=by rfl) :
 PS X (.Raise (some (.Call (.Name x np) (e :: args) [] cpos)) none pos) (oX xk C ns t):=by
 refine ⟨fun pins s σ H D I h=>nQ (I.ok.hd hcalm) (wpAny_Call_Name_kw (fb I hg hm ?_ hdb))⟩
 refine PySem.W.callWith_K (h₀:=X.base) I.ok.mod.kin hk (thn (ha cpos pins s σ H _ I h) fun us s1 ⟨vs,H1,I1,r,hl,hv,q⟩=>⟨I1.kIn,?_⟩) he hpl
 refine rP F hr hb hc hf hex hps hsz I1 r hl hv fun ea d s' J hd fl oe=>?_
 exact ⟨ea,C,bm,_,some d,rfl,d6 J.kIn hc,fl.ex,ac.go pins σ _ s' ea (.ref C) (some d) J ⟨none,fl,oe,fun t z=>by cases z⟩ (q d hd)⟩
end
def ia:D→Prop
 | .non=>True
 | .int i=>i.natAbs.log2<1920
 | .str x=>x.length≤1000
 | _=>False
theorem ia.v {H:Hp} {d:D} {v:V} (h:ia d) (r:Rep H d v):p0 v:=by
 cases d with
 | non=>rw [Rep] at r; subst r; exact h
 | int i=>rw [Rep] at r; subst r; exact h
 | str x=>rw [Rep] at r; subst r; exact h
 | _=>exact h.elim
theorem lU {H:Hp}:∀ {ds:List D} {vs:List V},(∀ d∈ds,ia d)→Reps H ds vs→∀ v∈vs,p0 v
 | [],vs,_,r,v,hv=>by rw [Reps] at r; subst r; cases hv
 | d :: ds,vs,h,r,v,hv=>by
  rw [Reps] at r
  obtain ⟨w,ws,rfl,r1,r2⟩:=r
  rcases List.mem_cons.mp hv with rfl | hv
  ·exact (h d (by simp)).v r1
  ·exact lU (fun d' hd=>h d' (by simp [hd])) r2 v hv
section
variable {X:Cx} {M:Md} {e:Expr} {es:List Expr} {mr:MA} {x:Str} {pos:Pos} {k:Nat} {fd:FuncData} {ps ns:List Str}
def tY (c:Addr) (ns:List Str) (m:MA):MSX:=fun xx _ ρ=>m ρ fun ds ρ1=>ds.length=ns.length∧(∀ d∈ds,ia d)∧xx c ns ds ρ1
theorem dN {C fI:Addr} {bm:List Value} {np cpos:Pos} (F:FnOk X.prog X.w X.K X.mg X.base CX0 k fI fd ps (i3 C ns)) (hr:Room (k + 1) X.A) (hb:cD X.K fd ps []) (hc:cf X.K C bm (some (.ref fI))=true)
 (hf:PySem.W.typeIn X.K (.ref fI)=some (.type "function")) (hk:PySem.W.keepIn X.K (.ref C)=true) (hg:Gl X x) (hm:X.mg x=some (.ref C)) (ha:QA X.nox M.ow (e :: es) mr) (hps:ps.length=ns.length + 1:=by rfl) (hsz:ns.length≤sizeLine:=by simp [sizeLine]) (hcalm:X.calm=true:=by rfl) (hex:X.ex=[]:=by rfl)
 (hdb:'d'=false:=by decide) (he:starEach (e :: es) X.env='n' :: starEach es X.env:=by rfl) (hpl:(backTo cpos (starEach es X.env)).any (·.1)=false:=by rfl) :
 QX X M (.Raise (some (.Call (.Name x np) (e :: es) [] cpos)) none pos) (tY C ns mr):=by
 obtain ⟨t,p,s⟩:=ha
 refine ⟨fun xk=>oX xk C ns t,fun E q xk g=>pf (X:=X.tr E q) hex hcalm g.2 F hr hb hc hf hk hps hsz hg hm (PA.any p) hdb he hpl,fun C' G ρ σ H n D xx xk hm hn r h k kx=>s C' G ρ σ H [] _ _ r h fun ds ρ' vs G' H' hq z kp r' p' hl=>?_⟩
 obtain ⟨h1,h2,h3⟩:=hq
 have hvl:=p'.length
 refine ⟨by rw [hvl,h1],lU h2 p',fun d hd=>?_⟩
 obtain ⟨O,ro⟩:=r'
 obtain ⟨ro2,z2⟩:=ro.new hd (.xd (ns.zip vs))
 exact kx.go C ns ds ρ' σ (some d) _ _ h3 (z.trans z2) ⟨O,ro2⟩ ⟨vs,by simp [upd],by rw [hvl,h1],Reps.mono z2 _ _ p'⟩
end
structure PJ (X:Cx) (es:List Expr) (c:St→Prop):Prop where
 go:∀ (pins:List 'h') (s:Shared) (σ:St) (H:Hp) (acc:Str) (Q:Str→Shared→Prop),Inv X pins σ H s→c σ→acc.length + 2000 * es.length≤sizeLine →
  (∀ out s',Inv X pins σ H s'→out.length≤acc.length + 2000 * es.length→Q out s')→Joins 'b' X.A X.xe (evalEach es X.env) acc Q s
section
variable {X:Cx} {es:List Expr} {c:St→Prop}
theorem q9:PJ X [] (fun _=>True):=⟨fun pins s σ H acc Q I _ hz k=>k acc s I (Nat.le_add_right _ _)⟩
theorem oO {e:Expr} {c':St→Prop} (h:PJ X es c) (he:∀ (pins:List 'h') (s:Shared) (σ:St) (H:Hp) (Q:Value→Shared→Prop),Inv X pins σ H s→c' σ→(∀ y t s',Inv X pins σ H s'→y.length≤2000→Q (.str y t) s')→wpAny 'b' X.A (eval e X.env) Q X.xe s) :
 PJ X (e :: es) (fun σ=>c' σ∧c σ):=by
 refine ⟨fun pins s σ H acc Q I hc hz k=>?_⟩
 rw [List.length_cons] at hz k
 refine he pins s σ H _ I hc.1 fun y t s' I' hy=>⟨y,t,rfl,?_,?_⟩
 ·rw [strLen_append]; omega
 ·refine h.go pins s' σ H (acc++y) Q I' hc.2 (by rw [strLen_append]; omega) fun out s2 I2 ho=>k out s2 I2 ?_
  rw [strLen_append] at ho; omega
theorem mI {x:Str} {k:Nat} {p:Pos} (h:PJ X es c) (hx:x.length≤2000:=by decide):PJ X (.Constant (.str x) k p :: es) (fun σ=>True∧c σ) :=
 oO h fun pins s σ H Q I _ q=>thn (rJ.go pins s σ H (fun v H'=>v = .str x∧H'=H) I ⟨rfl,rfl⟩) fun u s1 ⟨v,H1,I1,r1,e1,e2⟩=>by
  subst e1 e2; obtain ⟨t,rfl⟩:=(show ∃ t,u=Value.str x t from r1); exact q x t s1 I1 hx
theorem nD {i:Nat} {x:Str} {np p:Pos} (hv:PE X (.Name x np) (tVar i)) (h:PJ X es c):PJ X (.FormattedValue (.Name x np) (-1) none p :: es) (fun σ=>(∃ v,σ[i]? = some (some v)∧p0 v)∧c σ) :=
 oO h fun pins s σ H Q I hc q=>by
  obtain ⟨v,h1,h2⟩:=hc
  refine wpAny_FormattedValue_plain (thn (hv.go pins s σ H (fun v' H'=>v'=v∧H'=H) I ⟨v,h1,rfl,rfl⟩) fun u s1 ⟨v1,H1,I1,r1,e1,e2⟩=>?_)
  subst e1 e2
  cases v1 with
  | non=>cases (show u=Value.none from r1); exact wpAny_formatField_none (q _ _ _ (I1.tok _) 'k')
  | int a=>obtain ⟨t,rfl⟩:=(show ∃ t,u=Value.int a t from r1); exact wpAny_formatField_int h2 (q _ _ _ (I1.tok _) (Nat.le_trans (PyProof.Rows.int_text_len_1921 h2) 'k'))
  | str y=>obtain ⟨t,rfl⟩:=(show ∃ t,u=Value.str y t from r1); exact wpAny_formatField_str (q _ _ _ I1 (Nat.le_trans h2 'k')) (q _ _ _ (I1.tok _) (Nat.le_trans h2 'k')) (Nat.le_trans h2 'k')
  | _=>exact h2.elim
def tJoin (c:St→Prop):TE:=fun σ H Q=>c σ∧∀ y:Str,Q (.str y) H
theorem nW {a b:Expr} {p:Pos} (h:PJ X (a :: b :: es) c) (hz:(a :: b :: es).length≤1000:=by decide):PE X (.JoinedStr (a :: b :: es) p) (tJoin c):=by
 refine ⟨fun pins s σ H Q I hq=>wpAny_JoinedStr (h.go pins s σ H _ _ I hq.1 ?_ fun out s' I' ho=>⟨?_,.str out,H,I'.tok _,⟨_,rfl⟩,hq.2 out⟩)⟩
 ·have:(Str.empty:Str).length=0:=rfl
  rw [sizeLine_eq]; omega
 ·have:(Str.empty:Str).length=0:=rfl
  rw [sizeLine_eq]; omega
end
structure BaseIn (K:PySem.W.Frag) (B:Addr):Prop where
 r:PySem.W.readsIn K B (.type "type")=true
 f:PySem.W.findCls K (.ref B) (.type "type") "__init__" = some (.val (.builtin "ValueError.__init__"))
 g:PySem.W.specialIn K (.ref B) "__getattribute__" = some (some (.builtin "type.__getattribute__"))
section
variable {X:Cx} {C B:Addr} {bm:List Value} {ini:Option Value} {x:Str} {a b:Expr} {np apos pos pos':Pos} {t:TA}
def vO (C:Addr) (t:TA):TE:=fun σ H Q=>t σ H fun vs H1=>∃ e y dx,vs=[.ref e,.str y]∧H1 e=some (.ext (b3 e (.ref C) dx))∧Q .non (upd H1 e (.ext (b3 e (.ref C) dx)))
theorem kS {pl:Sem Bool} (hB:BaseIn X.K B) (hc:cf X.K C bm ini=true) (hg:Gl X x) (hm:X.mg x=some (.ref B)) (ha:PA X [a,b] t) (hdb:'d'=false:=by decide)
 (he:starEach [a,b] X.env=(false,eval a X.env) :: starEach [b] X.env:=by rfl) (hpl:(backTo pos (starEach [b] X.env)).any (·.1)=false:=by rfl)
 (ht:eval (.Call (.Attribute (.Name x np) "__init__" apos) [a,b] [] pos) X.env=(do
  let ov ← eval (.Name x np) X.env
  standAt apos.atName
  let (f,first) ← holding [ov] (getMethod ov "__init__" pl)
  callWith pos f first (backTo pos (starEach [a,b] X.env)) (backToKw pos (keywordEach [] X.env))):=by rfl) :
 PE X (.Call (.Attribute (.Name x np) "__init__" apos) [a,b] [] pos) (vO C t):=by
 refine ⟨fun pins s σ H Q I h=>PySem.W.methodCall_KW (pl:=pl) (fb I hg hm ?_ hdb) ht⟩
 refine PySem.W.method_cls I.kIn hB.g (PySem.W.cls_value I.kIn hB.r hB.f rfl ?_)
 have I0:=I.tok (s.toks + 1)
 have hA:=ha pos pins _ σ H _ I0 h
 show wpAny _ _ (callWith pos (.builtin "ValueError.__init__") [] (backTo pos (starEach [a,b] X.env)) []) _ _ _
 rw [he] at hA ⊢
 refine Calls.callWith_builtin (by show (false||(backTo pos (starEach [b] X.env)).any (·.1))=false; rw [hpl] <;> rfl) (Calls.evalArgs_plain (thn hA fun us s2 ⟨vs,H2,I2,r2,e,y,dx,ev,hH,q⟩=>?_))
 subst ev
 obtain ⟨u1,u2,rfl,r3,r4⟩:=hX r2
 cases (show u1=Value.ref e from r3)
 obtain ⟨ty,rfl⟩:=(show ∃ t,u2=Value.str y t from r4)
 obtain ⟨⟨ws,sl,z1,⟨x0,z0⟩,z2⟩,_⟩:=(show aP X.prog X.w _ s2.heap e (.ext (b3 e (.ref C) dx)) from I2.hok e _ hH)
 obtain ⟨N,nm,q',bs,hdct,sn,sub,ab,col,dd,k0,k1,k2,k3,k5,mN,hC,hN,hni,T⟩:=d6 I2.kIn hc
 obtain ⟨h0,g0,d0,t0,os0⟩:=s2
 refine pK T hC z1 rfl rfl z0 ?_ (by simp [sizeLine])
 generalize hO:({ cls:=.type "tuple",data:=.seq ([Value.str y ty]:List Value).toArray }:Obj)=O
 have e1:=Heap.get?_push_of_some O z1
 have e2:=Heap.get?_update_self (Obj.mapFields (·.setIfInBounds 0 (Value.ref h0.objs.size))) e1 (Obj.isFreed_of_fields (Obj.data_mapFields rfl _))
 have h00 : 0<ws.size:=(Array.getElem?_eq_some_iff.mp z0).1
 have h01 : 1<ws.size:=(Array.getElem?_eq_some_iff.mp z2).1
 have ψ:b3 e (.ref C) dx ((h0.push O).update e (Obj.mapFields (·.setIfInBounds 0 (Value.ref h0.objs.size)))):=by
  refine ⟨ws.setIfInBounds 0 (Value.ref h0.objs.size),sl,e2,⟨_,by simp [h00]; rfl⟩,?_⟩
  rw [Array.getElem?_setIfInBounds_ne 'k']; exact z2
 exact ⟨.non,_,I2.write (x:=e) (e:=e) (t':=t0) (by rw [hH]; trivial) (.inl rfl) (fun b u hb z=>(Heap.get?_update_other _ _ (Ne.symm hb)).trans (Heap.get?_push_of_some _ z)) ⟨_,e2⟩ ψ.ok,rfl,q⟩
end
section
variable {X:Cx} {pins:List (Addr×Obj)} {σ:St} {H:Hp} {s:Shared} {h':Heap} {a:Addr} {oa od:HO}
theorem Inv.two {t':Nat} (I:Inv X pins σ H s) (mu:Mut (H a)) (k:∀ b o,b≠a→s.heap.get? b=some o→h'.get? b=some o) (heo:∃ u,h'.get? a=some u)
 (oka:aP X.prog X.w (upd (upd H a oa) s.heap.objs.size od) h' a oa) (okd:aP X.prog X.w (upd (upd H a oa) s.heap.objs.size od) h' s.heap.objs.size od) :
 Inv X pins σ (upd (upd H a oa) s.heap.objs.size od) { s with heap:=h',toks:=t' }:=by
 have hn:H s.heap.objs.size=none:=I.hok.fresh 'l'
 have up:∀ b,b≠a→b≠s.heap.objs.size→upd (upd H a oa) s.heap.objs.size od b=H b:=fun b h1 h2=>by rw [ah h2,ah h1]
 have na:∀ b,H b=none→b≠a:=fun b z y=>by rw [y] at z; rw [z] at mu; exact mu
 have lt:∀ b o,s.heap.get? b=some o→b≠s.heap.objs.size:=fun b o z=>Nat.ne_of_lt (Heap.lt_size z)
 have nd:∀ b u,H b=some u→b≠s.heap.objs.size:=fun b u z y=>by rw [y,hn] at z; cases z
 have nt:∀ b xs,H b=some (.tup xs)→b≠a:=fun b xs z y=>by rw [← y,z] at mu; exact mu
 have nf:∀ b o u,H b=some (.frz o u)→b≠a:=fun b o u z y=>by rw [← y,z] at mu; exact mu
 have ntb:∀ b ps,H b=some (.tbl ps)→b≠a:=fun b ps z y=>by rw [← y,z] at mu; exact mu
 have no:∀ b y,H b=some (.own y)→b≠a:=fun b y' z y=>by rw [← y,z] at mu; exact mu
 refine I.un (t':=t') {
  keep:=fun b o q n _ _=>k b o (na b n) q
  slot:=fun b o q n _ _=>⟨o.slots,k b o (na b n) q⟩
  free:=fun b o q n _=>(up b (na b n) (lt b o q)).trans n
  there:=fun b o q _=>by
   by_cases hb:b=a
   ·subst hb; exact heo
   ·exact ⟨o,k b o hb q⟩
  tups:=fun b xs z=>(up b (nt b xs z) (nd b _ z)).trans z
  frzs:=fun b o u z=>(up b (nf b o u z) (nd b _ z)).trans z
  tbls:=fun b ps z=>⟨#[],by rw [up b (ntb b ps z) (nd b _ z),z]; simp⟩ } fun b u q=>?_
 by_cases h1:b=s.heap.objs.size
 ·subst h1; rw [ao] at q; cases q; exact okd
 by_cases h2:b=a
 ·subst h2; rw [ah h1,ao] at q; cases q; exact oka
 rw [up b h2 h1] at q
 refine (I.hok b u q).stay (fun c v hc z=>k c v ?_ z) (fun c z=>(up c (no c _ z) (nd c _ z)).trans z) fun c xs z=>(up c (nt c _ z) (nd c _ z)).trans z
 rcases hc with rfl | hc
 ·exact h2
 ·exact no c _ hc
end
section
variable {X:Cx} {C:Addr} {bm:List Value} {ini:Option Value} {f:Str} {o value:Expr} {pos pos':Pos} {ta tv:TE}
def sX0 (C:Addr) (f:Str) (ta tv:TE):TS:=fun D σ H=>tv σ H fun y H1=>ta σ H1 fun x H2=>∃ a,x = .ref a∧H2 a=some (.ext (b3 a (.ref C) none)) ∧
 ∀ d,H2 d=none→D.nx σ (upd (upd H2 a (.ext (b3 a (.ref C) (some d)))) d (.ext (xdφ d [(f,y)])))
def sX1 (C:Addr) (f:Str) (ta tv:TE):TS:=fun D σ H=>tv σ H fun y H1=>ta σ H1 fun x H2=>∃ a d fs,x = .ref a∧H2 a=some (.ext (b3 a (.ref C) (some d)))∧H2 d=some (.ext (xdφ d fs))∧d≠a∧fs.length≤50∧fs.lookup f=none ∧
 D.nx σ (upd H2 d (.ext (xdφ d (fs++[(f,y)]))))
theorem gC (g:Str) (y:V):∀ {fs:List (Str×V)},fs.lookup f=none→(fs++[(f,y)]).lookup g=if g=f then some y else fs.lookup g
 | [],_=>by
  show List.lookup g [(f,y)]=_
  by_cases h:g=f
  ·have hb:(g == f)=true:=beq_iff_eq.mpr h
   simp only [List.lookup,hb,if_pos h]
  ·have hb:(g == f)=false:=beq_eq_false_iff_ne.mpr h
   simp only [List.lookup,hb,if_neg h]
 | (k,x) :: fs,h=>by
  show List.lookup g ((k,x) :: (fs++[(f,y)]))=_
  by_cases hk:f=k
  ·have hb:(f == k)=true:=beq_iff_eq.mpr hk
   simp only [List.lookup,hb] at h; cases h
  ·have hb:(f == k)=false:=beq_eq_false_iff_ne.mpr hk
   simp only [List.lookup,hb] at h
   have ih:=gC g y h
   by_cases hg:g=k
   ·have hb2:(g == k)=true:=beq_iff_eq.mpr hg
    simp only [List.lookup,hb2]
    rw [if_neg (fun z=>hk (z.symm.trans hg))]
   ·have hb2:(g == k)=false:=beq_eq_false_iff_ne.mpr hg
    simp only [List.lookup,hb2]
    exact ih
theorem vx (hc:cf X.K C bm ini=true) (ho:eA X.K C=true) (hs:mS X.K C f) (ha:PE X o ta) (hv:PE X value tv) (hsw:swapsWith value (some (.Attribute o f pos')) pos.line X.env=pure false:=by rfl):PS X (.Assign [.Attribute o f pos'] value pos) (sX0 C f ta tv):=by
 refine ⟨fun pins s σ H D I h=>plainObj_wpAny_Assign_Attribute (thn (hv pins s σ H _ I h) fun u s1 ⟨y,H1,I1,ry,q⟩=>thn (ha pins s1 σ H1 _ I1 q) fun ov s2 ⟨x,H2,I2,rx,a,ex,hH,q2⟩=>?_) hsw⟩
 subst ex
 obtain rfl:ov=Value.ref a:=rx
 obtain ⟨⟨ws,sl,z1,z0,z2⟩,_⟩:=(show aP X.prog X.w _ s2.heap a (.ext (b3 a (.ref C) none)) from I2.hok a _ hH)
 refine xset0 I2.kIn z1 hc ho hs fun h' tk' hn hx k=>?_
 refine ⟨σ,_,I2.two (t':=tk') (oa:=.ext (b3 a (.ref C) (some s2.heap.objs.size))) (od:=.ext (xdφ s2.heap.objs.size [(f,y)])) (by rw [hH]; trivial) k ⟨_,hx⟩ (b3.ok ⟨ws,sl,hx,z0,z2⟩) (xdφ.ok ⟨_,hn,fun g=>?_,[f],Within.cons f u Within.nil,by simp⟩),q2 _ (I2.hok.fresh 'l')⟩
 have e:=gC (f:=f) g y (fs:=[]) rfl
 rw [List.nil_append] at e
 rw [e]
 by_cases hg:g=f
 ·rw [if_pos hg,if_pos hg]; exact ry
 ·rw [if_neg hg,if_neg hg]; exact True.intro
theorem ps_x1 (hc:cf X.K C bm ini=true) (ho:eA X.K C=true) (hs:mS X.K C f) (ha:PE X o ta) (hv:PE X value tv) (hsw:swapsWith value (some (.Attribute o f pos')) pos.line X.env=pure false:=by rfl):PS X (.Assign [.Attribute o f pos'] value pos) (sX1 C f ta tv):=by
 refine ⟨fun pins s σ H D I h=>plainObj_wpAny_Assign_Attribute (thn (hv pins s σ H _ I h) fun u s1 ⟨y,H1,I1,ry,q⟩=>thn (ha pins s1 σ H1 _ I1 q) fun ov s2 ⟨x,H2,I2,rx,a,d,fs,ex,hH,hd,hne,hfs,hl,q2⟩=>?_) hsw⟩
 subst ex
 obtain rfl:ov=Value.ref a:=rx
 obtain ⟨⟨ws,sl,z1,z0,z2⟩,_⟩:=(show aP X.prog X.w _ s2.heap a (.ext (b3 a (.ref C) (some d))) from I2.hok a _ hH)
 obtain ⟨⟨mA,y1,y2,ns,y3,y4⟩,⟨od,yd⟩,_⟩:=(show aP X.prog X.w _ s2.heap d (.ext (xdφ d fs)) from I2.hok d _ hd)
 refine xset1 I2.kIn z1 y1 hne hc ho hs y3 'a' fun h' tk' hn hsb=>?_
 obtain ⟨o2,es2,ep2,e2,e3⟩:=id hn
 refine ⟨σ,_,I2.write (x:=d) (e:=d) (t':=tk') (by rw [hd]; trivial) (.inl rfl) (fun b u hb z=>(hsb.2 b hb).trans z) ⟨_,e2⟩ (xdφ.ok ⟨_,hn,fun g=>?_,f :: ns,Within.cons f u y3,?_⟩),q2⟩
 ·rw [gC g y hl]
  by_cases hg:g=f
  ·rw [if_pos hg,if_pos hg]; exact ry
  ·rw [if_neg hg,if_neg hg]; exact y2 g
 ·rw [List.length_cons,List.length_append]; simp; omega
end
section
variable {X:Cx} {ow:List Bool} {a:Expr} {ma:ME} {pos:Pos} {f:Str}
end
def x8:V→List V→Hp→VK→Prop:=fun x vs H Q=>∃ (l:Addr) (bs:List Bool) (j:Nat),x = .ref l∧vs=[.bl true]∧H l=some (.lst (bs.map V.bl))∧bs[j]? = some true∧(∀ m:Nat,m<j→bs[m]? = some false)∧j<1000∧Q (.int (j:Nat)) H
section
variable {X:Cx}
theorem sy:MtM X "list.index" x8:=by
 (try refine ⟨?_⟩); intro pins s σ H x vs v us Q I rx rv h
 obtain ⟨l,bs,j,rfl,rfl,hH,hj,hno,hz,q⟩:=h
 cases rx
 obtain ⟨u,rfl,ru⟩:=rv.one
 cases ru
 obtain ⟨z,its,n,r,hl,e⟩:=I.lstM hH
 have ei:=gx r
 subst ei
 have hjl:j<bs.length:=(List.getElem?_eq_some_iff.mp hj).1
 refine call_meets F.slot_list_index ⟨_,e,rfl⟩ F.entry_list_index (F.args_list_index_2 _ _)
  (SeqAt.list_indexAt l (bs.map Value.bool).toArray n none #[] (.bool true) eqB j (by simpa using hjl) 'a' ?_ ?_) ⟨e,fun y hy=>?_,?_⟩
 ·have:=(List.getElem?_eq_some_iff.mp hj).2
  simp only [List.getElem_toArray,List.getElem_map,this]; rfl
 ·intro m hm hlt
  have hml:m<bs.length:=by simpa using hm
  have:=(List.getElem?_eq_some_iff.mp (hno m hlt)).2
  simp only [List.getElem_toArray,List.getElem_map,this]; rfl
 ·obtain ⟨b,hb,rfl⟩:=List.mem_map.mp (List.mem_toArray.mp hy)
  exact SeqAt.EqAt.bool_bool b true
 ·exact ⟨.int (j:Nat),H,I.tok _,⟨s.toks,rfl⟩,q⟩
variable {ow:List Bool} {e:Expr} {ma:ME}
def x4 (m:ME):ME:=fun ρ q=>m ρ fun d ρ1=>match d with
 | .lst ds=>∃ (bs:List Bool) (j:Nat),ds=bs.map D.bl∧bs[j]? = some true∧(∀ m:Nat,m<j→bs[m]? = some false)∧j<1000∧q (.int (j:Nat)) ρ1
 | _=>False
theorem s_ {j1:Nat} {p1 apos cpos:Pos} (h:QE X ow e ma)
 (hbase:attributeBase e "index" X.env (eval e X.env)=eval e X.env:=by rfl)
 (hfew:((backTo cpos (starEach [.Constant (.bool true) j1 p1] X.env)).all (fun x=>!x.1)&&(backToKw cpos (keywordEach [] X.env)).all (fun x=>x.1.isSome)
  && decide (([.Constant (.bool true) j1 p1]:List Expr).length + ([]:List Keyword).length + (if ([]:List Keyword).isEmpty then 0 else 1)<30))=true:=by rfl)
 (hline:(apos.endLine == cpos.line)=true:=by rfl) (hst:starEach [.Constant (.bool true) j1 p1] X.env=[(false,eval (.Constant (.bool true) j1 p1) X.env)]:=by rfl) :
 QE X ow (.Call (.Attribute e "index" apos) [.Constant (.bool true) j1 p1] [] cpos) (x4 ma):=by
 obtain ⟨t,p,s⟩:=h
 refine ⟨_,lw PySem.F.plainAttrs_list PySem.F.slot_list_index PySem.F.type_list_index sy p (aX sC bI hst) hbase hfew hline hst (by rfl),fun C G ρ σ H pd q Q r hm k=>s C G ρ σ H pd _ _ r hm fun d ρ' v G' H' hq z kp r' pp=>?_⟩
 cases d with
 | lst ds =>
  obtain ⟨bs,j,rfl,h1,h2,h3,hq⟩:=hq
  obtain ⟨l,xs,rfl,g1,g2⟩:=a8 pp
  have ex:=gR g2
  subst ex
  refine ⟨.inl ⟨rfl,_,SqL.of (r'.gh _ _ g1)⟩,?_⟩
  refine ⟨l,bs,j,rfl,rfl,r'.gh _ _ g1,h1,h2,h3,?_⟩
  exact k _ ρ' _ _ _ hq z kp r' (ba _)
 | _=>exact hq.elim
end
section
variable {X:Cx} {M:Md} {ow:List Bool} {a e:Expr} {es:List Expr} {pos:Pos} {mex:MEX} {m1:MSX} {mg:MG}
theorem QXF.qe (h:QXF X ow e mex):QXE X ow e mex:=by
 obtain ⟨t,p,s⟩:=h
 refine ⟨t,p,fun C G ρ σ H pd q Q xx xk r hm kx k=>s C G ρ σ H pd _ _ xx xk r hm kx fun d ρ' v G' H' hq z kp r'=>?_⟩
 obtain ⟨O,r'⟩:=r'
 obtain ⟨G2,s2,r2,p2⟩:=r'.share r.np
 exact k d ρ' v G2 H' hq (z.trans s2) kp r2 p2
def miEnuX (m:MEX):XD→MA:=fun xx ρ q=>m xx ρ fun d ρ'=>match d with
 | .lst ds=>q (gy ds) ρ'
 | _=>False
theorem i_:QE X ow (.Dict [] [] pos) (mC .dct):=by
 refine ⟨_,lO,fun C G ρ σ H pd q Q r hm k=>fun p hp=>?_⟩
 obtain ⟨O,ro⟩:=r
 obtain ⟨r2,s2⟩:=ro.new hp (.dK [])
 exact k _ ρ _ _ _ hm s2 Kp.refl ⟨O,r2⟩ (by rw [Rep]; exact ⟨p,[],rfl,ao⟩)
variable {x:Str} {p':Pos} {ma:ME}
def wY (m:ME):ME:=fun ρ q=>m ρ fun d ρ'=>match d with
 | .lst ds=>q (.tup ds) ρ'
 | _=>False
theorem tf (hg:Gl X x) (hm:X.mg x=none) (hv:bootBuiltins x=some (.type "tuple")) (ha:QE X ow e ma) (hn:x ≠ "__name__":=by decide) (hdb:'d'=false:=by decide)
 (he:starEach [e] X.env=['n']:=by rfl):QE X ow (.Call (.Name x p') [e] [] pos) (wY ma):=by
 obtain ⟨t,p,s⟩:=ha
 refine ⟨_,e6 ja hg hm hv (aX p bI he) hn hdb he rfl,fun C G ρ σ H pd q Q r hm k=>s C G ρ σ H pd _ _ r hm fun d ρ' v G' H' hq z kp r' p1=>?_⟩
 cases d with
 | lst ds =>
  obtain ⟨a,xs,rfl,h1,h2⟩:=a8 p1
  refine ⟨a,xs,rfl,.inl ⟨SqL.of (r'.gh _ _ h1),fun l hl=>?_⟩⟩
  obtain ⟨O,ro⟩:=r'
  obtain ⟨r2,s2⟩:=ro.new hl (.tup xs)
  exact k _ ρ' _ _ _ hq (z.trans s2) kp ⟨O,r2⟩ (gl ao (Reps.mono s2 _ _ h2))
 | _=>exact hq.elim
end
structure FlO (C:Ctx) (G H:Hp) (O:Own) (p:Addr) (xs:List V):Prop where
 gp:G p=none
 op:O p=none
 cp:C.H p=none
 hp:H p=some 'p'
def Ctx.pin (C:Ctx) (p:Addr) (o:HO):Ctx:={ C with H:=fun a=>if a=p then some o else C.H a,O:=fun a=>if a=p then none else C.O a }
section
variable {C:Ctx} {ow:List Bool} {G:Hp} {ρ:DSt} {σ:St} {H:Hp} {pd:List (D×V)} {O:Own} {p:Addr} {xs:List V}
theorem RO.off (h:RO C ow G ρ σ H pd O) (gp:G p=none) (op:O p=none) (cp:C.H p=none) (o:HO):RO C ow G ρ σ (upd H p o) pd O:=by
 have ne:∀ a l,O a=some l→a≠p:=fun a l e z=>by rw [z,op] at e; cases e
 refine ⟨h.len,fun a u e=>?_,h.g0,h.gn,fun a l e=>?_,h.cok,fun a u e n=>?_,fun a e=>?_,h.mp,fun i d e=>?_,?_,h.np⟩
 ·rw [ah (fun z=>by rw [z,gp] at e; cases e)]; exact h.gh _ _ e
 ·rw [ah (ne a l e)]; exact h.og a l e
 ·rw [ah (fun z=>by rw [z,cp] at e; cases e)]; exact h.fr a u e n
 ·by_cases z:a=p
  ·rw [z]; exact cp
  ·rw [ah z] at e; exact h.al a e
 ·obtain ⟨v,h1,h2⟩:=h.sl i d e
  refine ⟨v,h1,?_⟩
  split at h2
  ·rename_i c; rw [if_pos c]; exact h2.keep 'r' fun a τ q=>⟨q,ah (ne a _ q)⟩
  ·rename_i c; rw [if_neg c]; exact h2
 ·exact bE.keep 'r' (fun a j π _ q=>⟨q,ah (ne a _ q)⟩) h.pn
theorem RO.free (h:RO C ow G ρ σ H pd O) (hp:H p=none):G p=none∧O p=none∧C.H p=none:=by
 refine ⟨?_,?_,h.al p hp⟩
 ·cases e:G p with
  | none=>rfl
  | some z=>rw [h.gh _ _ e] at hp; cases hp
 ·cases e:O p with
  | none=>rfl
  | some l=>obtain ⟨_,⟨xs,q⟩,_⟩:=h.og p l e; rw [hp] at q; cases q
theorem RO.frame (h:RO C ow G ρ σ H pd O) (f:FlO C G H O p xs):RO (C.pin p 'p') ow G ρ σ H pd O:=by
 have at1:∀ a,a≠p→(C.pin p 'p').H a=C.H a:=fun a z=>if_neg z
 have at2:∀ a,a≠p→(C.pin p 'p').O a=C.O a:=fun a z=>if_neg z
 have ap:(C.pin p 'p').H p=some 'p':=if_pos rfl
 have ap2:(C.pin p 'p').O p=none:=if_pos rfl
 refine ⟨h.len,h.gh,h.g0,fun a u e=>?_,fun a l e=>?_,fun a l π e=>?_,fun a u e n=>?_,fun a e=>?_,h.mp,h.sl,h.pn,h.np⟩
 ·have z:a≠p:=fun z=>by rw [z,f.gp] at e; cases e
  rw [at1 a z]; exact h.gn a u e
 ·have z:a≠p:=fun z=>by rw [z,f.op] at e; cases e
  obtain ⟨q1,q2,q3⟩:=h.og a l e
  refine ⟨q1,q2,?_⟩
  unfold Nw at q3 ⊢
  rw [at1 a z,at2 a z]; exact q3
 ·have z:a≠p:=fun z=>by rw [z,ap2] at e; cases e
  rw [at2 a z] at e; exact h.cok a l π e
 ·by_cases z:a=p
  ·subst z; rw [ap] at e; cases e; exact f.hp
  ·rw [at1 a z] at e; rw [at2 a z] at n; exact h.fr a u e n
 ·have z:a≠p:=fun z=>by rw [z,f.hp] at e; cases e
  rw [at1 a z]; exact h.al a e
theorem RO.unframe {G2:Hp} {ρ2:DSt} {σ2:St} {H2:Hp} {pd2:List (D×V)} {O2:Own} {ow2:List Bool} (h:RO C ow G ρ σ H pd O) (f:FlO C G H O p xs) (h2:RO (C.pin p 'p') ow2 G2 ρ2 σ2 H2 pd2 O2):RO C ow2 G2 ρ2 σ2 H2 pd2 O2∧FlO C G2 H2 O2 p xs:=by
 have at1:∀ a,a≠p→(C.pin p 'p').H a=C.H a:=fun a z=>if_neg z
 have at2:∀ a,a≠p→(C.pin p 'p').O a=C.O a:=fun a z=>if_neg z
 have ap:(C.pin p 'p').H p=some 'p':=if_pos rfl
 have ap2:(C.pin p 'p').O p=none:=if_pos rfl
 have gp0:C.G p=none:=by
  cases e:C.G p with
  | none=>rfl
  | some z=>have:=h.g0 p z e; rw [f.gp] at this; cases this
 have gp:G2 p=none:=by
  cases e:G2 p with
  | none=>rfl
  | some z =>
   rcases h2.gn p z e with q | q
   ·rw [show (C.pin p 'p').G p=C.G p from rfl,gp0] at q; cases q
   ·rw [ap] at q; cases q
 have op:O2 p=none:=by
  cases e:O2 p with
  | none=>rfl
  | some l =>
   obtain ⟨_,_,q⟩:=h2.og p l e
   rcases q with q | ⟨π,q⟩
   ·rw [ap] at q; cases q
   ·rw [ap2] at q; cases q
 refine ⟨⟨h2.len,h2.gh,h2.g0,fun a u e=>?_,fun a l e=>?_,h.cok,fun a u e n=>?_,fun a e=>?_,h2.mp,h2.sl,h2.pn,h2.np⟩,gp,op,f.cp,h2.fr p _ ap ap2⟩
 ·have z:a≠p:=fun z=>by rw [z,gp] at e; cases e
  have:=h2.gn a u e; rw [at1 a z] at this; exact this
 ·have z:a≠p:=fun z=>by rw [z,op] at e; cases e
  obtain ⟨q1,q2,q3⟩:=h2.og a l e
  refine ⟨q1,q2,?_⟩
  unfold Nw at q3 ⊢
  rw [at1 a z,at2 a z] at q3; exact q3
 ·have z:a≠p:=fun z=>by rw [z,f.cp] at e; cases e
  exact h2.fr a u (by rw [at1 a z]; exact e) (by rw [at2 a z]; exact n)
 ·by_cases z:a=p
  ·rw [z]; exact f.cp
  ·have:=h2.al a e; rw [at1 a z] at this; exact this
theorem RO.catch (h:RO C ow G ρ σ H pd O) (f:FlO C G H O p xs):RO C ow (upd G p 'p') ρ σ H pd O∧az G (upd G p 'p'):=by
 have sG:=k9 f.gp 'p'
 refine ⟨⟨h.len,fun a u e=>?_,fun a u e=>sG _ _ (h.g0 a u e),fun a u e=>?_,fun a l e=>?_,h.cok,h.fr,h.al,h.mp,fun i d e=>?_,?_,h.np⟩,sG⟩
 ·by_cases z:a=p
  ·subst z; rw [ao] at e; cases e; exact f.hp
  ·rw [ah z] at e; exact h.gh _ _ e
 ·by_cases z:a=p
  ·subst z; exact .inr f.cp
  ·rw [ah z] at e; exact h.gn a u e
 ·have z:a≠p:=fun z=>by rw [z,f.op] at e; cases e
  rw [ah z]; exact h.og a l e
 ·obtain ⟨v,h1,h2⟩:=h.sl i d e
  refine ⟨v,h1,?_⟩
  split at h2
  ·rename_i c; rw [if_pos c]; exact h2.keep sG.ts fun a τ q=>⟨q,rfl⟩
  ·rename_i c; rw [if_neg c]; exact h2.mono sG
 ·exact bE.keep sG.ts (fun a j π _ q=>⟨q,rfl⟩) h.pn
end
def SN (ow:List Bool) (t:TE) (m:MA):Prop:=∀ (C:Ctx) (G:Hp) (ρ:DSt) (σ:St) (H:Hp) (pd:List (D×V)) (q:List D→DSt→Prop) (Q:VK),R C ow G ρ σ H pd→m ρ q →
 (∀ ds ρ' xs p G' H',q ds ρ'→az G G'→Kp ow ρ ρ'→R C ow G' ρ' σ H' pd→H' p=none→Reps G' ds xs→Q (.ref p) (upd H' p 'p'))→t σ H Q
structure QN (X:Cx) (ow:List Bool) (e:Expr) (m:MA):Prop where
 ex:∃ t,PE X e t∧SN ow t m
section
variable {X:Cx} {ow:List Bool} {a b e:Expr} {es:List Expr} {ma mb:ME} {mr:MA} {pos:Pos} {x:Str} {p':Pos}
end
def RF (C:Ctx) (ow:List Bool) (G:Hp) (ρ:DSt) (σ:St) (H:Hp) (p:Addr) (xs:List V):Prop:=∃ O,RO C ow G ρ σ H [] O∧FlO C G H O p xs
structure Fl (C:Ctx) (ow:List Bool) (i:Nat) (G:Hp) (ρ:DSt) (σ:St) (H:Hp) (p:Addr) (ds:List D):Prop where
 ex:∃ xs,RF C ow G ρ σ H p xs∧Reps G ds xs
 no : ρ[i]? = some none
 at' : σ[i]? = some (some (.ref p))
abbrev MFl:=(List D→DSt→Prop)→List D→DSt→Prop
abbrev MFe:=EndsD→List D→DSt→Prop
def SFl (M:Md) (i:Nat) (t:TS) (m:MFl):Prop:=∀ (C:Ctx) (G:Hp) (ρ:DSt) (σ:St) (H:Hp) (p:Addr) (ds:List D) (n:List D→DSt→Prop) (D:Ends),fG C M.mu→C.np=0→Fl C M.ow i G ρ σ H p ds→m n ds ρ →
 (∀ ds' ρ' σ' G' H',n ds' ρ'→az G G'→Fl C M.ow i G' ρ' σ' H' p ds'→D.nx σ' H')→t D σ H
def SFe (M:Md) (i:Nat) (t:TS) (m:MFe):Prop:=∀ (C:Ctx) (G:Hp) (ρ:DSt) (σ:St) (H:Hp) (p:Addr) (ds:List D) (n:EndsD) (D:Ends),fG C M.mu→C.np=0→Fl C M.ow i G ρ σ H p ds→m n ds ρ→Ks C M.ow M.fr G n D→t D σ H
structure QFl (X:Cx) (M:Md) (i:Nat) (st:Stmt) (m:MFl):Prop where
 ex:∃ t,PS X st t∧SFl M i t m
structure QFls (X:Cx) (M:Md) (i:Nat) (st:List Stmt) (m:MFl):Prop where
 ex:∃ t,PSs X st t∧SFl M i t m
structure QFe (X:Cx) (M:Md) (i:Nat) (st:List Stmt) (m:MFe):Prop where
 ex:∃ t,PSs X st t∧SFe M i t m
section
variable {X:Cx} {M:Md} {i:Nat} {st:Stmt} {rest:List Stmt} {m1 m2:MFl} {me:MFe} {ms:MS} {pos pos':Pos}
def fNil:MFl:=fun n ds ρ=>n ds ρ
def fSeq (a b:MFl):MFl:=fun n ds ρ=>a (fun ds' ρ'=>b n ds' ρ') ds ρ
theorem uT:QFls X M i [] fNil:=⟨_,jV,fun C G ρ σ H p ds n D hm hn f h k=>k ds ρ σ G H h (az.refl _) f⟩
theorem kN (h:QFl X M i st m1) (h2:QFls X M i rest m2):QFls X M i (st :: rest) (fSeq m1 m2):=by
 obtain ⟨t,p,s⟩:=h; obtain ⟨t2,p2,s2⟩:=h2
 exact ⟨_,cx p p2,fun C G ρ σ H p ds n D hm hn f h k=>s C G ρ σ H p ds _ _ hm hn f h fun ds' ρ' σ' G' H' h' z f'=>s2 C G' ρ' σ' H' p ds' n D hm hn f' h' fun ds2 ρ2 σ2 G2 H2 h2 z2 f2=>k ds2 ρ2 σ2 G2 H2 h2 (z.trans z2) f2⟩
theorem o7 (h:QFl X M i st m1) (h2:QFe X M i rest me):QFe X M i (st :: rest) (fun n ds ρ=>m1 (fun ds' ρ'=>me n ds' ρ') ds ρ):=by
 obtain ⟨t,p,s⟩:=h; obtain ⟨t2,p2,s2⟩:=h2
 refine ⟨_,cx p p2,fun C G ρ σ H p ds n D hm hn f h k=>s C G ρ σ H p ds _ _ hm hn f h fun ds' ρ' σ' G' H' h' z f'=>?_⟩
 exact s2 C G' ρ' σ' H' p ds' n D hm hn f' h' (k.mono z)
theorem qV (h:QSs X M rest ms) (ho:M.ow[i]?≠some true:=by decide) (hu:M.mu[i]?≠some true:=by decide):QFe X M i rest (fun n ds ρ=>ms n (ρ.set i (some (.lst ds)))):=by
 obtain ⟨t,p,s⟩:=h
 refine ⟨_,p,fun C G ρ σ H p ds n D hm hn f h k=>?_⟩
 obtain ⟨xs,⟨O,ro,fo⟩,rs⟩:=f.ex
 obtain ⟨r1,z1⟩:=ro.catch fo
 have r2:=r1.setS ho (hm.no hu) (fK ao (Reps.mono z1 _ _ rs))
 have e : σ.set i (some (.ref p))=σ:=by
  apply List.ext_getElem?
  intro j
  by_cases c:i=j
  ·subst c
   rw [f.at',List.getElem?_set_self (List.getElem?_eq_some_iff.mp f.at').1]
  ·rw [List.getElem?_set_ne c]
 rw [e] at r2
 exact s C _ _ σ H n D hm hn ⟨O,r2⟩ h (k.mono z1)
def wV (i:Nat) (mN:MA) (me:MFe):MS:=fun n ρ=>mN ρ fun ds ρ'=>i<ρ'.length∧me n ds (ρ'.set i none)
theorem lG {x:Str} {e:Expr} {mN:MA} (hN:X.N.Nodup) (hi:X.N[i]? = some x) (hx:Loc X.env.scope x) (he:QN X M.ow e mN) (hr:QFe X M i rest me) (ho:M.ow[i]?≠some true:=by decide) (hu:M.mu[i]?≠some true:=by decide)
 (hs:swapsWith e (some (.Name x pos')) pos.line X.env=pure false:=by rfl) (hf:X.fn x=true∨X.env.scope.names.lookup x=some .local:=by first | exact .inl rfl | exact .inr rfl | assumption) :
 QSs X M (.Assign [.Name x pos'] e pos :: rest) (wV i mN me):=by
 obtain ⟨t,p,s⟩:=he; obtain ⟨t2,p2,s2⟩:=hr
 refine ⟨_,cx (i5 hN hi hx p hs hf) p2,fun C G ρ σ H n D hm hn r h k=>s C G ρ σ H [] _ _ r h fun ds ρ' xs p G' H' hq z kp r' hp rs=>?_⟩
 obtain ⟨O,ro⟩:=r'
 obtain ⟨g1,g2,g3⟩:=ro.free hp
 have hl:i<σ.length:=by rw [← ro.len]; exact hq.1
 have r1:=(ro.off g1 g2 g3 'p').gone i (hm.no hu)
 have r2:RO C M.ow G' (ρ'.set i none) (σ.set i (some (.ref p))) (upd H' p 'p') [] O:=by
  refine ⟨by have:=ro.len; simp [this],r1.gh,r1.g0,r1.gn,r1.og,r1.cok,r1.fr,r1.al,fun j v e=>?_,fun j d e=>?_,r1.pn,r1.np⟩
  ·have c:i≠j:=fun z=>hm.no hu v (z ▸ e)
   rw [List.getElem?_set_ne c]; have:=r1.mp j v e; rw [List.getElem?_set_ne c] at this; exact this
  ·have c:i≠j:=fun z=>by
    subst z
    rw [List.getElem?_set_self 'a'] at e; cases e
   obtain ⟨v,h1,h2⟩:=r1.sl j d e
   rw [List.getElem?_set_ne c] at h1
   exact ⟨v,by rw [List.getElem?_set_ne c]; exact h1,h2⟩
 refine s2 C G' _ _ _ p ds n D hm hn ⟨⟨xs,⟨O,r2,g1,g2,g3,ao⟩,rs⟩,List.getElem?_set_self hq.1,List.getElem?_set_self hl⟩ hq.2 (k.mono z)
variable {e b c:Expr} {ma mb:ME} {mt:MT}
def t8 (ma:ME):MFl:=fun n ds ρ=>ma ρ fun d ρ'=>ds.length<1000∧n (ds++[d]) ρ'
theorem tj {ow:List Bool} {i:Nat} {ρ ρ':DSt} (kp:Kp ow ρ ρ') (ho:ow[i]?≠some true) (h : ρ[i]? = some none) : ρ'[i]? = some none:=(kp i ho).trans h
theorem jB {x:Str} {apos cpos npos:Pos} (hN:X.N[i]? = some x) (he:QE X M.ow e ma) (ho:M.ow[i]?≠some true:=by decide)
 (hv:Vis X.env.scope x:=by first | exact Or.inl rfl | exact Or.inr 'c' | exact Or.inr (Or.inr rfl)) (hd:'d'=false:=by decide) (hcd:(x == ("__classdict__":Str))=false:=by decide)
 (hbase:attributeBase (.Name x npos) "append" X.env (eval (.Name x npos) X.env)=eval (.Name x npos) X.env:=by rfl)
 (hfew:((backTo cpos (starEach [e] X.env)).all (fun x=>!x.1)&&(backToKw cpos (keywordEach [] X.env)).all (fun x=>x.1.isSome)
  && decide ([e].length + ([]:List Keyword).length + (if ([]:List Keyword).isEmpty then 0 else 1)<30))=true:=by rfl)
 (hline:(apos.endLine == cpos.line)=true:=by rfl) (hst:starEach [e] X.env=['n']:=by rfl)
 (hs:swapsWith (.Call (.Attribute (.Name x npos) "append" apos) [e] [] cpos) none pos.line X.env=pure false:=by rfl) :
 QFl X M i (.Expr (.Call (.Attribute (.Name x npos) "append" apos) [e] [] cpos) pos) (t8 ma):=by
 obtain ⟨t,p,s⟩:=he
 refine ⟨_,d4 (lw PySem.F.plainAttrs_list PySem.F.slot_list_append PySem.F.type_list_append gF (dq hN hv hd hcd) (aX p bI hst) hbase hfew hline hst (by rfl)) hs,fun C G ρ σ H p ds n D hm hn f h k=>?_⟩
 obtain ⟨xs,⟨O,ro,fo⟩,rs⟩:=f.ex
 refine ⟨.ref p,f.at',.inl ⟨rfl,xs,SqL.of fo.hp⟩,?_⟩
 refine s (C.pin p 'p') G ρ σ H [] _ _ ⟨O,ro.frame fo⟩ h fun d ρ' v G' H' hq z kp r' pv=>?_
 obtain ⟨O2,r2⟩:=r'
 obtain ⟨r3,f3⟩:=ro.unframe fo r2
 have hl:=rs.length
 refine ⟨p,xs,v,rfl,rfl,f3.hp,by rw [hl]; exact bH (Nat.le_of_lt hq.1),?_⟩
 exact k _ ρ' σ G' _ hq.2 z ⟨⟨xs++[v],⟨O2,r3.off f3.gp f3.op f3.cp _,f3.gp,f3.op,f3.cp,ao⟩,dU (Reps.mono z _ _ rs) (bf pv bp)⟩,tj kp ho f.no,f.at'⟩
end
section
variable {C:Ctx} {ow:List Bool} {i:Nat} {G:Hp} {ρ:DSt} {σ:St} {H:Hp} {p:Addr} {ds:List D}
end
section
variable {X:Cx} {M:Md} {i:Nat} {pos pos':Pos} {e c:Expr} {ma:ME} {mt:MT} {m1 m2:MFl}
end
section
variable {X:Cx} {M:Md} {a b e:Expr} {ma mb:ME} {pos:Pos}
end
section
variable {X:Cx} {M:Md} {a b:Expr} {ma mb:ME} {pos:Pos}
end
section
variable {X:Cx} {pos p1 p2 q1 q2:Pos} {n1 n2:Nat} {k1 k2 x y:Str} {i j:Nat} {ow:List Bool}
end
section
variable {X:Cx} {ow:List Bool} {a b e:Expr} {ma mb:ME} {pos p2:Pos} {lo hi:Option Expr} {ml mh:MO}
end
section
variable {X:Cx} {M:Md} {i:Nat} {st:Stmt} {m:MFl}
end
mutual
def pln:D→Bool
 | .tup ds=>plns ds
 | .lst ds=>plns ds
 | .scr _ _=>false
 | .ext _=>false
 | _=>true
def plns:List D→Bool
 | []=>true
 | d :: ds=>pln d&&plns ds
end
theorem dv {d:D} (h:pln d=true):d.isS=false:=by
 cases d <;> first | rfl | (rw [pln] at h; cases h)
theorem aZ {d:D} {ds:List D}:plns (d :: ds)=true↔pln d=true∧plns ds=true:=by rw [plns,Bool.and_eq_true]
theorem ip:∀ {ds:List D} {i:Nat} {d:D},plns ds=true→ds[i]? = some d→pln d=true
 | [],i,d,_,e=>by simp at e
 | x :: ds,0,d,h,e=>by simp at e; subst e; exact (aZ.mp h).1
 | x :: ds,i + 1,d,h,e=>ip (aZ.mp h).2 (by simpa using e)
theorem dA:∀ {ds:List D},(∀ d∈ds,pln d=true)→plns ds=true
 | [],_=>rfl
 | d :: ds,h=>aZ.mpr ⟨h d (by simp),dA fun x hx=>h x (by simp [hx])⟩
theorem cV:∀ {ds:List D} {d:D},plns ds=true→d∈ds→pln d=true
 | x :: ds,d,h,e=>by
  rcases List.mem_cons.mp e with rfl | e
  ·exact (aZ.mp h).1
  ·exact cV (aZ.mp h).2 e
theorem pY (ns:List Int):plns (ns.map D.int)=true:=dA fun d h=>by
 obtain ⟨x,_,rfl⟩:=List.mem_map.mp h; rfl
theorem jl (ns:List Int):pln (aL ns)=true:=by unfold aL; rw [pln]; exact pY ns
theorem lY (ps rs:List Int):pln (aQ ps rs)=true:=by
 unfold aQ; rw [pln,aZ,aZ]; exact ⟨jl _,jl _,rfl⟩
def aS (f:Nat→D→Bool):List D→Nat→Option Nat
 | [],_=>none
 | d :: ds,i=>if f i d=true then aS f ds (i + 1) else some i
theorem dL {f:Nat→D→Bool} {ds:List D} {i:Nat} {d:D} (e:ds[i]? = some d) (k:Nat):aS f (ds.drop i) k=if f k d=true then aS f (ds.drop (i + 1)) (k + 1) else some k:=by
 have hl:i<ds.length:=(List.getElem?_eq_some_iff.mp e).1
 have:ds.drop i=d :: ds.drop (i + 1):=by
  rw [List.drop_eq_getElem_cons hl]
  have:=(List.getElem?_eq_some_iff.mp e).2
  rw [this]
 rw [this,aS]
theorem cr {f:Nat→D→Bool}:∀ {ds:List D} {k:Nat},(∀ (i:Nat) d,ds[i]? = some d→f (k + i) d=true)→aS f ds k=none
 | [],_,_=>rfl
 | d :: ds,k,h=>by
  rw [aS,if_pos (show f k d=true from h 0 d rfl)]
  exact cr fun i d' e=>by
   have:=h (i + 1) d' (by simpa using e)
   rw [show k + 1 + i=k + (i + 1) by omega]; exact this
def k7 (i:Nat) (d:D):Bool:=btw 0 i d
def g6 (_:Nat) (d:D):Bool:=btw 1 1000000 d
def bD (d:D):Option (Str×D):=if gD d=true then (match d with
 | .tup [.lst ps,.lst rs]=>(match aS k7 ps 0 with
  | some i=>some ("parents",.int i)
  | none=>(match aS g6 rs 0 with
   | some i=>some ("rooms",.int i)
   | none=>none))
 | _=>none) else some ("tree",.non)
theorem iK {d:D} (h:gD d=true):∃ ps rs,d = .tup [.lst ps,.lst rs]∧ps.length=rs.length∧1≤ps.length∧ps.length≤23:=by
 unfold gD at h
 split at h
 ·rename_i ps rs
  simp only [Bool.and_eq_true,decide_eq_true_eq] at h
  exact ⟨ps,rs,rfl,h.1,h.2.1,h.2.2⟩
 ·cases h
theorem mD {d:D} (h:gD d=false):bD d=some (("tree":Str),D.non):=by unfold bD; rw [if_neg (by rw [h]; decide)]
theorem g8 {ps rs:List D} (h:gD (.tup [.lst ps,.lst rs])=true):bD (.tup [.lst ps,.lst rs])=(match aS k7 ps 0 with
 | some i=>some ("parents",.int i)
 | none=>(match aS g6 rs 0 with
  | some i=>some ("rooms",.int i)
  | none=>none)):=by unfold bD; rw [if_pos h]
theorem kK {ps rs:List Int} (hT:Tree ps rs):bD (aQ ps rs)=none:=by
 have h:=ju hT
 unfold aQ aL at h ⊢
 rw [g8 h]
 rw [cr (f:=k7) (k:=0) fun i d e=>by
  obtain ⟨z,hz,rfl⟩:=gt e
  have:=hT.par i z hz
  rw [Nat.zero_add]; exact cw this.1 this.2]
 rw [cr (f:=g6) (k:=0) fun i d e=>by
  obtain ⟨z,hz,rfl⟩:=gt e
  have:=hT.room i z hz
  exact cw this.1 this.2]
theorem kj {n:Nat} (h:n<2 ^ 1000):ia (.int (n:Int)):=by
 show (n:Int).natAbs.log2<1920
 rw [Int.natAbs_natCast]
 by_cases h0:n=0
 ·rw [h0]; decide
 ·exact Nat.lt_trans ((Nat.log2_lt h0).mpr h) 'k'
theorem kc:ia .non:=True.intro
theorem kD {x:Str} (h:x.length≤1000):ia (.str x):=h
theorem fmt2 {a b:D} (ha:ia a) (hb:ia b):∀ d∈[a,b],ia d:=fun d h=>by
 simp only [List.mem_cons,List.not_mem_nil,or_false] at h
 rcases h with rfl | rfl
 ·exact ha
 ·exact hb
theorem fmt1 {a:D} (ha:ia a):∀ d∈[a],ia d:=fun d h=>by
 simp only [List.mem_cons,List.not_mem_nil,or_false] at h
 subst h; exact ha
def wr:SpD:=fun ds q=>∃ d,ds=[d]∧pln d=true∧q (.bl (gD d)) []
abbrev iH:List Str:=["part","number"]
def tV (c:Addr):SpX:=fun ds q qx=>∃ d,ds=[d]∧pln d=true∧(bD d=none→q .non [])∧∀ p n,bD d=some (p,n)→qx c iH [.str p,n] []
def cG:Nat→D→Bool
 | _,.int _=>true
 | _,.bl _=>true
 | _,.non=>true
 | _,.str x=>(PyData.str x).canLay0
 | n + 1,.tup ds=>ds.all (cG n)
 | n + 1,.lst ds=>ds.all (cG n)
 | _,_=>false
theorem i6 {n:Nat} (ih:∀ d,cG n d=true→(toP d).canLay0=true∧(toP d).depth≤n + 1):∀ ds:List D,ds.all (cG n)=true→PyData.canLayAll0 (toPs ds)=true∧PyData.depthAll (toPs ds)≤n + 1
 | [],_=>by rw [toPs]; simp [PyData.canLayAll0,PyData.depthAll]
 | d :: ds,h=>by
  rw [List.all_cons,Bool.and_eq_true] at h
  have h1:=ih d h.1
  have h2:=i6 ih ds h.2
  rw [toPs]
  simp only [PyData.canLayAll0,PyData.depthAll,h1.1,h2.1,Bool.and_self,true_and]
  omega
theorem ko:∀ (n:Nat) (d:D),cG n d=true→(toP d).canLay0=true∧(toP d).depth≤n + 1
 | n,.int _,_=>by rw [toP]; simp [PyData.canLay0,PyData.depth]
 | n,.bl _,_=>by rw [toP]; simp [PyData.canLay0,PyData.depth]
 | n,.non,_=>by rw [toP]; simp [PyData.canLay0,PyData.depth]
 | n,.str x,h=>by rw [toP]; exact ⟨by cases n <;> exact h,by simp [PyData.depth]⟩
 | n + 1,.tup ds,h=>by
  have:=i6 (ko n) ds (by simpa [cG] using h)
  rw [toP]; simp only [PyData.canLay0,PyData.depth,this.1,true_and]; omega
 | n + 1,.lst ds,h=>by
  have:=i6 (ko n) ds (by simpa [cG] using h)
  rw [toP]; simp only [PyData.canLay0,PyData.depth,this.1,true_and]; omega
 | 0,.tup _,h=>by simp [cG] at h
 | 0,.lst _,h=>by simp [cG] at h
 | n,.dct,h=>by cases n <;> simp [cG] at h
 | n,.dic _ _,h=>by cases n <;> simp [cG] at h
 | n,.scr _ _,h=>by cases n <;> simp [cG] at h
 | n,.ext _,h=>by cases n <;> simp [cG] at h
theorem iB {n:Nat} {d:D} (h:cG n d=true) (hn:n≤60):okD d=true:=by
 have:=ko n d h
 unfold okD SeqAt.shaped
 rw [this.1,Bool.true_and]
 exact decide_eq_true 'a'
theorem iU {n:Nat} (ih:∀ d,cG n d=true→PyData.eqv (toP d) (toP d)=true):∀ ds:List D,ds.all (cG n)=true→PyData.eqvAll (toPs ds) (toPs ds)=true
 | [],_=>by rw [toPs]; simp [PyData.eqvAll]
 | d :: ds,h=>by
  rw [List.all_cons,Bool.and_eq_true] at h
  rw [toPs,PyData.eqvAll,ih d h.1,iU ih ds h.2]; rfl
theorem gH:∀ (n:Nat) (d:D),cG n d=true→eqD d d=true
 | n,.int _,_=>by unfold eqD; rw [toP,PyData.eqv]; simp
 | n,.bl _,_=>by unfold eqD; rw [toP,PyData.eqv]; simp
 | n,.non,_=>by unfold eqD; rw [toP,PyData.eqv]
 | n,.str _,_=>by unfold eqD; rw [toP,PyData.eqv]; simp
 | n + 1,.tup ds,h=>by unfold eqD; rw [toP,PyData.eqv]; exact iU (gH n) ds (by simpa [cG] using h)
 | n + 1,.lst ds,h=>by unfold eqD; rw [toP,PyData.eqv]; exact iU (gH n) ds (by simpa [cG] using h)
 | 0,.tup _,h=>by simp [cG] at h
 | 0,.lst _,h=>by simp [cG] at h
 | n,.dct,h=>by cases n <;> simp [cG] at h
 | n,.dic _ _,h=>by cases n <;> simp [cG] at h
 | n,.scr _ _,h=>by cases n <;> simp [cG] at h
 | n,.ext _,h=>by cases n <;> simp [cG] at h
theorem uy {x:Str} (h:(PyData.str x).canLay0=true):okD (.str x)=true:=iB (n:=0) h 'k'
theorem uS (a b:Str):eqD (.str a) (.str b)=(a == b):=by unfold eqD; rw [toP,toP,PyData.eqv]
theorem cU {lo hi:Int} {d:D} (h:btw lo hi d=true):∃ i,d = .int i∧lo≤i∧i≤hi:=by
 cases d with
 | int i=>simp only [btw,Bool.and_eq_true,decide_eq_true_eq] at h; exact ⟨i,rfl,h.1,h.2⟩
 | _=>cases h
def neZ:D→D→Bool
 | .int i,.int j=>!decide (i=j)
 | _,_=>false
def cX (n:Nat) (a b:D):Bool:=btw 0 n a&&(btw 0 n b&&neZ a b)
theorem qC {ps:List Int} {a b:D} (h:cX ps.length a b=true):∃ i j,a = .int i∧b = .int j∧Ends2 ps i j:=by
 unfold cX at h
 rw [Bool.and_eq_true,Bool.and_eq_true] at h
 obtain ⟨i,rfl,i0,i1⟩:=cU h.1
 obtain ⟨j,rfl,j0,j1⟩:=cU h.2.1
 have:=h.2.2
 simp only [neZ,Bool.not_eq_true',decide_eq_false_iff_not] at this
 exact ⟨i,j,rfl,rfl,i0,i1,j0,j1,this⟩
theorem kZ {ps:List Int} {i j:Int} (h:Ends2 ps i j):cX ps.length (.int i) (.int j)=true:=by
 unfold cX
 rw [cw h.a0 h.a1,cw h.b0 h.b1]
 simp [neZ,h.ne]
def um:SpD:=fun ds q=>∃ ps rs a b,ds=[aQ ps rs,a,b]∧pln a=true∧pln b=true∧q (.bl (cX ps.length a b)) []
def fk (n:Nat):D→Bool
 | .tup [a,b,s,w]=>cX n a b&&(btw 1 1000000 s&&btw 1 1000000000000 w)
 | _=>false
theorem uW {ps:List Int} {d:D} (h:fk ps.length d=true):∃ a,d=dH a∧AskOk ps a:=by
 unfold fk at h
 split at h
 ·rename_i a b s w
  rw [Bool.and_eq_true,Bool.and_eq_true] at h
  obtain ⟨i,j,rfl,rfl,hE⟩:=qC h.1
  obtain ⟨s',rfl,s0,s1⟩:=cU h.2.1
  obtain ⟨w',rfl,w0,w1⟩:=cU h.2.2
  exact ⟨⟨i,j,s',w'⟩,rfl,hE,s0,s1,w0,w1⟩
 ·cases h
theorem ud {ps:List Int} {a:Ask} (h:AskOk ps a):fk ps.length (dH a)=true:=by
 show (cX ps.length (.int a.one) (.int a.other)&&(btw 1 1000000 (.int a.size)&&btw 1 1000000000000 (.int a.worth)))=true
 rw [kZ h.ends,cw h.s0 h.s1,cw h.w0 h.w1]; rfl
def lK (n:Nat) (_:Nat) (d:D):Bool:=fk n d
def bV (n:Nat):D→Option D
 | .lst ds=>if ds.length≤30 then (aS (lK n) ds 0).map fun (i:Nat)=>D.int i else some .non
 | _=>some .non
theorem fU {f:Nat→D→Bool}:∀ {ds:List D} {k:Nat},aS f ds k=none→∀ (i:Nat) d,ds[i]? = some d→f (k + i) d=true
 | [],_,_,i,d,e=>by simp at e
 | x :: ds,k,h,i,d,e=>by
  rw [aS] at h
  split at h
  ·rename_i c
   cases i with
   | zero=>simp at e; subst e; exact c
   | succ i =>
    have:=fU h i d (by simpa using e)
    rw [show k + (i + 1)=k + 1 + i by omega]; exact this
  ·cases h
theorem fE {ps:List Int} {as:List Ask} (h:AsksOk ps as):bV ps.length (bK as)=none:=by
 show (if (as.map dH).length≤30 then _ else _)=none
 rw [if_pos (by rw [List.length_map]; exact h.len),cr fun i d e=>?_]
 ·rfl
 ·obtain ⟨a,ha,rfl⟩:=tN e
  exact ud (h.ok a (List.mem_of_getElem? ha))
def rH:SpD:=fun ds q=>∃ ps rs d,ds=[aQ ps rs,d]∧pln d=true∧q (.bl (fk ps.length d)) []
abbrev kW:List Str:=["number"]
def ug (cT cA:Addr):SpX:=fun ds q qx=>∃ t x,ds=[t,x]∧((∃ p n,pln t=true∧bD t=some (p,n)∧qx cT iH [.str p,n] []) ∨
 ∃ ps rs,t=aQ ps rs∧Tree ps rs∧pln x=true∧((∃ n,bV ps.length x=some n∧qx cA kW [n] [])∨(bV ps.length x=none∧q .non [])))
theorem jk (as:List Ask):pln (bK as)=true:=by
 unfold bK; rw [pln]
 exact dA fun d h=>by obtain ⟨a,_,rfl⟩:=List.mem_map.mp h; rfl
theorem jM {xs:List D} {k:Int} (h0 : 0≤k):eE xs none (some k)=xs.take k.toNat:=by
 have ek:k=((k.toNat:Nat):Int):=by omega
 unfold eE
 rw [HT.sIx_none,ek,HT.sIx_nat,List.drop_zero,Nat.sub_zero,Int.toNat_natCast]
 by_cases h:k.toNat≤xs.length
 ·rw [show min k.toNat xs.length=k.toNat by omega]
 ·rw [show min k.toNat xs.length=xs.length by omega,List.take_length,List.take_of_length_le 'a']
theorem gu {xs:List D} {k:Int} (h0 : 0≤k):eE xs (some k) none=xs.drop k.toNat:=by
 have ek:k=((k.toNat:Nat):Int):=by omega
 unfold eE
 rw [HT.sIx_none,ek,HT.sIx_nat,Int.toNat_natCast]
 by_cases h:k.toNat≤xs.length
 ·rw [show min k.toNat xs.length=k.toNat by omega,List.take_of_length_le (by simp)]
 ·rw [show min k.toNat xs.length=xs.length by omega,List.drop_length,List.drop_of_length_le 'a']; simp
theorem lX {xs ys:List D} (h1:plns xs=true) (h2:plns ys=true):plns (xs++ys)=true:=dA fun d hd=>(List.mem_append.mp hd).elim (cV h1) (cV h2)
theorem pD {xs:List D} (h:plns xs=true) (k:Nat):plns (xs.take k)=true:=dA fun d hd=>cV h (List.mem_of_mem_take hd)
theorem pS {xs:List D} (h:plns xs=true) (k:Nat):plns (xs.drop k)=true:=dA fun d hd=>cV h (List.mem_of_mem_drop hd)
section
variable {X:Cx}
end
end L2
namespace L2
open PySem
end L2
namespace L2
open PySem PySem.Spec PyProof.Rows
section
variable {X:Cx}
end
section
variable {X:Cx} {M:Md} {e:Expr} {ma:ME} {pos:Pos}
end
section
variable {X:Cx} {M:Md} {i:Nat} {st:Stmt} {rest:List Stmt} {m1 m2:MFl} {me:MFe} {pos pos':Pos} {e:Expr} {ma:ME}
def fFor (j:Nat) (mi:MA) (mb:MFl):MFl:=fun n ds ρ=>mi ρ fun xs ρ1=>∃ I:Nat→List D→DSt→Prop,I 0 ds ρ1∧(∀ k d ds ρ,xs[k]? = some d→I k ds ρ→mb (I (k + 1)) ds (ρ.set j (some d)))∧∀ ds ρ,I xs.length ds ρ→n ds ρ
theorem x_ {j:Nat} {y:Str} {iter:Expr} {body:List Stmt} {mi:MA} (hp:PassesOwn 'b' X.A X.env X.xe) (hc:X.calm=true) (hN:X.N.Nodup) (hj:X.N[j]? = some y) (hy:Loc X.env.scope y)
 (hi:QI X M.ow (.Name y pos') iter mi) (hb:QFls X M i body m1) (hij:i≠j:=by decide) (ho:M.ow[i]?≠some true:=by decide) (oj:M.ow[j]?≠some true:=by decide) (uj:M.mu[j]?≠some true:=by decide)
 (hs:∀ x,foldedSetIterable iter X.env x=pure x:=by intro _; rfl) (hf:X.fn y=true∨X.env.scope.names.lookup y=some .local:=by first | exact .inl rfl | exact .inr rfl | assumption) :
 QFl X M i (.For (.Name y pos') iter body [] pos) (fFor j mi m1):=by
 obtain ⟨ti,pi,si⟩:=hi; obtain ⟨tb,pb,sb⟩:=hb
 refine ⟨_,mw hp hc pi (bA hN hj hy hf) pb hs,fun C G ρ σ H p ds n D hm hn f h k=>?_⟩
 obtain ⟨xs,⟨O,ro,fo⟩,rs⟩:=f.ex
 refine si (C.pin p 'p') G ρ σ H [] _ _ ⟨O,ro.frame fo⟩ h fun es ρ0 G0 H0 J hq z0 kp r0 jo=>?_
 obtain ⟨O0,r0⟩:=r0
 obtain ⟨r0',f0⟩:=ro.unframe fo r0
 have fl0:Fl C M.ow i G0 ρ0 σ H0 p ds:=⟨⟨xs,⟨O0,r0',f0⟩,Reps.mono z0 _ _ rs⟩,tj kp ho f.no,f.at'⟩
 obtain ⟨I,i0,turn,fin⟩:=hq
 refine ⟨fun a b σ' H'=>b=es.length - a∧a≤es.length∧∃ G' ρ' ds',az G0 G'∧Fl C M.ow i G' ρ' σ' H' p ds'∧I a ds' ρ',⟨_,rfl,Nat.zero_le _,G0,ρ0,ds,az.refl _,fl0,i0⟩,?_⟩
 rintro a b σ' H' ⟨rfl,ha,G',ρ',ds',z,fl,w⟩
 obtain ⟨xs',⟨O',ro',fo'⟩,rs'⟩:=fl.ex
 obtain ⟨stp,go⟩:=jo (C.pin p (.lst xs')) M.ow G' ρ' σ' H' [] a z ⟨O',ro'.frame fo'⟩
 by_cases hlt:a<es.length
 ·obtain ⟨g1,g2⟩:=go es[a] (List.getElem?_eq_getElem hlt)
  refine .inr ⟨g1,fun σ2 H2=>∃ G2 ρ2 ds2,az G0 G2∧Fl C M.ow i G2 ρ2 σ2 H2 p ds2∧I (a + 1) ds2 ρ2,fun σ2 H2 h=>⟨es.length - (a + 1),by omega,rfl,hlt,h⟩,fun x H1 hy=>?_⟩
  obtain ⟨G1,z1,⟨O1,r1⟩,p1⟩:=g2 x H1 hy
  obtain ⟨r2,f2⟩:=ro'.unframe fo' r1
  exact sb C G1 (ρ'.set j (some es[a])) (σ'.set j (some x)) H1 p ds' _ _ hm hn ⟨⟨xs',⟨O1,r2.setS oj (hm.no uj) p1,f2⟩,Reps.mono z1 _ _ rs'⟩,by rw [List.getElem?_set_ne (Ne.symm hij)]; exact fl.no,by rw [List.getElem?_set_ne (Ne.symm hij)]; exact fl.at'⟩ (turn a es[a] ds' ρ' (List.getElem?_eq_getElem hlt) w) fun ds3 ρ3 σ3 G3 H3 h3 z3 f3=>⟨G3,ρ3,ds3,z.trans (z1.trans z3),f3,h3⟩
 ·have ea:a=es.length:=by omega
  subst ea
  exact .inl ⟨stp 'l',k ds' ρ' σ' G' H' (fin ds' ρ' w) (z0.trans z) fl⟩
def fSetO (j:Nat) (ma:ME):MFl:=fun n ds ρ=>ma ρ fun d ρ'=>n ds (ρ'.set j (some d))
theorem ue {j:Nat} {y:Str} (hN:X.N.Nodup) (hj:X.N[j]? = some y) (hy:Loc X.env.scope y) (he:QF X M.ow e ma) (hij:i≠j:=by decide) (ho:M.ow[i]?≠some true:=by decide) (oj:M.ow[j]? = some true:=by decide) (uj:M.mu[j]?≠some true:=by decide)
 (hs:swapsWith e (some (.Name y pos')) pos.line X.env=pure false:=by rfl) (hf:X.fn y=true∨X.env.scope.names.lookup y=some .local:=by first | exact .inl rfl | exact .inr rfl | assumption) :
 QFl X M i (.Assign [.Name y pos'] e pos) (fSetO j ma):=by
 obtain ⟨t,p,s⟩:=he
 refine ⟨_,i5 hN hj hy p hs hf,fun C G ρ σ H p ds n D hm hn f h k=>?_⟩
 obtain ⟨xs,⟨O,ro,fo⟩,rs⟩:=f.ex
 refine s (C.pin p 'p') G ρ σ H [] _ _ ⟨O,ro.frame fo⟩ h fun d ρ' v G' H' hq z kp r'=>?_
 obtain ⟨O1,r1⟩:=r'
 obtain ⟨O2,r2⟩:=r1.setO oj (hm.no uj) (by show C.np≤_; rw [hn]; exact Nat.zero_le _)
 obtain ⟨r3,f3⟩:=ro.unframe fo r2
 exact k ds _ _ G' H' hq z ⟨⟨xs,⟨O2,r3,f3⟩,Reps.mono z _ _ rs⟩,by rw [List.getElem?_set_ne (Ne.symm hij)]; exact tj kp ho f.no,by rw [List.getElem?_set_ne (Ne.symm hij)]; exact f.at'⟩
end
section
variable {X:Cx} {M:Md} {elt tg iter:Expr} {ifs:List Expr} {pos:Pos} {mi:MA} {mg:MG} {mt:MT} {me:ME} {scope:Scope} {cl:List (Str×Addr)} {rest:List Stmt} {mf:MFe}
end
section
variable {X:Cx} {ow:List Bool} {e:Expr} {ma:ME} {pos p2:Pos} {lo hi:Option Expr} {ml mh:MO}
end
end L2
namespace L2
open PySem
end L2
namespace L2
open PySem PySem.Spec PyProof.Rows
section
variable {X:Cx} {pins p:List (Addr×Obj)} {σ:St} {H:Hp} {s:Shared} {E:Value→Shared→Prop} {v:Value} {e:Addr} {cls:Value} {dx T:Option Addr}
variable {x:Str} {C D0:Addr} {bm bmD:List Value} {ini iniD:Option Value} {b0:Stmt} {suite:List Stmt} {np npos:Pos} {ts:TS} {D:Ends} {t:Addr}
end
section
variable {X:Cx} {ow:List Bool} {a b:Expr} {mex:MEX} {mb:ME} {pos:Pos}
theorem uR {op:CmpOp} {r:R2} {f:D→D→(D→Prop)→Prop} (ho:∀ E p,OpR (X.tr E p) (compareOp op) r) (hd:DOp r f) (ha:QXE X ow a mex) (hb:QE X.nox ow b mb) (hm:behindInMarks op b=false):QXE X ow (.Compare a [op] [b] pos) (fun xx=>mOp f (mex xx) mb):=by
 obtain ⟨ta,pa,sa⟩:=ha; obtain ⟨tb,pb,sb⟩:=hb
 refine ⟨fun xk=>tOp r (ta xk) tb,fun E q xk g=>nX (ho E q) (pa E q xk g) (PE.any pb) hm,fun C G ρ σ H pd q Q xx xk hr h kx k=>?_⟩
 refine sa C G ρ σ H pd _ _ xx xk hr h kx fun dx ρ1 x G1 H1 h1 s1 k1 r1 p1=>?_
 refine sb C G1 ρ1 σ H1 pd _ _ r1 h1 fun dy ρ2 y G2 H2 h2 s2 k2 r2 p2=>?_
 exact hd G2 H2 x y dx dy _ _ r2.gh (Rep.mono s2 _ _ p1) p2 h2 fun d v hq p=>k d ρ2 v G2 H2 hq (s1.trans s2) (k1.trans k2) r2 p
end
end L2
namespace L2
open PySem
end L2
namespace L2
open PySem PySem.Spec PyProof.Rows
section
variable {X:Cx} {pos p1 q1:Pos} {n1:Nat} {k1:Int} {x:Str} {i:Nat} {ow:List Bool}
end
section
variable {X:Cx} {ow:List Bool} {es:List Expr} {mr:MA} {pos:Pos}
theorem qH (h:QA X ow es mr) (hl:es.length≤1000:=by decide):QN X ow (.List es pos) mr:=by
 obtain ⟨t,p,s⟩:=h
 exact ⟨_,j7 p,fun C G ρ σ H pd q Q r hm k=>s C G ρ σ H pd _ _ r hm fun ds ρ' vs G' H' hq z kp r' p hn=>⟨b8 'a',fun a ha=>k _ ρ' _ _ _ _ hq z kp r' ha p⟩⟩
end
end L2
namespace L2
open PySem
end L2
namespace L2
open PySem PySem.Spec PyProof.Rows
theorem mm:bootBuiltins "all" = some (.builtin "all"):=by decide +kernel
section
variable {X:Cx}
def insI (ns:List Int) (k:Nat) (z:Int):List Int:=ns.take k++z :: ns.drop k
end
section
variable {X:Cx} {M:Md} {e e':Expr} {mr:MA} {pos:Pos}
def mInsI (i:Nat) (m:MA):MS:=fun n ρ=>match ρ[i]? with
 | some (some (.lst _))=>m ρ fun d ρ2=>match ρ2[i]? with
  | some (some (.lst ds))=>∃ (ns:List Int) (k:Nat) (z:Int),d=[.int k,.int z]∧ds=ns.map D.int∧k≤ns.length∧ns.length<1000∧n.nx (ρ2.set i (some (aL (insI ns k z))))
  | _=>False
 | _=>False
def mAug (i:Nat) (g:Int→Int→Int) (m:ME):MS:=fun n ρ=>match ρ[i]? with
 | some (some (.int x))=>m ρ fun d ρ1=>match d with
  | .int y=>n.nx (ρ1.set i (some (.int (g x y))))
  | _=>False
 | _=>False
theorem xJ {i:Nat} {x:Str} {e:Expr} {ma:ME} {op:Operator} {g:Int→Int→Int} {pos':Pos} (hN:X.N.Nodup) (hi:X.N[i]? = some x) (hx:Loc X.env.scope x) (hp:PIp X op (ipI g)) (he:QE X M.ow e ma) (ho:M.ow[i]?≠some true:=by decide) (hu:M.mu[i]?≠some true:=by decide)
 (hf:X.fn x=true∨X.env.scope.names.lookup x=some .local:=by first | exact .inl rfl | exact .inr rfl | assumption):QS X M (.AugAssign (.Name x pos') op e pos) (mAug i g ma):=by
 obtain ⟨t,p,s⟩:=he
 refine ⟨_,xq hN hi hx p hp hf,fun C G ρ σ H n D hm hn r h k=>?_⟩
 unfold mAug at h
 split at h
 ·rename_i z ez
  have r0:=r
  obtain ⟨O,ro⟩:=r0
  obtain ⟨v,h1,h2⟩:=ro.sl i _ ez
  rw [if_neg ho] at h2
  refine ⟨v,h1,s C G ρ σ H [] _ _ r h fun d ρ' w G' H' hq zz kp r' pd=>?_⟩
  cases d with
  | int y =>
   obtain ⟨O',r'⟩:=r'
   exact ⟨z,y,ay h2,ay pd,k.nx _ _ G' H' hq zz ⟨O',r'.setS ho (hm.no hu) (ba _)⟩⟩
  | _=>exact hq.elim
 ·exact h.elim
end
end L2
namespace L2
open PySem
def askN (as:List Ask) (k:Int):Ask:=as.getD k.toNat ask0
end L2
namespace L2
open PySem PySem.Spec PyProof.Rows
section
variable {X:Cx}
end
end L2
namespace L2
open PySem
end L2
namespace L2
open PySem PySem.Spec PyProof.Rows
section
variable {X:Cx}
variable {ow:List Bool} {e e2:Expr} {ma mb:ME}
end
end L2
namespace L2
open PySem
end L2
namespace L2
open PySem PySem.Spec PyProof.Rows
section
variable {X:Cx}
end
end L2
namespace L2
open PySem
end L2
namespace L2
open PySem PySem.Spec PyProof.Rows
section
variable {κ:Type} [DecidableEq κ]
def fF (kvs:List (κ×V)) (k : κ):Option V:=(kvs.find? fun kv=>decide (kv.1=k)).map (·.2)
def dO (kvs:List (κ×V)) (k : κ) (v:V):List (κ×V) :=
 if (kvs.any fun kv=>decide (kv.1=k))=true then kvs.map (fun kv=>if kv.1=k then (kv.1,v) else kv) else kvs++[(k,v)]
theorem ge {p : κ×V} {r:List (κ×V)} {k : κ} (e:p.1=k):fF (p :: r) k=some p.2:=by simp [fF,List.find?_cons,e]
theorem f_ {p : κ×V} {r:List (κ×V)} {k : κ} (e : ¬ p.1=k):fF (p :: r) k=fF r k:=by simp [fF,List.find?_cons,e]
theorem l6 (k : κ):∀ kvs:List (κ×V),(kvs.any fun kv=>decide (kv.1=k))=(fF kvs k).isSome
 | []=>rfl
 | p :: r=>by
  rw [List.any_cons]
  by_cases e:p.1=k
  ·simp only [ge e,decide_eq_true e,Bool.true_or,Option.isSome_some]
  ·rw [f_ e,decide_eq_false e,Bool.false_or]; exact l6 k r
theorem g7 (kvs:List (κ×V)) (k : κ) (v:V):(dO kvs k v).length≤kvs.length + 1:=by
 unfold dO
 split
 ·rw [List.length_map]; omega
 ·rw [List.length_append,List.length_cons,List.length_nil]; omega
theorem h9.isSome_eq {o:Option V} {u:Option Value} (r:h9 o u):o.isSome=u.isSome:=by
 cases o with
 | none=>cases u with
  | none=>rfl
  | some _=>exact (show False from r).elim
 | some _=>cases u with
  | none=>exact (show False from r).elim
  | some _=>rfl
theorem KV.val {kvs:List (κ×V)} {vs:List (κ×Value)} (r:KV kvs vs) (k : κ):h9 (fF kvs k) (valueAt vs k):=by
 unfold KV at r
 induction r with
 | nil=>exact True.intro
 | @cons p q ps qs h t ih =>
  obtain ⟨h1,h2⟩:=h
  by_cases e:p.1=k
  ·have e':q.1=k:=h1.symm.trans e
   have b:valueAt (q :: qs) k=some q.2:=by simp [valueAt,List.find?_cons,e']
   rw [ge e,b]; exact h2
  ·have e' : ¬ q.1=k:=fun z=>e (h1.trans z)
   have b:valueAt (q :: qs) k=valueAt qs k:=by simp [valueAt,List.find?_cons,e']
   rw [f_ e,b]; exact ih
theorem KV.any {kvs:List (κ×V)} {vs:List (κ×Value)} (r:KV kvs vs) (k : κ):(kvs.any fun kv=>decide (kv.1=k))=vs.any fun kv=>decide (kv.1=k):=by
 unfold KV at r
 induction r with
 | nil=>rfl
 | cons h t ih=>rw [List.any_cons,List.any_cons,ih,h.1]
theorem KV.repl {kvs:List (κ×V)} {vs:List (κ×Value)} (r:KV kvs vs) (k : κ) {y:V} {u:Value} (ry:aT y u) :
 KV (kvs.map fun kv=>if kv.1=k then (kv.1,y) else kv) (vs.map fun kv=>if kv.1=k then (kv.1,u) else kv):=by
 unfold KV at r ⊢
 induction r with
 | nil=>exact .nil
 | @cons p q ps qs h t ih =>
  rw [List.map_cons,List.map_cons]
  refine .cons ?_ ih
  obtain ⟨h1,h2⟩:=h
  by_cases e:p.1=k
  ·rw [if_pos e,if_pos (h1.symm.trans e)]; exact ⟨h1,ry⟩
  ·rw [if_neg e,if_neg (fun z=>e (h1.trans z))]; exact ⟨h1,h2⟩
theorem KV.put {kvs:List (κ×V)} {vs:List (κ×Value)} (r:KV kvs vs) (k : κ) {y:V} {u:Value} (ry:aT y u):KV (dO kvs k y) (stored vs k u):=by
 unfold dO stored
 rw [r.any k]
 by_cases e:(vs.any fun kv=>decide (kv.1=k))=true
 ·rw [if_pos e,if_pos e]; exact r.repl k ry
 ·rw [if_neg e,if_neg e]; exact Paired.snoc r ⟨rfl,ry⟩
theorem KV.length {kvs:List (κ×V)} {vs:List (κ×Value)} (r:KV kvs vs):kvs.length=vs.length:=Paired.length r
end
theorem nV {P:Program} {w:World} {k:Key} {u:Value} (r:aT (kV k) u):(bF P w).is k u=true:=by
 cases k with
 | inl i=>obtain ⟨t,e⟩:=(show ∃ t,u=Value.int i t from r); subst e; exact gZ P w i t
 | inr x=>obtain ⟨t,e⟩:=(show ∃ t,u=Value.str x t from r); subst e; exact lv P w x t
theorem jx {P:Program} {w:World}:∀ {ks:List Key} {us:List Value},aM (ks.map kV) us→ItemsAre (bF P w) ks us
 | [],_,r=>by rw [List.map_nil] at r; cases r; exact .nil
 | k :: ks,_,r=>by
  rw [List.map_cons] at r
  cases r with
  | cons h t=>exact .cons (nV h) (jx t)
abbrev KT (H:Hp):List (List Key×V)→List (List Key×Addr×Value)→Prop:=Paired fun p q=>p.1=q.1∧H q.2.1=some (.tup (p.1.map kV))∧aT p.2 q.2.2
theorem KT.val {H:Hp} {kvs:List (List Key×V)} {xs:List (List Key×Addr×Value)} (r:KT H kvs xs) (k:List Key):h9 (fF kvs k) ((atKey xs k).map (·.2)):=by
 induction r with
 | nil=>exact True.intro
 | @cons p q ps qs h t ih =>
  obtain ⟨h1,_,h2⟩:=h
  by_cases e:p.1=k
  ·have e':q.1=k:=h1.symm.trans e
   have b:atKey (q :: qs) k=some q.2:=by simp [atKey,List.find?_cons,e']
   rw [ge e,b]; exact h2
  ·have e' : ¬ q.1=k:=fun z=>e (h1.trans z)
   have b:atKey (q :: qs) k=atKey qs k:=by simp [atKey,List.find?_cons,e']
   rw [f_ e,b]; exact ih
theorem KT.repl {H:Hp} {kvs:List (List Key×V)} {xs:List (List Key×Addr×Value)} (r:KT H kvs xs) (k:List Key) {y:V} {u:Value} (ry:aT y u) :
 KT H (kvs.map fun kv=>if kv.1=k then (kv.1,y) else kv) (xs.map (putAt k u)):=by
 induction r with
 | nil=>exact .nil
 | @cons p q ps qs h t ih =>
  rw [List.map_cons,List.map_cons]
  refine .cons ?_ ih
  obtain ⟨h1,h2,h3⟩:=h
  unfold putAt
  by_cases e:p.1=k
  ·rw [if_pos e,if_pos (h1.symm.trans e)]; exact ⟨h1,h2,ry⟩
  ·rw [if_neg e,if_neg (fun z=>e (h1.trans z))]; exact ⟨h1,h2,h3⟩
theorem KT.put {H:Hp} {kvs:List (List Key×V)} {xs:List (List Key×Addr×Value)} (r:KT H kvs xs) (k:List Key) {b:Addr} {y:V} {u:Value} (hb:H b=some (.tup (k.map kV))) (ry:aT y u) :
 KT H (dO kvs k y) (storedH xs k b u):=by
 have e:(kvs.any fun kv=>decide (kv.1=k))=(atKey xs k).isSome:=by
  rw [l6,(r.val k).isSome_eq,Option.isSome_map]
 unfold dO storedH
 rw [e]
 by_cases q:(atKey xs k).isSome=true
 ·rw [if_pos q,if_pos q]; exact r.repl k ry
 ·rw [if_neg q,if_neg q]; exact Paired.snoc r ⟨rfl,hb,ry⟩
theorem KT.keeps {H H':Hp} {kvs:List (List Key×V)} {xs:List (List Key×Addr×Value)} (r:KT H kvs xs) (ht:∀ b ys,H b=some (.tup ys)→H' b=some (.tup ys)):KT H' kvs xs :=
 Paired.mapP r fun _ _ z=>⟨z.1,ht _ _ z.2.1,z.2.2⟩
section
variable {P:Program} {w:World} {H:Hp} {h:Heap} {a:Addr}
theorem vA {u:HO} (ok:HOk P w H h) (e:Rd H a u):aP P w H h a u:=e.ok ok
theorem oB {kvs:List (Key×V)} (ok:HOk P w H h) (e:Rd H a (.dK kvs)):kvs.length≤sizeLine∧(a == sysModules)=false∧∃ vs,KV kvs vs∧h.DictOf (bF P w) a vs :=
 show aP P w H h a (.dK kvs) from vA ok e
theorem dk_of {kvs:List (Key×V)} (ok:HOk P w H h) (e:H a=some (.dK kvs)):kvs.length≤sizeLine∧(a == sysModules)=false∧∃ vs,KV kvs vs∧h.DictOf (bF P w) a vs:=oB ok (.inl e)
theorem kI {ks:List Key} (ok:HOk P w H h) (e:H a=some (.tup (ks.map kV))):(tupleKind (bF P w)).is h ks a:=by
 obtain ⟨_,its,r,o,h1,h2,n,h3⟩:=(show aP P w H h a (.tup (ks.map kV)) from ok a _ e)
 exact ⟨o,its.toArray,n,h1,h2,h3,by simpa using jx r⟩
theorem nT {kvs:List (List Key×V)} (ok:HOk P w H h) (e:Rd H a (.dT kvs)):kvs.length≤sizeLine∧(a == sysModules)=false ∧
 ∃ xs,KT H kvs xs∧h.DictOfH (tupleKind (bF P w)) a xs:=by
 obtain ⟨z,y,xs,r,o,es,ep,h1,h2,h3,h4,h5⟩:=(show aP P w H h a (.dT kvs) from vA ok e)
 refine ⟨z,y,xs,r,o,es,ep,h1,h2,h3,h4,fun x hx=>?_,h5⟩
 have all:∀ {l:List (List Key×V)} {m:List (List Key×Addr×Value)},KT H l m→∀ x∈m,(tupleKind (bF P w)).is h x.1 x.2.1:=by
  intro l m q
  induction q with
  | nil=>intro x hx; exact nomatch hx
  | @cons p q ps qs hq t ih =>
   intro x hx
   rcases List.mem_cons.mp hx with e | hx
   ·subst e
    exact kI ok (by rw [← hq.1]; exact hq.2.1)
   ·exact ih x hx
 exact all r x hx
theorem dt_of {kvs:List (List Key×V)} (ok:HOk P w H h) (e:H a=some (.dT kvs)):kvs.length≤sizeLine∧(a == sysModules)=false ∧
 ∃ xs,KT H kvs xs∧h.DictOfH (tupleKind (bF P w)) a xs:=nT ok (.inl e)
end
def lh (H:Hp) (a:Addr) (y:V) (r:Option V):Prop :=
 (∃ kvs k,Rd H a (.dK kvs)∧y=kV k∧r=fF kvs k)∨∃ kvs k b,Rd H a (.dT kvs)∧y = .ref b∧H b=some (.tup (k.map kV))∧r=fF kvs k
def sU (H:Hp) (a:Addr) (y v:V) (H':Hp):Prop :=
 (∃ kvs k,H a=some (.dK kvs)∧y=kV k∧kvs.length<sizeLine∧H'=upd H a (.dK (dO kvs k v))) ∨
 ∃ kvs k b,H a=some (.dT kvs)∧y = .ref b∧H b=some (.tup (k.map kV))∧kvs.length<sizeLine∧H'=upd H a (.dT (dO kvs k v))
theorem lh.k {H:Hp} {a:Addr} {kvs:List (Key×V)} {k:Key} (e:H a=some (.dK kvs)):lh H a (kV k) (fF kvs k):=.inl ⟨kvs,k,.inl e,rfl,rfl⟩
theorem sU.k {H:Hp} {a:Addr} {kvs:List (Key×V)} {k:Key} {v:V} (e:H a=some (.dK kvs)) (hl:kvs.length<sizeLine):sU H a (kV k) v (upd H a (.dK (dO kvs k v))):=.inl ⟨kvs,k,e,rfl,hl,rfl⟩
section
variable {X:Cx} {pins:List (Addr×Obj)} {σ:St} {H:Hp} {s:Shared} {a:Addr} {y v:V} {u r:Value} {o:Option V} {A:Around} {E:Value→Shared→Prop}
theorem o_ {Q:Value→Shared→Prop} (hu:A.units + 1<cLine) (I:Inv X pins σ H s) (g:lh H a y (some v)) (ry:aT y u) (h:∀ w' s',Inv X pins σ H s'→aT v w'→Q w' s') :
 wpAny 'b' A (getItem (.ref a) u) Q E s:=by
 rcases g with ⟨kvs,k,e,ey,l⟩ | ⟨kvs,k,b,e,ey,eb,l⟩
 ·subst ey
  obtain ⟨z,hd,vs,rel,dd⟩:=oB I.hok e
  obtain ⟨w',hw,rw'⟩:=h9.some_of (v:=v) (o:=valueAt vs k) (by rw [l]; exact rel.val k)
  exact wpAny_getItem_of (nV ry) dd.mapOf hw (h w' _ (I.tok _) rw')
 ·subst ey
  cases (show u=Value.ref b from ry)
  obtain ⟨z,hd,xs,rel,dd⟩:=nT I.hok e
  obtain ⟨w',hw,rw'⟩:=h9.some_of (v:=v) (o:=(atKey xs k).map (·.2)) (by rw [l]; exact rel.val k)
  obtain ⟨p,hp,hp2⟩:=Option.map_eq_some_iff.mp hw
  refine wpAny_getItem_heap (tupleKind_room_in1 hu) (kI I.hok eb) dd hp ?_
  rw [hp2]
  exact h w' _ (I.tok _) rw'
theorem uC {Q:Value→Shared→Prop} (hu:A.units + 1<cLine) (I:Inv X pins σ H s) (g:lh H a y o) (ry:aT y u) (h:∀ s',Inv X pins σ H s'→Q (.bool (!o.isSome)) s') :
 wpAny 'b' A (compareOp .NotIn u (.ref a)) Q E s:=by
 rcases g with ⟨kvs,k,e,ey,l⟩ | ⟨kvs,k,b,e,ey,eb,l⟩
 ·subst ey
  obtain ⟨z,hd,vs,rel,dd⟩:=oB I.hok e
  refine wpAny_notIn_of (nV ry) hd dd.mapOf ?_
  rw [← (rel.val k).isSome_eq,← l]
  exact h _ (I.tok _)
 ·subst ey
  cases (show u=Value.ref b from ry)
  obtain ⟨z,hd,xs,rel,dd⟩:=nT I.hok e
  refine wpAny_notIn_heap (tupleKind_room_in1 hu) (kI I.hok eb) hd dd ?_
  have q:=(rel.val k).isSome_eq
  rw [Option.isSome_map] at q
  rw [← q,← l]
  exact h _ (I.tok _)
theorem oF {h':Heap} {t':Nat} {ob:HO} (I:Inv X pins σ H s) (mu:Mut (H a)) (hs:Heap.SameBut a s.heap h') (he:∃ q,h'.get? a=some q) (new:aP X.prog X.w (upd H a ob) h' a ob) :
 Inv X pins σ (upd H a ob) { s with heap:=h',toks:=t' } :=
 I.write (x:=a) (e:=a) mu (.inl rfl) (fun b q hb z=>(hs.2 b hb).trans z) he new
theorem vY {P:Program} {w:World} {H':Hp} {h':Heap} {kvs:List (Key×V)} {vs:List (Key×Value)} (z:kvs.length≤sizeLine) (hd:(a == sysModules)=false) (rel:KV kvs vs) (dd:h'.DictOf (bF P w) a vs) :
 aP P w H' h' a (.dK kvs):=⟨z,hd,vs,rel,dd⟩
theorem pk {H':Hp} {Q:Unit→Shared→Prop} (hu:A.units + 1<cLine) (I:Inv X pins σ H s) (g:sU H a y v H') (ry:aT y u) (rv:aT v r) (h:∀ s',Inv X pins σ H' s'→Q () s') :
 wpAny 'b' A (setItem (.ref a) u r) Q E s:=by
 rcases g with ⟨kvs,k,e,ey,l,eH⟩ | ⟨kvs,k,b,e,ey,eb,l,eH⟩
 ·subst ey eH
  obtain ⟨z,hd,vs,rel,dd⟩:=dk_of I.hok e
  have hz:vs.length≤sizeLine:=by rw [← rel.length]; exact z
  have hl:(dO kvs k v).length≤sizeLine:=by have:=g7 kvs k v; omega
  refine wpAny_setItem_pairs (hsz:=hz) (nV ry) dd fun h' dd' hs=>h _ ?_
  have he:∃ q,h'.get? a=some q:=let ⟨q,_,_,hq,_⟩:=dd'; ⟨q,hq⟩
  exact oF I (by rw [e]; exact True.intro) hs he (vY hl hd (rel.put k rv) dd')
 ·subst ey eH
  cases (show u=Value.ref b from ry)
  obtain ⟨z,hd,xs,rel,dd⟩:=dt_of I.hok e
  have hz:xs.length≤sizeLine:=by rw [← Paired.length rel]; exact z
  have hl:(dO kvs k v).length≤sizeLine:=by have:=g7 kvs k v; omega
  refine wpAny_setItem_heap (hsz:=hz) (tupleKind_room_in1 hu) (kI I.hok eb) dd fun h' dd' hs=>h _ ?_
  obtain ⟨q,es,ep,hq,h2,h3,h4,_,h5⟩:=dd'
  refine oF I (by rw [e]; exact True.intro) hs ⟨q,hq⟩ ⟨hl,hd,_,(rel.put k eb rv).keeps fun c ys ec=>?_,q,es,ep,hq,h2,h3,h4,h5⟩
  rw [ah (ne_of ec e (fun z=>nomatch z))]
  exact ec
end
section
variable {X:Cx} {pins:List (Addr×Obj)} {σ:St} {H:Hp} {s:Shared} {a:Addr} {kvs:List (Key×V)} {k:Key} {u:Value} {A:Around} {E:Value→Shared→Prop}
end
def NoSl (i:Expr):Prop:=∀ ov iv,subscripted i false ov iv=operate [ov,iv] (getItem ov iv)
theorem tF {prog:Program} {w:World} {A:Around} {E:Value→Shared→Prop} {s:Shared} {env:Env} {value slice:Expr} {pos:Pos} {T id:String} {Q:Value→Shared→Prop}
 (hl:typeLookup (.type T) "__getitem__" = pure (some (.builtin id))) (hs:NoSl slice)
 (h:wpAny 's' A (eval value env) (fun o s₁=>wpAny 's' A (eval slice env) (fun i s₂=>s₂.TypeIs o T∧wpAny 's' A (getItem o i) Q E s₂) E s₁) E s) :
 wpAny 's' A (eval (.Subscript value slice pos) env) Q E s:=by
 refine Subscript_ (wpAny_mono h (fun o s₁ h₁=>wpAny_mono h₁ (fun i s₂ h₂=>?_) fun _ _ x=>x) fun _ _ x=>x)
 obtain ⟨hT,h₂⟩:=h₂
 unfold subscriptTail
 refine wpAny_bind ?_
 rw [getitemInPython_of_ne hT.not_modules]
 refine wpAny_bind (wpAny_specialOf hT hl ?_)
 have fin:wpAny 's' A (subscripted slice false o i) (fun r s₃=>wpAny 's' A (letTemporaryGo value o r >>= fun _=>pure r) Q E s₃) E s₂:=by
  rw [hs o i]
  exact wpAny_operating (wpAny_mono h₂ (fun r s₃ h₃=>wpAny_bind (wpAny_letTemporaryGo (wpAny_pure h₃))) fun _ _ x=>x)
 first
  | exact wpAny_pure (wpAny_bind fin)
  | exact wpAny_bind (wpAny_pure (wpAny_bind fin))
  | exact wpAny_bind fin
theorem lT {X:Cx} {pins:List 'h'} {σ:St} {H:Hp} {s:Shared} {a:Addr} {y:V} {o:Option V} (I:Inv X pins σ H s) (g:lh H a y o):s.TypeIs (.ref a) "dict":=by
 rcases g with ⟨kvs,k,e,_,_⟩ | ⟨kvs,k,b,e,_,_,_⟩
 ·obtain ⟨_,_,vs,_,dd⟩:=oB I.hok e
  exact dd.typeIs
 ·obtain ⟨_,_,xs,_,dd⟩:=nT I.hok e
  exact dd.typeIs
def tDGet (td ty:TE):TE:=fun σ H Q=>td σ H fun x H1=>ty σ H1 fun y H2=>∃ a v,x = .ref a∧lh H2 a y (some v)∧Q v H2
def sDPut (td ty tv:TE):TS:=fun D σ H=>tv σ H fun v H1=>td σ H1 fun x H2=>ty σ H2 fun y H3=>∃ a H4,x = .ref a∧sU H3 a y v H4∧D.nx σ H4
section
variable {X:Cx} {o i e value:Expr} {pos pos' tpos:Pos} {td ty tv:TE}
theorem uu (hu:X.A.units + 1<cLine) (ho:PE X o td) (hi:PE X i ty) (hs:NoSl i):PE X (.Subscript o i pos) (tDGet td ty):=by
 (try refine ⟨?_⟩); intro pins s σ H Q I h
 refine tF PySem.F.slot_dict_getitem.lookup hs (thn (ho pins s σ H _ I h) fun u s1 ⟨x,H1,I1,rx,q1⟩=>thn (hi pins s1 σ H1 _ I1 q1) fun iv s2 ⟨y,H2,I2,ry,a,v,ex,g,q2⟩=>?_)
 subst ex
 obtain rfl:u=Value.ref a:=rx
 exact ⟨lT I2 g,o_ hu I2 g ry fun w' s3 I3 rw'=>⟨v,H2,I3,rw',q2⟩⟩
theorem tI (hu:X.A.units + 1<cLine) (ho:PE X o td) (hi:PE X i ty) (hv:PE X value tv) (hs:swapsWith value (some (.Subscript o i pos')) pos.line X.env=pure false) :
 PS X (.Assign [.Subscript o i pos'] value pos) (sDPut td ty tv):=by
 (try refine ⟨?_⟩); intro pins s σ H D I h
 refine wpAny_Assign_Subscript (thn (hv pins s σ H _ I h) fun r s1 ⟨v,H1,I1,rv,q1⟩=>thn (ho pins s1 σ H1 _ I1 q1) fun u s2 ⟨x,H2,I2,rx,q2⟩=>thn (hi pins s2 σ H2 _ I2 q2) fun iv s3 ⟨y,H3,I3,ry,a,H4,ex,g,q3⟩=>?_) hs
 subst ex
 obtain rfl:u=Value.ref a:=rx
 exact pk hu I3 g ry rv fun s4 I4=>⟨σ,H4,I4,q3⟩
end
section
variable {X:Cx} {pos:Pos}
end
section
variable {X:Cx} {pins:List (Addr×Obj)} {σ:St} {H:Hp} {s:Shared} {a:Addr} {y d:V} {u r:Value} {o:Option V} {A:Around} {E:Value→Shared→Prop}
end
section
variable {X:Cx} {o e f:Expr} {apos cpos:Pos} {td ty tx:TE}
end
section
variable {X:Cx} {pins:List (Addr×Obj)} {σ:St} {H:Hp} {s:Shared} {a:Addr} {kvs:List (Key×V)} {A:Around} {E:Value→Shared→Prop}
end
section
variable {X:Cx} {pins:List (Addr×Obj)} {σ:St} {H:Hp} {s:Shared} {a:Addr} {y:V} {u:Value} {A:Around} {E:Value→Shared→Prop}
end
def r_:Key→D
 | .inl i=>.int i
 | .inr x=>.str x
theorem kA {G:Hp} {k:Key} {v:V} (h:Rep G (r_ k) v):v=kV k:=by cases k <;> (unfold r_ at h; rw [Rep] at h; exact h)
def jd:List Key→List D→Key→Option D
 | j :: ks,d :: ds,k=>if j=k then some d else jd ks ds k
 | _,_,_=>none
def fm:List Key→Key→Bool
 | [],_=>false
 | j :: ks,k=>if j=k then true else fm ks k
def fM (ks:List Key) (k:Key):List Key:=if fm ks k=true then ks else ks++[k]
def putAt {α:Type} (ks:List Key) (xs:List α) (k:Key) (x : α):List α:=if fm ks k=true then List.zipWith (fun j y=>if j=k then x else y) ks xs else xs++[x]
theorem mM {G:Hp} {k:Key}:∀ {ks:List Key} {ds:List D} {xs:List V},ks.length=ds.length→Reps G ds xs→(jd ks ds k=none∧fF (ks.zip xs) k=none)∨∃ d v,jd ks ds k=some d∧fF (ks.zip xs) k=some v∧Rep G d v
 | [],[],xs,_,h=>.inl ⟨rfl,rfl⟩
 | j :: ks,d :: ds,xs,hl,h=>by
  rw [Reps] at h
  obtain ⟨v,vs,rfl,h1,h2⟩:=h
  rw [List.zip_cons_cons]
  by_cases e:j=k
  ·exact .inr ⟨d,v,by rw [jd,if_pos e],by rw [ge (p:=(j,v)) e],h1⟩
  ·rw [jd,if_neg e,f_ (p:=(j,v)) e]
   exact mM (by simpa using hl) h2
 | [],_ :: _,_,hl,_=>by simp at hl
 | _ :: _,[],_,hl,_=>by simp at hl
theorem jL:∀ {ks:List Key} {ds:List D} {k:Key},ks.length=ds.length→(jd ks ds k).isSome=fm ks k
 | [],[],k,_=>rfl
 | j :: ks,d :: ds,k,hl=>by
  rw [jd,fm]
  by_cases e:j=k
  ·rw [if_pos e,if_pos e]; rfl
  ·rw [if_neg e,if_neg e,jL (by simpa using hl)]
 | [],_ :: _,_,hl=>by simp at hl
 | _ :: _,[],_,hl=>by simp at hl
theorem pI {α:Type} {ks:List Key} {xs:List α} {k:Key} {x : α} (h:ks.length=xs.length):(fM ks k).length=(putAt ks xs k x).length:=by
 unfold fM putAt; split <;> simp [h]
theorem oR {β:Type} {k:Key}:∀ {ks:List Key} {xs:List β},ks.length=xs.length→((ks.zip xs).any fun kv=>decide (kv.1=k))=fm ks k
 | [],[],_=>rfl
 | j :: ks,x :: xs,hl=>by
  rw [List.zip_cons_cons,List.any_cons,oR (by simpa using hl),fm]
  by_cases e:j=k
  ·simp [e]
  ·simp [e]
 | [],_ :: _,hl=>by simp at hl
 | _ :: _,[],hl=>by simp at hl
theorem u8 {ks:List Key} {xs:List V} {k:Key} {v:V} (h:ks.length=xs.length):dO (ks.zip xs) k v=(fM ks k).zip (putAt ks xs k v):=by
 unfold dO fM putAt
 rw [oR h]
 by_cases e:fm ks k=true
 ·rw [if_pos e,if_pos e,if_pos e]
  clear e
  induction ks generalizing xs with
  | nil=>rfl
  | cons j ks ih =>
   cases xs with
   | nil=>simp at h
   | cons x xs =>
    rw [List.zip_cons_cons,List.map_cons,List.zipWith_cons_cons,List.zip_cons_cons,ih (by simpa using h)]
    by_cases e:j=k <;> simp [e]
 ·rw [if_neg e,if_neg e,if_neg e]
  rw [List.zip_append h]; rfl
theorem lc {G H:Hp} {O:Own} {i:Nat} {k:Key} {d:D} {v:V} (hi:imm d=true) (hr:Rep G d v):∀ {ks:List Key} {ds:List D} {m:Nat} {π:List Nat} {xs:List V},ks.length=ds.length→Seps G H O i ds m π xs →
 Seps G H O i (List.zipWith (fun j y=>if j=k then d else y) ks ds) m π (List.zipWith (fun j y=>if j=k then v else y) ks xs)
 | [],[],m,π,xs,_,h=>by rw [Seps] at h; subst h; show Seps _ _ _ _ [] _ _ []; rw [Seps]
 | j :: ks,e :: ds,m,π,xs,hl,h=>by
  rw [Seps] at h
  obtain ⟨u,us,rfl,h1,h2⟩:=h
  rw [List.zipWith_cons_cons,List.zipWith_cons_cons,Seps]
  refine ⟨_,_,rfl,?_,lc hi hr (by simpa using hl) h2⟩
  by_cases c:j=k
  ·rw [if_pos c,if_pos c]; exact hr.sep d _ v hi
  ·rw [if_neg c,if_neg c]; exact h1
 | [],_ :: _,_,_,_,hl,_=>by simp at hl
 | _ :: _,[],_,_,_,hl,_=>by simp at hl
theorem nL {G H:Hp} {O:Own} {i:Nat} {k:Key} {d:D} {v:V} {ks:List Key} {ds:List D} {π:List Nat} {xs:List V} (hi:imm d=true) (hr:Rep G d v) (hl:ks.length=ds.length) (h:Seps G H O i ds 0 π xs) :
 Seps G H O i (putAt ks ds k d) 0 π (putAt ks xs k v):=by
 unfold putAt
 split
 ·exact lc hi hr hl h
 ·exact h.snoc (hr.sep d _ v hi)
section
variable {C:Ctx} {ow:List Bool} {G:Hp} {ρ:DSt} {σ:St} {H:Hp} {pd:List (D×V)} {O:Own}
theorem RO.newD (h:RO C ow G ρ σ H pd O) {p:Addr} (hp:H p=none):R C ow G ρ σ (upd H p (.dK [])) ((.dic [] [],.ref p) :: pd):=by
 obtain ⟨gp,op,_⟩:G p=none∧O p=none∧C.H p=none:=h.free hp
 have ne:∀ a l,O a=some l→a≠p:=fun a l e z=>by rw [z,op] at e; cases e
 let O':Own:=fun a=>if a=p then some (2 * pd.length + 1,[]) else O a
 have old:∀ a l,O a=some l→O' a=some l:=fun a l e=>by
  show (if a=p then _ else _)=_
  rw [if_neg (ne a _ e),e]
 refine ⟨O',h.len,?_,h.g0,h.gn,?_,h.cok,?_,?_,h.mp,?_,⟨?_,?_⟩,Nat.le_succ_of_le h.np⟩
 ·intro a u e
  rw [ah (fun z=>by rw [z,gp] at e; cases e)]
  exact h.gh _ _ e
 ·intro a l e
  by_cases z:a=p
  ·subst z; exact ⟨gp,⟨.inr [],ao⟩,.inl (h.al _ hp)⟩
  ·rw [ah z]
   change (if a=p then _ else _)=_ at e
   rw [if_neg z] at e
   exact h.og a _ e
 ·intro a u e n
  rw [ah (ar (h.fr a u e n) hp)]
  exact h.fr a u e n
 ·intro a e
  by_cases z:a=p
  ·subst z; rw [ao] at e; cases e
  ·rw [ah z] at e; exact h.al a e
 ·intro i d e
  obtain ⟨v,h1,h2⟩:=h.sl i d e
  refine ⟨v,h1,?_⟩
  split at h2
  ·rename_i c; rw [if_pos c]; exact h2.keep 'r' fun a τ q=>⟨old a _ q,ah (ne a _ q)⟩
  ·rename_i c; rw [if_neg c]; exact h2
 ·rw [Sep]
  exact ⟨p,[],rfl,by show (if p=p then _ else _)=_; rw [if_pos rfl],ao,rfl,by rw [Seps]⟩
 ·exact bE.keep 'r' (fun a j π hj q=>⟨old a _ q,ah (ne a _ q)⟩) h.pn
theorem RO.writeD (h:RO C ow G ρ σ H pd O) {i:Nat} {ks:List Key} {ds:List D} (e : ρ[i]? = some (some (.dic ks ds))) (hi:ow[i]? = some true) :
 ∃ a xs,σ[i]? = some (some (.ref a))∧H a=some (.dK (ks.zip xs))∧ks.length=ds.length∧Seps G H O (2 * i) ds 0 [] xs ∧
  ∀ (ks':List Key) ds' xs',ks'.length=ds'.length→Seps G H O (2 * i) ds' 0 [] xs'→RO C ow G (ρ.set i (some (.dic ks' ds'))) σ (upd H a (.dK (ks'.zip xs'))) pd O:=by
 obtain ⟨v,hv,s⟩:=h.sl i _ e
 rw [if_pos hi,Sep] at s
 obtain ⟨a,xs,rfl,hO,hH,hl,hs⟩:=s
 refine ⟨a,xs,hv,hH,hl,hs,fun ks' ds' xs' hl' hs'=>?_⟩
 obtain ⟨g0,_,nw⟩:=h.og a _ hO
 have ne:∀ b l π,O b=some (l,π)→(l≠2 * i∨π≠[])→b≠a:=fun b l π q n z=>by
  subst z
  rw [hO] at q
  obtain ⟨q1,q2⟩:=Prod.mk.inj (Option.some.inj q)
  rcases n with n | n
  ·exact n q1.symm
  ·exact n q2.symm
 refine ⟨by simp [h.len],?_,h.g0,h.gn,?_,h.cok,?_,?_,h.mp,?_,?_,h.np⟩
 ·intro b o q
  rw [ah (fun z=>by rw [z,g0] at q; cases q)]; exact h.gh _ _ q
 ·intro b l q
  obtain ⟨q1,⟨ys,q2⟩,q3⟩:=h.og b l q
  refine ⟨q1,?_,q3⟩
  by_cases z:b=a
  ·subst z; exact ⟨.inr _,ao⟩
  ·rw [ah z]; exact ⟨ys,q2⟩
 ·intro b o q n
  by_cases z:b=a
  ·subst z
   rcases nw with nw | ⟨_,nw⟩
   ·rw [nw] at q; cases q
   ·rw [nw] at n; cases n
  ·rw [ah z]; exact h.fr b o q n
 ·intro b q
  by_cases z:b=a
  ·subst z; rw [ao] at q; cases q
  ·rw [ah z] at q; exact h.al b q
 ·intro j u q
  rcases dE q with ⟨rfl,z⟩ | ⟨z,q'⟩
  ·cases z
   refine ⟨_,hv,?_⟩
   rw [if_pos hi,Sep]
   exact ⟨a,xs',rfl,hO,ao,hl',hs'.keep 'r' fun b τ hτ q=>⟨q,ah (ne b _ _ q (.inr (by simpa using hτ)))⟩⟩
  ·obtain ⟨w,h1,h2⟩:=h.sl j u q'
   refine ⟨w,h1,?_⟩
   split at h2
   ·rename_i c; rw [if_pos c]; exact h2.keep 'r' fun b τ q=>⟨q,ah (ne b _ _ q (.inl 'a'))⟩
   ·rename_i c; rw [if_neg c]; exact h2
 ·exact bE.keep 'r' (fun b j π hj q=>⟨q,ah (ne b _ _ q (.inl (fun z=>cc z.symm)))⟩) h.pn
end
section
variable {X:Cx} {M:Md} {ow:List Bool} {a b c e:Expr} {ma mb mc:ME} {pos:Pos}
theorem uF:QF X ow (.Dict [] [] pos) (mC (.dic [] [])):=⟨_,lO,fun C G ρ σ H pd q Q r hm k p hp=>by
 obtain ⟨O,r⟩:=r
 exact k _ ρ _ G _ hm (az.refl _) Kp.refl (r.newD hp)⟩
def vo:R2:=fun y x H Q=>∃ a kvs k,x = .ref a∧y=kV k∧H a=some (.dK kvs)∧Q (.bl (!(fF kvs k).isSome)) H
theorem jr (hu:X.A.units + 1<cLine):OpR X (compareOp .NotIn) vo:=by
 intro pins s σ H x y v u Q I rx ry h
 obtain ⟨p,kvs,k,rfl,rfl,g,q⟩:=h
 cases ry
 exact uC hu I (lh.k g) rx fun s' I'=>⟨.bl _,H,I',rfl,q⟩
def fInK (neg:Bool):D→D→(D→Prop)→Prop:=fun x y q=>match y with
 | .dic ks _=>∃ k,x=r_ k∧q (.bl (if neg then !fm ks k else fm ks k))
 | _=>False
theorem nO {G:Hp} {k:Key} {ks:List Key} {ds:List D} {xs:List V} (hl:ks.length=ds.length) (h:Reps G ds xs):(fF (ks.zip xs) k).isSome=fm ks k:=by
 rw [← jL (ds:=ds) hl]
 rcases mM (k:=k) hl h with ⟨e1,e2⟩ | ⟨d,v,e1,e2,_⟩ <;> rw [e1,e2] <;> rfl
theorem vn:DOp vo (fInK true):=fun G H x y dx dy q Q s p1 p2 hf k=>by
 unfold fInK at hf
 split at hf
 ·obtain ⟨kk,rfl,hq⟩:=hf
  rw [Rep] at p2
  obtain ⟨p,xs,rfl,g1,g2,g3⟩:=p2
  refine ⟨p,_,kk,rfl,kA p1,s _ _ g1,?_⟩
  rw [nO g2 g3]
  exact k _ _ hq (bN _)
 ·exact hf.elim
def vC:D→D→(D→Prop)→Prop:=fun x y q=>match x with
 | .dic ks ds=>∃ k d,y=r_ k∧jd ks ds k=some d∧q d
 | _=>False
theorem ig (hu:X.A.units + 1<cLine) (ha:QE X ow a ma) (hb:QE X ow b mb) (hs:NoSl b:=by exact fun _ _=>rfl):QE X ow (.Subscript a b pos) (mOp vC ma mb):=by
 obtain ⟨ta,pa,sa⟩:=ha; obtain ⟨tb,pb,sb⟩:=hb
 refine ⟨_,uu hu pa pb hs,fun C G ρ σ H pd q Q hr h k=>?_⟩
 refine gO sa sb hr h fun dx dy ρ' x y G' H' hf s kp r' p1 p2=>?_
 unfold vC at hf
 split at hf
 ·obtain ⟨kk,d,rfl,e,hq⟩:=hf
  rw [Rep] at p1
  obtain ⟨p,xs,rfl,g1,g2,g3⟩:=p1
  rcases mM (k:=kk) g2 g3 with ⟨e1,_⟩ | ⟨d',v,e1,e2,e3⟩
  ·rw [e] at e1; cases e1
  ·rw [e] at e1; cases e1
   refine ⟨p,v,rfl,?_,k d ρ' v G' H' hq s kp r' e3⟩
   rw [kA p2,← e2]
   exact lh.k (r'.gh _ _ g1)
 ·exact hf.elim
def mPutK (i:Nat) (mk m:ME):MS:=fun n ρ=>m ρ fun d ρ1=>imm d=true∧match ρ1[i]? with
 | some (some (.dic _ _))=>mk ρ1 fun kd ρ2=>match ρ2[i]? with
  | some (some (.dic ks ds))=>∃ k,kd=r_ k∧ks.length<1000∧n.nx (ρ2.set i (some (.dic (fM ks k) (putAt ks ds k d))))
  | _=>False
 | _=>False
theorem oZ {i:Nat} {x:Str} {npos spos:Pos} (hu:X.A.units + 1<cLine) (hN:X.N[i]? = some x) (he:QE X M.ow e ma) (hk:QE X M.ow b mb) (ho:M.ow[i]? = some true:=by decide)
 (hv:Vis X.env.scope x:=by first | exact Or.inl rfl | exact Or.inr 'c' | exact Or.inr (Or.inr rfl)) (hd:'d'=false:=by decide) (hcd:(x == ("__classdict__":Str))=false:=by decide)
 (hs:swapsWith e (some (.Subscript (.Name x npos) b spos)) pos.line X.env=pure false:=by rfl) :
 QS X M (.Assign [.Subscript (.Name x npos) b spos] e pos) (mPutK i mb ma):=by
 obtain ⟨t,p,s⟩:=he; obtain ⟨t2,p2,s2⟩:=hk
 refine ⟨_,tI hu (dq hN hv hd hcd) p2 p hs,fun C G ρ σ H n D hm hn r h k=>s C G ρ σ H [] _ _ r h fun d ρ' v G' H' hq z kp r' pv=>?_⟩
 obtain ⟨hi,hq⟩:=hq
 split at hq
 ·rename_i ks0 ds0 e0
  obtain ⟨O0,ro⟩:=r'
  obtain ⟨a,xs,hu,_⟩:=ro.writeD e0 ho
  refine ⟨.ref a,hu,?_⟩
  refine s2 C G' ρ' σ H' _ _ _ ⟨O0,ro⟩ hq fun dk ρ2 jv G2 H2 hq2 z2 kp2 r2 pj=>?_
  split at hq2
  ·rename_i ks ds e2
   obtain ⟨kk,rfl,hl,hq2⟩:=hq2
   obtain ⟨O2,r2⟩:=r2
   obtain ⟨a',xs',g1,g2,g3,g4,g5⟩:=r2.writeD e2 ho
   rw [hu] at g1; cases g1
   have hx:ks.length=xs'.length:=by rw [g4.length]; exact g3
   refine ⟨a,_,rfl,by rw [kA pj]; exact sU.k g2 (by rw [List.length_zip,← hx,Nat.min_self]; exact bH (Nat.le_of_lt hl)),?_⟩
   rw [u8 hx]
   exact k.nx _ _ G2 _ hq2 (z.trans z2) ⟨O2,g5 _ _ _ (pI g3) (nL hi (Rep.mono z2 _ _ pv) g3 g4)⟩
  ·exact hq2.elim
 ·exact hq.elim
end
def gr:D→Nat→Option D
 | .lst ds,c=>ds[c]?
 | .tup ds,c=>ds[c]?
 | _,_=>none
def putS:D→Nat→D→D
 | .lst ds,c,e=>.lst (ds.set c e)
 | .tup ds,c,e=>.tup (ds.set c e)
 | d,_,_=>d
def lenD:D→Nat
 | .lst ds=>ds.length
 | .tup ds=>ds.length
 | _=>0
def gL:List Nat→D→Option D
 | [],d=>some d
 | c :: p,d=>match gr d c with
  | some e=>gL p e
  | none=>none
def ki:List Nat→D→D→D
 | [],_,x=>x
 | c :: p,d,x=>match gr d c with
  | some e=>putS d c (ki p e x)
  | none=>d
def lS (H:Hp) (v:V) (xs:List V):Prop:=∃ b,v = .ref b∧(H b=some 'p'∨H b=some (.tup xs))
def cE (H:Hp):List Nat→V→V→Prop
 | [],v,u=>v=u
 | c :: p,v,u=>∃ xs w,lS H v xs∧xs[c]? = some w∧cE H p w u
theorem lS.one {H:Hp} {v:V} {xs ys:List V} (h:lS H v xs) (g:lS H v ys):xs=ys:=by
 obtain ⟨b,rfl,h⟩:=h
 obtain ⟨b',e,g⟩:=g
 cases e
 rcases h with h | h <;> rcases g with g | g <;> (rw [h] at g; cases g) <;> rfl
theorem lS.mono {H H':Hp} {v:V} {xs:List V} (s:az H H') (h:lS H v xs):lS H' v xs:=by
 obtain ⟨b,e,h⟩:=h
 exact ⟨b,e,h.imp (s _ _) (s _ _)⟩
theorem cE.mono {H H':Hp} (s:az H H'):∀ {p:List Nat} {v u:V},cE H p v u→cE H' p v u
 | [],_,_,h=>h
 | _ :: _,_,_,⟨xs,w,h1,h2,h3⟩=>⟨xs,w,h1.mono s,h2,h3.mono s⟩
theorem cE.one {H:Hp}:∀ {p:List Nat} {v u u':V},cE H p v u→cE H p v u'→u=u'
 | [],_,_,_,h,g=>h.symm.trans g
 | _ :: _,_,_,_,⟨xs,w,h1,h2,h3⟩,⟨ys,w',g1,g2,g3⟩=>by
  cases h1.one g1
  rw [h2] at g2; cases g2
  exact h3.one g3
theorem cE.snoc {H:Hp} {c:Nat} {xs:List V} {w:V}:∀ {p:List Nat} {v u:V},cE H p v u→lS H u xs→xs[c]? = some w→cE H (p++[c]) v w
 | [],v,u,h,g,e=>by cases h; exact ⟨xs,w,g,e,rfl⟩
 | _ :: _,_,_,⟨ys,w',h1,h2,h3⟩,g,e=>⟨ys,w',h1,h2,h3.snoc g e⟩
theorem jt {c:Nat}:∀ {p:List Nat} {d e:D},gL p d=some e→gL (p++[c]) d=gr e c
 | [],d,e,h=>by cases h; show (match gr d c with | some e=>gL [] e | none=>none)=_; cases gr d c <;> rfl
 | b :: p,d,e,h=>by
  show (match gr d b with | some e=>gL (p++[c]) e | none=>none)=_
  change (match gr d b with | some e=>gL p e | none=>none)=_ at h
  cases q:gr d b with
  | none=>rw [q] at h; cases h
  | some e'=>rw [q] at h; exact jt h
theorem Rep.walk {H:Hp}:∀ {p:List Nat} {d e:D} {v:V},Rep H d v→gL p d=some e→∃ u,cE H p v u∧Rep H e u
 | [],d,e,v,h,g=>by cases g; exact ⟨v,rfl,h⟩
 | c :: p,d,e,v,h,g=>by
  change (match gr d c with | some e=>gL p e | none=>none)=_ at g
  cases q:gr d c with
  | none=>rw [q] at g; cases g
  | some d1 =>
   rw [q] at g
   cases d with
   | lst ds =>
    rw [Rep] at h
    obtain ⟨a,xs,rfl,h1,h2⟩:=h
    obtain ⟨w,d',e1,e2,e3⟩:=gc (r:=c) h2 (List.getElem?_eq_some_iff.mp q).1
    rw [show ds[c]? = some d1 from q] at e2; cases e2
    obtain ⟨u,k1,k2⟩:=Rep.walk e3 g
    exact ⟨u,⟨xs,w,⟨a,rfl,.inl h1⟩,e1,k1⟩,k2⟩
   | tup ds =>
    rw [Rep] at h
    obtain ⟨a,xs,rfl,h1,h2⟩:=h
    obtain ⟨w,d',e1,e2,e3⟩:=gc (r:=c) h2 (List.getElem?_eq_some_iff.mp q).1
    rw [show ds[c]? = some d1 from q] at e2; cases e2
    obtain ⟨u,k1,k2⟩:=Rep.walk e3 g
    exact ⟨u,⟨xs,w,⟨a,rfl,.inr h1⟩,e1,k1⟩,k2⟩
   | _=>cases q
theorem Seps.repl {G H H':Hp} {O:Own} {i:Nat} {d':D}:∀ {es:List D} {k0:Nat} {π:List Nat} {ys:List V} {c:Nat} {u:V},Seps G H O i es k0 π ys→ys[c]? = some u→Sep G H' O i d' ((k0 + c) :: π) u →
 (∀ (j:Nat) d v,j≠c→Sep G H O i d ((k0 + j) :: π) v→Sep G H' O i d ((k0 + j) :: π) v)→Seps G H' O i (es.set c d') k0 π ys
 | [],k0,π,ys,c,u,h,e,_,_=>by rw [Seps] at h; subst h; simp at e
 | d :: es,k0,π,ys,0,u,h,e,h1,h2=>by
  rw [Seps] at h
  obtain ⟨w,ws,rfl,w1,w2⟩:=h
  simp at e; subst e
  rw [List.set_cons_zero,Seps]
  refine ⟨_,ws,rfl,by simpa using h1,?_⟩
  have all:∀ (es:List D) (k:Nat) (ws:List V),k0<k→Seps G H O i es k π ws→Seps G H' O i es k π ws:=by
   intro es
   induction es with
   | nil=>intro k ws _ h; rw [Seps] at *; exact h
   | cons d es ih =>
    intro k ws hk h
    rw [Seps] at *
    obtain ⟨v,vs,rfl,v1,v2⟩:=h
    refine ⟨v,vs,rfl,?_,ih (k + 1) vs 'a' v2⟩
    have:=h2 (k - k0) d v 'a'
    rw [show k0 + (k - k0)=k by omega] at this
    exact this v1
  exact all es (k0 + 1) ws 'a' w2
 | d :: es,k0,π,ys,c + 1,u,h,e,h1,h2=>by
  rw [Seps] at h
  obtain ⟨w,ws,rfl,w1,w2⟩:=h
  rw [List.set_cons_succ,Seps]
  refine ⟨w,ws,rfl,by have:=h2 0 d w 'a'; simpa using this (by simpa using w1),Seps.repl w2 (by simpa using e) ?_ ?_⟩
  ·rw [show k0 + 1 + c=k0 + (c + 1) by omega]; exact h1
  ·intro j d v hj
   rw [show k0 + 1 + j=k0 + (j + 1) by omega]
   exact h2 (j + 1) d v 'a'
theorem Sep.focus {G H:Hp} {O:Own} {i:Nat} (gh:az G H) (og:∀ a l,O a=some l→G a=none):∀ {p:List Nat} {d:D} {π:List Nat} {v:V} {ds:List D},Sep G H O i d π v→gL p d=some (.lst ds) →
 ∃ a xs,cE H p v (.ref a)∧O a=some (i,p.reverse++π)∧H a=some 'p'∧Seps G H O i ds 0 (p.reverse++π) xs ∧
  ∀ ds' xs',Seps G H O i ds' 0 (p.reverse++π) xs'→Sep G (upd H a (.lst xs')) O i (ki p d (.lst ds')) π v
 | [],d,π,v,ds,h,g=>by
  cases g
  rw [Sep] at h
  obtain ⟨a,xs,rfl,h1,h2,h3⟩:=h
  refine ⟨a,xs,rfl,h1,h2,h3,fun ds' xs' h'=>?_⟩
  show Sep G _ O i (.lst ds') π _
  rw [Sep]
  refine ⟨a,xs',rfl,h1,ao,h'.keep 'r' fun b τ hτ q=>⟨q,ah fun z=>?_⟩⟩
  rw [z,h1] at q
  have:=congrArg List.length (Prod.mk.inj (Option.some.inj q)).2
  simp at this
  exact hτ this
 | c :: p,d,π,v,ds,h,g=>by
  change (match gr d c with | some e=>gL p e | none=>none)=_ at g
  cases q:gr d c with
  | none=>rw [q] at g; cases g
  | some d1 =>
   rw [q] at g
   have other:∀ (a b:Addr) (j:Nat) (τ:List Nat),O a=some (i,p.reverse++c :: π)→O b=some (i,τ++j :: π)→j≠c→b≠a:=fun a b j τ ha hb hj z=>by
    rw [z,ha] at hb
    have e:=congrArg List.reverse (Prod.mk.inj (Option.some.inj hb)).2
    simp at e
    exact hj e.1.symm
   have lab:(c :: p).reverse++π=p.reverse++c :: π:=by simp
   have hset:∀ x,ki (c :: p) d x=putS d c (ki p d1 x):=fun x=>by
    show (match gr d c with | some e=>putS d c (ki p e x) | none=>d)=_
    rw [q]
   cases d with
   | lst es =>
    rw [Sep] at h
    obtain ⟨a0,ys,rfl,h1,h2,h3⟩:=h
    obtain ⟨w,e1,e2⟩:=h3.at (j:=c) q
    rw [Nat.zero_add] at e2
    obtain ⟨a,xs,k1,k2,k3,k4,k5⟩:=Sep.focus gh og e2 g
    have n0:a0≠a:=fun z=>by
     rw [← z,h1] at k2
     have:=congrArg List.length (Prod.mk.inj (Option.some.inj k2)).2
     simp at this
     omega
    refine ⟨a,xs,⟨ys,w,⟨a0,rfl,.inl h2⟩,e1,k1⟩,by rw [lab]; exact k2,k3,by rw [lab]; exact k4,fun ds' xs' h'=>?_⟩
    rw [hset]
    show Sep G _ O i (.lst (es.set c _)) π _
    rw [Sep]
    refine ⟨a0,ys,rfl,h1,by rw [ah n0]; exact h2,?_⟩
    refine h3.repl e1 (by rw [Nat.zero_add]; exact k5 ds' xs' (by rw [lab] at h'; exact h')) fun j d v hj s=>?_
    rw [Nat.zero_add] at s ⊢
    exact s.keep 'r' fun b τ qb=>⟨qb,ah (other a b j τ k2 qb hj)⟩
   | tup es =>
    rw [Sep] at h
    obtain ⟨a0,ys,rfl,h1,h3⟩:=h
    obtain ⟨w,e1,e2⟩:=h3.at (j:=c) q
    rw [Nat.zero_add] at e2
    obtain ⟨a,xs,k1,k2,k3,k4,k5⟩:=Sep.focus gh og e2 g
    refine ⟨a,xs,⟨ys,w,⟨a0,rfl,.inr (gh _ _ h1)⟩,e1,k1⟩,by rw [lab]; exact k2,k3,by rw [lab]; exact k4,fun ds' xs' h'=>?_⟩
    rw [hset]
    show Sep G _ O i (.tup (es.set c _)) π _
    rw [Sep]
    refine ⟨a0,ys,rfl,h1,?_⟩
    refine h3.repl e1 (by rw [Nat.zero_add]; exact k5 ds' xs' (by rw [lab] at h'; exact h')) fun j d v hj s=>?_
    rw [Nat.zero_add] at s ⊢
    exact s.keep 'r' fun b τ qb=>⟨qb,ah (other a b j τ k2 qb hj)⟩
   | _=>cases q
section
variable {C:Ctx} {ow:List Bool} {G:Hp} {ρ:DSt} {σ:St} {H:Hp} {pd:List (D×V)} {O:Own}
theorem RO.writeP (h:RO C ow G ρ σ H pd O) {i:Nat} {p:List Nat} {d:D} {ds:List D} (e : ρ[i]? = some (some d)) (hp:gL p d=some (.lst ds)) (hi:ow[i]? = some true) :
 ∃ v a xs,σ[i]? = some (some v)∧cE H p v (.ref a)∧H a=some 'p'∧Seps G H O (2 * i) ds 0 p.reverse xs ∧
  ∀ ds' xs',Seps G H O (2 * i) ds' 0 p.reverse xs'→RO C ow G (ρ.set i (some (ki p d (.lst ds')))) σ (upd H a (.lst xs')) pd O:=by
 obtain ⟨v,hv,s⟩:=h.sl i _ e
 rw [if_pos hi] at s
 obtain ⟨a,xs,k1,k2,k3,k4,k5⟩:=Sep.focus h.gh (fun a l e=>(h.og a l e).1) s hp
 rw [List.append_nil] at k2 k4 k5
 refine ⟨v,a,xs,hv,k1,k3,k4,fun ds' xs' hs'=>?_⟩
 obtain ⟨g0,_,nw⟩:=h.og a _ k2
 have ne:∀ b l π,O b=some (l,π)→l≠2 * i→b≠a:=fun b l π q n z=>by
  rw [z,k2] at q
  exact n (Prod.mk.inj (Option.some.inj q)).1.symm
 refine ⟨by simp [h.len],?_,h.g0,h.gn,?_,h.cok,?_,?_,h.mp,?_,?_,h.np⟩
 ·intro b o q
  rw [ah (fun z=>by rw [z,g0] at q; cases q)]; exact h.gh _ _ q
 ·intro b l q
  obtain ⟨q1,⟨ys,q2⟩,q3⟩:=h.og b l q
  refine ⟨q1,?_,q3⟩
  by_cases z:b=a
  ·subst z; exact ⟨.inl _,ao⟩
  ·rw [ah z]; exact ⟨ys,q2⟩
 ·intro b o q n
  by_cases z:b=a
  ·subst z
   rcases nw with nw | ⟨_,nw⟩
   ·rw [nw] at q; cases q
   ·rw [nw] at n; cases n
  ·rw [ah z]; exact h.fr b o q n
 ·intro b q
  by_cases z:b=a
  ·subst z; rw [ao] at q; cases q
  ·rw [ah z] at q; exact h.al b q
 ·intro j u q
  rcases dE q with ⟨rfl,z⟩ | ⟨z,q'⟩
  ·cases z
   exact ⟨v,hv,by rw [if_pos hi]; exact k5 ds' xs' hs'⟩
  ·obtain ⟨w,h1,h2⟩:=h.sl j u q'
   refine ⟨w,h1,?_⟩
   split at h2
   ·rename_i c; rw [if_pos c]; exact h2.keep 'r' fun b τ q=>⟨q,ah (ne b _ _ q 'a')⟩
   ·rename_i c; rw [if_neg c]; exact h2
 ·exact bE.keep 'r' (fun b j π hj q=>⟨q,ah (ne b _ _ q (fun z=>cc z.symm))⟩) h.pn
end
abbrev MN0:=DSt→(Int→Prop)→Prop
def SN0 (ow:List Bool) (t:TE) (m:MN0):Prop:=∀ (C:Ctx) (G:Hp) (ρ:DSt) (σ:St) (H:Hp) (pd:List (D×V)) (q:Int→Prop) (Q:VK),R C ow G ρ σ H pd→m ρ q→(∀ n,q n→Q (.int n) H)→t σ H Q
structure QN0 (X:Cx) (ow:List Bool) (e:Expr) (m:MN0):Prop where
 ex:∃ t,PE X e t∧SN0 ow t m
section
variable {X:Cx} {ow:List Bool} {a b e:Expr} {pos:Pos} {ma mb:MN0}
theorem sI {i j}:QN0 X ow (.Constant (.int i) j pos) (fun _ q=>q i):=⟨_,jY,fun C G ρ σ H pd q Q r h k=>k _ h⟩
theorem qF (i:Nat) {x:Str} (hs:ow[i]?≠some true:=by decide) (hN:X.N[i]? = some x:=by rfl) (hv:Vis X.env.scope x:=by first | exact Or.inl rfl | exact Or.inr 'c' | exact Or.inr (Or.inr rfl)) (hd:'d'=false:=by decide)
 (hcd:(x == ("__classdict__":Str))=false:=by decide):QN0 X ow (.Name x pos) (fun ρ q=>∃ n,ρ[i]? = some (some (.int n))∧q n):=⟨_,dq hN hv hd hcd,fun C G ρ σ H pd q Q r h k=>by
 obtain ⟨n,e,hq⟩:=h
 obtain ⟨O,ro⟩:=r
 obtain ⟨v,h1,h2⟩:=ro.sl i _ e
 rw [if_neg hs] at h2
 refine ⟨v,h1,?_⟩
 rw [ay h2]; exact k n hq⟩
end
abbrev MPt:=DSt→(List Nat→D→Prop)→Prop
def SPt (ow:List Bool) (i:Nat) (t:TE) (m:MPt):Prop:=∀ (C:Ctx) (G:Hp) (ρ:DSt) (σ:St) (H:Hp) (pd:List (D×V)) (O:Own) (q:List Nat→D→Prop) (Q:VK),RO C ow G ρ σ H pd O→m ρ q →
 (∀ p d0 e v0 v,q p e→ρ[i]? = some (some d0)→gL p d0=some e→σ[i]? = some (some v0)→cE H p v0 v→Q v H)→t σ H Q
structure QPt (X:Cx) (ow:List Bool) (i:Nat) (e:Expr) (m:MPt):Prop where
 ex:∃ t,PE X e t∧SPt ow i t m
theorem RO.walk {C:Ctx} {ow:List Bool} {G:Hp} {ρ:DSt} {σ:St} {H:Hp} {pd:List (D×V)} {O:Own} (h:RO C ow G ρ σ H pd O) {i:Nat} {p:List Nat} {d e:D} (e1 : ρ[i]? = some (some d)) (hp:gL p d=some e) :
 ∃ v u,σ[i]? = some (some v)∧cE H p v u∧∃ G',az G' H∧cE G' p v u∧Rep G' e u:=by
 obtain ⟨v,hv,_⟩:=h.sl i _ e1
 have r:=h.enter [i]
 obtain ⟨v',hv',s⟩:=r.sl i _ e1
 rw [hv] at hv'; cases hv'
 rw [if_neg (fun z=>by rw [cO] at z; simp at z)] at s
 obtain ⟨u,k1,k2⟩:=Rep.walk s hp
 exact ⟨v,u,hv,k1.mono r.gh,_,r.gh,k1,k2⟩
section
variable {X:Cx} {M:Md} {ow:List Bool} {i:Nat} {a b e:Expr} {pos:Pos} {mp:MPt} {mz:MN0} {ma:ME}
theorem s9 {x:Str} (hN:X.N[i]? = some x:=by rfl) (hv:Vis X.env.scope x:=by first | exact Or.inl rfl | exact Or.inr 'c' | exact Or.inr (Or.inr rfl)) (hd:'d'=false:=by decide)
 (hcd:(x == ("__classdict__":Str))=false:=by decide):QPt X ow i (.Name x pos) (fun ρ q=>∃ d,ρ[i]? = some (some d)∧q [] d):=⟨_,dq hN hv hd hcd,fun C G ρ σ H pd O q Q r h k=>by
 obtain ⟨d,e,hq⟩:=h
 obtain ⟨v,h1,_⟩:=r.sl i _ e
 exact ⟨v,h1,k [] d d v v hq e rfl h1 rfl⟩⟩
def mPIx (mp:MPt) (mz:MN0):MPt:=fun ρ q=>mp ρ fun p d=>mz ρ fun n=>∃ c e,ixN (lenD d) n=some c∧gr d c=some e∧q (p++[c]) e
theorem vI (ha:QPt X ow i a mp) (hb:QN0 X ow b mz) (hs:iw b:=by exact fun _ _=>rfl):QPt X ow i (.Subscript a b pos) (mPIx mp mz):=by
 obtain ⟨ta,pa,sa⟩:=ha; obtain ⟨tb,pb,sb⟩:=hb
 refine ⟨_,sw aA pa pb hs,fun C G ρ σ H pd O q Q r h k=>?_⟩
 refine sa C G ρ σ H pd O _ _ r h fun p d0 d v0 v hq e1 e2 e3 wk=>?_
 refine sb C G ρ σ H pd _ _ ⟨O,r⟩ hq fun n hn=>?_
 obtain ⟨c,e,h1,h2,hq⟩:=hn
 obtain ⟨v',u,g1,g2,G',sG,g3,g4⟩:=r.walk e1 e2
 rw [e3] at g1; cases g1
 obtain rfl:=wk.one g2
 have hx:∃ bb xs w,v=V.ref bb∧(H bb=some 'p'∨H bb=some (.tup xs))∧xs.length=lenD d∧xs[c]? = some w:=by
  cases d with
  | lst ds =>
   rw [Rep] at g4
   obtain ⟨bb,xs,rfl,f1,f2⟩:=g4
   obtain ⟨w,d',w1,w2,w3⟩:=gc (r:=c) f2 (List.getElem?_eq_some_iff.mp h2).1
   exact ⟨bb,xs,w,rfl,.inl (sG _ _ f1),f2.length,w1⟩
  | tup ds =>
   rw [Rep] at g4
   obtain ⟨bb,xs,rfl,f1,f2⟩:=g4
   obtain ⟨w,d',w1,w2,w3⟩:=gc (r:=c) f2 (List.getElem?_eq_some_iff.mp h2).1
   exact ⟨bb,xs,w,rfl,.inr (sG _ _ f1),f2.length,w1⟩
  | _=>cases h2
 obtain ⟨bb,xs,w,rfl,f1,f2,f3⟩:=hx
 have at1:atI xs n=some w:=by unfold atI; rw [f2,h1]; exact f3
 have fin:Q w H:=k (p++[c]) d0 e v0 w hq e1 (by rw [jt e2]; exact h2) e3 (wk.snoc ⟨bb,rfl,f1⟩ f3)
 rcases f1 with f1 | f1
 ·exact .inl ⟨bb,xs,n,w,rfl,rfl,SqL.of f1,at1,fin⟩
 ·exact .inr (.inl ⟨bb,xs,n,w,rfl,rfl,SqT.of f1,at1,fin⟩)
def mAppP (i:Nat) (mp:MPt) (m:ME):MS:=fun n ρ=>mp ρ fun p e=>∃ d0 ds,e = .lst ds∧ρ[i]? = some (some d0)∧m ρ fun d ρ1=>imm d=true∧ds.length<1000∧n.nx (ρ1.set i (some (ki p d0 (.lst (ds++[d])))))
theorem oP {apos cpos:Pos} (hp:QPt X M.ow i a mp) (he:QE X (bor [i] M.ow) e ma) (ho:M.ow[i]? = some true:=by decide)
 (hbase:attributeBase a "append" X.env (eval a X.env)=eval a X.env:=by rfl)
 (hfew:((backTo cpos (starEach [e] X.env)).all (fun x=>!x.1)&&(backToKw cpos (keywordEach [] X.env)).all (fun x=>x.1.isSome)
  && decide ([e].length + ([]:List Keyword).length + (if ([]:List Keyword).isEmpty then 0 else 1)<30))=true:=by rfl)
 (hline:(apos.endLine == cpos.line)=true:=by rfl) (hst:starEach [e] X.env=['n']:=by rfl)
 (hs:swapsWith (.Call (.Attribute a "append" apos) [e] [] cpos) none pos.line X.env=pure false:=by rfl) :
 QS X M (.Expr (.Call (.Attribute a "append" apos) [e] [] cpos) pos) (mAppP i mp ma):=by
 obtain ⟨t,p,s⟩:=he; obtain ⟨t1,p1,s1⟩:=hp
 refine ⟨_,d4 (lw PySem.F.plainAttrs_list PySem.F.slot_list_append PySem.F.type_list_append gF p1 (aX p bI hst) hbase hfew hline hst (by rfl)) hs,fun C G ρ σ H n D hm hn r h k=>?_⟩
 obtain ⟨O,ro⟩:=r
 refine s1 C G ρ σ H [] O _ _ ro h fun p d0 e v0 u hq e1 e2 e3 wk=>?_
 obtain ⟨d0',ds,rfl,e1',hq⟩:=hq
 rw [e1] at e1'; cases e1'
 have rb:=ro.enter [i]
 obtain ⟨v',hv',sb⟩:=rb.sl i _ e1
 rw [e3] at hv'; cases hv'
 rw [if_neg (fun z=>by rw [cO] at z; simp at z)] at sb
 obtain ⟨u',k1,k2⟩:=Rep.walk sb e2
 cases (k1.mono rb.gh).one wk
 rw [Rep] at k2
 obtain ⟨a1,xs1,rfl,f1,f2⟩:=k2
 refine ⟨.inl ⟨rfl,xs1,SqL.of (rb.gh _ _ f1)⟩,?_⟩
 refine s _ _ ρ σ H [] _ _ ⟨_,rb⟩ hq fun d ρ' v G' H' hq z kp r' pv=>?_
 obtain ⟨O',r'⟩:=r'
 obtain ⟨r2,z2,ts⟩:=ro.leave r' kp
 have ei : ρ'[i]? = some (some d0):=by rw [kp i (fun z=>by rw [cO] at z; simp at z)]; exact e1
 obtain ⟨v1,a2,xs2,g1,g2,g3,g4,g5⟩:=r2.writeP ei e2 ho
 rw [e3] at g1; cases g1
 have k3:cE H' p v0 (.ref a1):=(k1.mono z).mono r'.gh
 cases k3.one g2
 refine ⟨a1,xs2,v,rfl,rfl,g3,by rw [g4.length]; exact bH (Nat.le_of_lt hq.2.1),?_⟩
 exact k.nx _ _ _ _ hq.2.2 z2 ⟨_,g5 _ _ (g4.snoc (by rw [Nat.zero_add]; exact (pv.imms ts d v hq.1).sep d _ v hq.1))⟩
end
section
variable {X:Cx} {M:Md} {i:Nat} {pos:Pos} {mg:MG} {m:MS}
end
end L2
namespace L2
open PySem
end L2
namespace L2
open PySem PySem.Spec PyProof.Rows
section
variable {X:Cx}
end
section
variable {X:Cx} {pins:List (Addr×Obj)} {σ:St} {H:Hp} {s:Shared}
end
def rn (a:Addr):D:=.ext fun _ b=>b=a
section
variable {X:Cx} {ow:List Bool} {pos:Pos}
theorem uX (H:Hp) (a:Addr):Rep H (rn a) (.ref a):=by
 unfold rn; rw [Rep]; exact ⟨a,H,rfl,az.refl _,rfl⟩
theorem qo {x:Str} {a:Addr} (hg:Gl X x) (hm:X.mg x=some (.ref a)) (hd:'d'=false:=by decide):QE X ow (.Name x pos) (mC (rn a)) :=
 pM (fX (v:=.ref a) hg hm rfl hd) fun G=>uX G a
structure ModT (K:PySem.W.Frag) (a:Addr) (ds:List D):Prop where
 ex:∃ (o:Obj) (its:Array Value) (n:Nat),K.lookup a=some o∧o.cls = .type "tuple" ∧ o.data = .seq its n∧its.size≤sizeLine∧aM (ds.map toV) its.toList
 fl:ds.all dD=true
theorem dInG {K:PySem.W.Frag} {a:Addr} {ds:List D} (m:ModT K a ds):DOp (rIn K false) (fun x y q=>y=rn a∧dD x=true∧q (.bl (inD x ds))):=fun G H x y dx dy q Q s p1 p2 hf k=>by
 obtain ⟨rfl,f1,hq⟩:=hf
 unfold rn at p2
 rw [Rep] at p2
 obtain ⟨b,H0,rfl,_,rfl⟩:=p2
 refine ⟨b,ds.map toV,rfl,.inr (.inr m.ex),?_,fJ m.fl,?_⟩
 ·rw [di p1 f1]; exact e8 f1
 ·rw [di p1 f1,ik f1 m.fl]; exact k _ _ hq (bN _)
end
section
open AutoSeq1 (wpAny_loadPart')
open MeetsSeq MeetsSeq2 MeetsSeq3
end
section
variable {prog:Program} {w:World} {A:Around} {E:Value→Shared→Prop} {s:Shared}
end
section
variable {X:Cx}
end
section
variable {X:Cx} {ow:List Bool} {pos p1 p2 p3 p4:Pos} {j1 j2 j3 j4:Nat}
end
end L2
namespace L2
open PySem
def txt (b:Bool):Str:=if b=true then "up" else "down"
def dTx (bs:List Bool):D:=.lst (bs.map fun b=>.str (txt b))
theorem sE (b:Bool):okD (.str (txt b))=true:=by cases b <;> exact uy 'q'
theorem wP (b c:Bool):eqD (.str (txt b)) (.str (txt c))=(b == c):=by rw [uS]; cases b <;> cases c <;> decide +kernel
def txB:D→Bool
 | .str x=>x == "up" || x == "down"
 | _=>false
theorem vF {bs:List Bool} {t:Int} (h0 : 0<t) (h1:t≤bs.length):atI (bs.map fun b=>D.str (txt b)) (t - 1)=some (.str (txt (bs.getD (t - 1).toNat false))):=by
 have e:t - 1=(((t - 1).toNat:Nat):Int):=by omega
 have h:(bs.map fun b=>D.str (txt b))[(t - 1).toNat]? = some (.str (txt (bs.getD (t - 1).toNat false))):=by
  rw [List.getElem?_map,List.getD_eq_getElem?_getD,List.getElem?_eq_getElem 'a']; rfl
 have:=fc h
 rw [← e] at this
 exact this
def qT (ps:List Int) (a b:Int):Bool:=@decide (∃ u,Up ps (cM ps a) u∧b∈u) (Classical.propDecidable _)
theorem sM {ps:List Int} {a b:Int} {u:List Int} (h:Up ps (cM ps a) u):u.contains b=qT ps a b:=by
 unfold qT
 rw [Bool.eq_iff_iff,List.contains_iff_mem,@decide_eq_true_iff _ (Classical.propDecidable _)]
 exact ⟨fun m=>⟨u,h,m⟩,fun ⟨v,hv,m⟩=>by rw [h.det hv]; exact m⟩
def bO (ps:List Int) (a b:Int):Bool:=!qT ps a b && !qT ps b a
def linkB (n m:Nat):D→Bool
 | .tup [t,k]=>btw 1 n t&&btw 0 ((m:Int) - 1) k
 | _=>false
def iA (ps:List Int) (as:List Ask) (a b k:Int):Bool:=!decide (a=b)&&((dg ps (askN as k)).contains a&&(dg ps (askN as k)).contains b)
def qS:D→Int×Int
 | .tup [.int t,.int k]=>(t,k)
 | _=>(0,0)
def dLk (l:Int×Int):D:=.tup [.int l.1,.int l.2]
structure LkOk (n m:Nat) (l:Int×Int):Prop where
 t0 : 1≤l.1
 t1:l.1≤(n:Int)
 k0 : 0≤l.2
 k1:l.2<(m:Int)
def wd (bs:List Bool) (t:Int):Bool:=bs.getD (t - 1).toNat false
theorem lg {α:Type} {w:List α} {p : α×α} (h:p∈w.zip (w.drop 1)):p.1∈w∧p.2∈w:=by
 have:=List.of_mem_zip (show (p.1,p.2)∈w.zip (w.drop 1) from h)
 exact ⟨this.1,List.mem_of_mem_drop this.2⟩
theorem vb {w:List Int} (hn:w.Nodup):∀ {p:Int×Int},p∈w.zip (w.drop 1)→p.1≠p.2:=by
 intro p hp
 obtain ⟨j,hj⟩:=List.getElem?_of_mem hp
 rw [List.getElem?_zip_eq_some,List.getElem?_drop] at hj
 intro e
 have h1:=List.getElem?_eq_some_iff.mp hj.1
 have h2:=List.getElem?_eq_some_iff.mp hj.2
 obtain ⟨l1,e1⟩:=h1
 obtain ⟨l2,e2⟩:=h2
 have:=(List.getElem_inj (h₀:=l1) (h₁:=l2) hn).mp (by rw [e1,e2]; exact e)
 omega
abbrev bw:=List (Int×Option (Int×Int))
def aO:bw→Int→Option (Option (Int×Int))
 | [],_=>none
 | (j,v) :: cs,x=>if j=x then some v else aO cs x
def rG:Option (Int×Int)→D
 | none=>.non
 | some l=>dLk l
def cy (cs:bw):List Key:=cs.map fun c=>.inl c.1
def hZ (cs:bw):List D:=cs.map fun c=>rG c.2
def db (cs:bw):D:=.dic (cy cs) (hZ cs)
theorem cS {x:Int}:∀ cs:bw,jd (cy cs) (hZ cs) (.inl x)=(aO cs x).map rG
 | []=>rfl
 | (j,v) :: cs=>by
  show (if (Sum.inl j:Key) = .inl x then some (rG v) else jd (cy cs) (hZ cs) (.inl x))=Option.map rG (if j=x then some v else aO cs x)
  rw [cS cs]
  by_cases e:j=x
  ·rw [if_pos (by rw [e]),if_pos e]; rfl
  ·rw [if_neg (fun z=>e (by injection z)),if_neg e]
theorem cQ {x:Int}:∀ cs:bw,fm (cy cs) (.inl x)=(aO cs x).isSome
 | []=>rfl
 | (j,v) :: cs=>by
  show (if (Sum.inl j:Key) = .inl x then true else fm (cy cs) (.inl x))=Option.isSome (if j=x then some v else aO cs x)
  rw [cQ cs]
  by_cases e:j=x
  ·rw [if_pos (by rw [e]),if_pos e]; rfl
  ·rw [if_neg (fun z=>e (by injection z)),if_neg e]
theorem lL {cs:bw} {x:Int} {v:Option (Int×Int)} (h:aO cs x=none):fM (cy cs) (.inl x)=cy (cs++[(x,v)])∧putAt (cy cs) (hZ cs) (.inl x) (rG v)=hZ (cs++[(x,v)]):=by
 have e:fm (cy cs) (.inl x)=false:=by rw [cQ,h]; rfl
 unfold fM putAt
 rw [e]
 unfold cy hZ
 rw [List.map_append,List.map_append]
 exact ⟨rfl,rfl⟩
theorem bq {x y:Int} {v:Option (Int×Int)}:∀ {cs:bw},aO cs x=none→aO (cs++[(x,v)]) y=if x=y then some v else aO cs y
 | [],_=>by show (if x=y then some v else none)=_; rfl
 | (j,u) :: cs,h=>by
  have h':aO cs x=none:=by
   by_cases e:j=x
   ·unfold aO at h; rw [if_pos e] at h; cases h
   ·unfold aO at h; rw [if_neg e] at h; exact h
  have hj:j≠x:=fun e=>by unfold aO at h; rw [if_pos e] at h; cases h
  show (if j=y then some u else aO (cs++[(x,v)]) y)=if x=y then some v else if j=y then some u else aO cs y
  rw [bq h']
  by_cases e1:j=y
  ·rw [if_pos e1,if_neg (fun z=>hj 'a'),if_pos e1]
  ·rw [if_neg e1,if_neg e1]
theorem cC {x y:Int} {v:Option (Int×Int)} {cs:bw} {u:Option (Int×Int)} (hx:aO cs x=none) (h:aO cs y=some u):aO (cs++[(x,v)]) y=some u:=by
 rw [bq hx,if_neg (fun z=>by rw [z,h] at hx; cases hx)]; exact h
inductive Cm (n:Nat) (E:Int→Int→Int→Prop):bw→Prop
 | nil:Cm n E []
 | root {cs:bw} {x:Int}:Cm n E cs→aO cs x=none→1≤x→x≤n→Cm n E (cs++[(x,none)])
 | link {cs:bw} {x t k:Int} {u:Option (Int×Int)}:Cm n E cs→aO cs x=none→1≤x→x≤n→aO cs t=some u→E x t k→Cm n E (cs++[(x,some (t,k))])
inductive Back (cs:bw):Int→List (Int×Int)→Int→Prop
 | root {x:Int}:aO cs x=some none→Back cs x [] x
 | step {x t k r:Int} {p:List (Int×Int)}:aO cs x=some (some (t,k))→Back cs t p r→Back cs x ((x,k) :: p) r
theorem Back.det {cs:bw} {x r:Int} {p:List (Int×Int)} (h:Back cs x p r):∀ {p':List (Int×Int)} {r':Int},Back cs x p' r'→p=p'∧r=r':=by
 induction h with
 | root e=>intro p' r' h'; cases h' with
  | root _=>exact ⟨rfl,rfl⟩
  | step e2 _=>rw [e] at e2; cases e2
 | step e _ ih=>intro p' r' h'; cases h' with
  | root e2=>rw [e] at e2; cases e2
  | step e2 h2 =>
   rw [e] at e2; cases e2
   obtain ⟨a,b⟩:=ih h2
   exact ⟨by rw [a],b⟩
theorem Back.keep {cs:bw} {x y r:Int} {v:Option (Int×Int)} {p:List (Int×Int)} (hy:aO cs y=none) (h:Back cs x p r):Back (cs++[(y,v)]) x p r:=by
 induction h with
 | root e=>exact .root (cC hy e)
 | step e _ ih=>exact .step (cC hy e) ih
theorem Cm.rng {n:Nat} {E:Int→Int→Int→Prop} {cs:bw} (h:Cm n E cs):∀ {x:Int} {u:Option (Int×Int)},aO cs x=some u→1≤x∧x≤n:=by
 induction h with
 | nil=>intro x u h; cases h
 | root _ hn h0 h1 ih =>
  intro y u e
  rw [bq hn] at e
  split at e
  ·rename_i z; omega
  ·exact ih e
 | link _ hn h0 h1 _ _ ih =>
  intro y u e
  rw [bq hn] at e
  split at e
  ·rename_i z; omega
  ·exact ih e
theorem Cm.par {n:Nat} {E:Int→Int→Int→Prop} {cs:bw} (h:Cm n E cs):∀ {x t k:Int},aO cs x=some (some (t,k))→E x t k∧∃ u,aO cs t=some u:=by
 induction h with
 | nil=>intro x t k h; cases h
 | root _ hn h0 h1 ih =>
  intro y t k e
  rw [bq hn] at e
  split at e
  ·cases e
  ·obtain ⟨a,u,b⟩:=ih e; exact ⟨a,u,cC hn b⟩
 | @link cs x t k u _ hn h0 h1 ht hE ih =>
  intro y t' k' e
  rw [bq hn] at e
  split at e
  ·rename_i z; cases e; rw [← z]; exact ⟨hE,u,cC hn ht⟩
  ·obtain ⟨a,u,b⟩:=ih e; exact ⟨a,u,cC hn b⟩
theorem Cm.back {n:Nat} {E:Int→Int→Int→Prop} {cs:bw} (h:Cm n E cs):∀ {x:Int} {u:Option (Int×Int)},aO cs x=some u→∃ p r,Back cs x p r∧p.length<cs.length:=by
 induction h with
 | nil=>intro x u h; cases h
 | @root cs x _ hn h0 h1 ih =>
  intro y u e
  rw [List.length_append]
  have e2:=e
  rw [bq hn] at e
  split at e
  ·rename_i z; cases e
   exact ⟨[],y,.root e2,by show 0<_ + 1; omega⟩
  ·obtain ⟨p,r,a,b⟩:=ih e; exact ⟨p,r,a.keep hn,by omega⟩
 | @link cs x t k u0 _ hn h0 h1 ht hE ih =>
  intro y u e
  rw [List.length_append]
  have e2:=e
  rw [bq hn] at e
  split at e
  ·rename_i z; cases e
   obtain ⟨p,r,a,b⟩:=ih ht
   exact ⟨(y,k) :: p,r,.step e2 (a.keep hn),by show p.length + 1<cs.length + 1; omega⟩
  ·obtain ⟨p,r,a,b⟩:=ih e; exact ⟨p,r,a.keep hn,by omega⟩
theorem Cm.nd {n:Nat} {E:Int→Int→Int→Prop} {cs:bw} (h:Cm n E cs):(cs.map (·.1)).Nodup∧∀ x∈cs.map (·.1),∃ u,aO cs x=some u:=by
 have snoc:∀ {cs:bw} {x:Int} {v:Option (Int×Int)},aO cs x=none→((cs.map (·.1)).Nodup∧∀ x∈cs.map (·.1),∃ u,aO cs x=some u)→((cs++[(x,v)]).map (·.1)).Nodup∧∀ y∈(cs++[(x,v)]).map (·.1),∃ u,aO (cs++[(x,v)]) y=some u:=by
  intro cs x v hn ih
  rw [List.map_append]
  refine ⟨List.nodup_append.mpr ⟨ih.1,by simp,fun a ha b hb z=>?_⟩,fun y hy=>?_⟩
  ·have:b=x:=by simpa using hb
   obtain ⟨u,hu⟩:=ih.2 a ha
   rw [z,this,hn] at hu; cases hu
  ·rcases List.mem_append.mp hy with z | z
   ·obtain ⟨u,hu⟩:=ih.2 y z; exact ⟨u,cC hn hu⟩
   ·have:y=x:=by simpa using z
    rw [this]; exact ⟨v,by rw [bq hn,if_pos rfl]⟩
 induction h with
 | nil=>exact ⟨List.nodup_nil,fun x h=>(by cases h)⟩
 | root _ hn _ _ ih=>exact snoc hn ih
 | link _ hn _ _ _ _ ih=>exact snoc hn ih
theorem Cm.few {n:Nat} {E:Int→Int→Int→Prop} {cs:bw} (h:Cm n E cs):cs.length≤n:=by
 have:=h.nd.1.length_le_of_subset (l₂:=(List.range n).map fun j=>((j + 1:Nat):Int)) fun x hx=>by
  obtain ⟨u,hu⟩:=h.nd.2 x hx
  have:=h.rng hu
  exact List.mem_map.mpr ⟨(x - 1).toNat,List.mem_range.mpr 'a',by omega⟩
 rw [List.length_map,List.length_map,List.length_range] at this
 exact this
def hdP (p:List (Int×Int)) (r:Int):Int:=match p with
 | []=>r
 | l :: _=>l.1
def twP (ps:List Int):List (Int×Int)→Int→Bool
 | [],_=>false
 | l :: p,r=>bO ps l.1 (hdP p r) != twP ps p r
theorem Back.hd {cs:bw} {x r:Int} {p:List (Int×Int)} (h:Back cs x p r):hdP p r=x:=by cases h <;> rfl
def Wk (J:Int→Int→Int→Prop):List (Int×Int)→Int→Prop
 | [],_=>True
 | l :: B,x=>J l.1 (hdP B x) l.2∧Wk J B x
theorem wF (A B:List (Int×Int)) (x:Int):hdP (A++B) x=hdP A (hdP B x):=by cases A <;> rfl
def dnP:List (Int×Int)→Int→List (Int×Int)
 | [],_=>[]
 | l :: q,z=>dnP q z++[(hdP q z,l.2)]
end L2
namespace L2
open PySem PySem.Spec PyProof.Rows
section
variable {X:Cx} {ow:List Bool} {a b:Expr} {ma mb:DSt→(Int→Prop)→Prop} {pos:Pos}
theorem sT {op:Operator} {g:Int→Int→Int} (ho:OpR X (binaryOp op) (rI0 fun i j=>.int (g i j))) (ha:QN0 X ow a ma) (hb:QN0 X ow b mb):QN0 X ow (.BinOp a op b pos) (fun ρ q=>ma ρ fun i=>mb ρ fun j=>q (g i j)):=by
 obtain ⟨ta,pa,sa⟩:=ha; obtain ⟨tb,pb,sb⟩:=hb
 exact ⟨_,lE ho pa pb,fun C G ρ σ H pd q Q r h k=>sa C G ρ σ H pd _ _ r h fun i hi=>sb C G ρ σ H pd _ _ r hi fun j hj=>⟨i,j,rfl,rfl,k _ hj⟩⟩
end
def drp (G:Hp) (as:List Addr):Hp:=fun a=>if a∈as then none else G a
theorem mQ {G:Hp} {as:List Addr} {a:Addr} (h:a∈as):drp G as a=none:=if_pos h
theorem e5 {G:Hp} {as:List Addr} {a:Addr} (h : ¬ a∈as):drp G as a=G a:=if_neg h
theorem w4 {as:List Addr} (nd:as.Nodup) {i j:Nat} {a:Addr} (h1:as[i]? = some a) (h2:as[j]? = some a):i=j:=by
 obtain ⟨l1,e1⟩:=List.getElem?_eq_some_iff.mp h1
 obtain ⟨l2,e2⟩:=List.getElem?_eq_some_iff.mp h2
 exact (List.getElem_inj (h₀:=l1) (h₁:=l2) nd).mp (by rw [e1,e2])
theorem ix_at {as:List Addr} (nd:as.Nodup) {j:Nat} {a:Addr} (h:as[j]? = some a):as.idxOf a=j:=by
 have hm:=List.mem_of_getElem? h
 have hl:=List.idxOf_lt_length_iff.mpr hm
 refine w4 nd (a:=a) ?_ h
 rw [List.getElem?_eq_getElem hl,List.getElem_idxOf]
section
variable {C:Ctx} {ow:List Bool} {G G':Hp} {ρ:DSt} {σ:St} {H H':Hp} {pd:List (D×V)} {O O':Own}
theorem RO.unshare (h0:RO C ow G ρ σ H pd O) (h:RO C ow G' ρ σ H' pd O') (z:az G G') {as:List Addr} (ha:∀ a∈as,G' a=some (.lst [])∧G a=none) (nd:as.Nodup) {p:Addr} (hp:H' p=none) :
 R C ow (drp G' as) ρ σ (upd H' p (.lst (as.map V.ref))) ((.lst (as.map fun _=>.lst []),.ref p) :: pd)∧az G (drp G' as):=by
 have sG:az G (drp G' as):=fun a o e=>by
  rw [e5 fun m=>by rw [(ha a m).2] at e; cases e]; exact z a o e
 have hH:∀ a∈as,H' a=some (.lst []):=fun a m=>h.gh _ _ (ha a m).1
 have pas : ¬ p∈as:=fun m=>by rw [hH p m] at hp; cases hp
 have gp:G' p=none:=by
  cases e:G' p with
  | none=>rfl
  | some z=>rw [h.gh _ _ e] at hp; cases hp
 have ne:∀ a l,O' a=some l→a≠p:=fun a l e z=>by
  obtain ⟨_,⟨xs,q⟩,_⟩:=h.og a l e
  rw [z,hp] at q; cases q
 have nas:∀ a l,O' a=some l→¬ a∈as:=fun a l e m=>by
  have:=(h.og a l e).1
  rw [(ha a m).1] at this; cases this
 let O2:Own:=fun a=>if a=p then some (2 * pd.length + 1,[]) else if a∈as then some (2 * pd.length + 1,[as.idxOf a]) else O' a
 have old:∀ a l,O' a=some l→O2 a=some l:=fun a l e=>by
  show (if a=p then _ else if a∈as then _ else _)=_
  rw [if_neg (ne a _ e),if_neg (nas a _ e),e]
 have ts:ce G' (drp G' as):=fun a xs e=>by
  rw [e5 fun m=>by rw [(ha a m).1] at e; cases e]; exact e
 refine ⟨⟨O2,h.len,?_,fun a u e=>sG _ _ (h0.g0 a u e),?_,?_,h.cok,?_,?_,h.mp,?_,⟨?_,?_⟩,Nat.le_succ_of_le h.np⟩,sG⟩
 ·intro a u e
  by_cases m:a∈as
  ·rw [mQ m] at e; cases e
  ·rw [e5 m] at e
   rw [ah (fun z=>by rw [z,gp] at e; cases e)]
   exact h.gh _ _ e
 ·intro a u e
  by_cases m:a∈as
  ·rw [mQ m] at e; cases e
  ·rw [e5 m] at e; exact h.gn a u e
 ·intro a l e
  by_cases z1:a=p
  ·subst z1; exact ⟨by rw [e5 pas]; exact gp,⟨.inl (as.map V.ref),ao⟩,.inl (h.al _ hp)⟩
  ·rw [ah z1]
   change (if a=p then _ else if a∈as then _ else _)=_ at e
   rw [if_neg z1] at e
   by_cases m:a∈as
   ·refine ⟨mQ m,⟨.inl [],hH a m⟩,.inl ?_⟩
    rcases h.gn a _ (ha a m).1 with q | q
    ·have:=h0.g0 a _ q; rw [(ha a m).2] at this; cases this
    ·exact q
   ·rw [if_neg m] at e
    rw [e5 m]; exact h.og a _ e
 ·intro a u e n
  rw [ah (ar (h.fr a u e n) hp)]
  exact h.fr a u e n
 ·intro a e
  by_cases z1:a=p
  ·subst z1; rw [ao] at e; cases e
  ·rw [ah z1] at e; exact h.al a e
 ·intro i d e
  by_cases c:ow[i]? = some true
  ·obtain ⟨v,h1,h2⟩:=h.sl i d e
   rw [if_pos c] at h2
   exact ⟨v,h1,by rw [if_pos c]; exact h2.keep ts fun a τ q=>⟨old a _ q,ah (ne a _ q)⟩⟩
  ·obtain ⟨v,h1,h2⟩:=h0.sl i d e
   rw [if_neg c] at h2
   exact ⟨v,h1,by rw [if_neg c]; exact h2.mono sG⟩
 ·rw [Sep]
  refine ⟨p,as.map V.ref,rfl,by show (if p=p then _ else _)=_; rw [if_pos rfl],ao,?_⟩
  have:=Seps.mk (G:=drp G' as) (H:=upd H' p (.lst (as.map V.ref))) (O:=O2) (i:=2 * pd.length + 1) (T:=as.map fun a=>((.lst [],.ref a):D×V)) (k:=0) (π:=[]) (fun j x e=>by
   rw [List.getElem?_map] at e
   obtain ⟨a,e1,e2⟩:=Option.map_eq_some_iff.mp e
   subst e2
   have m:=List.mem_of_getElem? e1
   have nep:a≠p:=fun z=>pas (z ▸ m)
   show Sep _ _ _ _ (.lst []) _ (.ref a)
   rw [Sep]
   refine ⟨a,[],rfl,?_,by rw [ah nep]; exact hH a m,by rw [Seps]⟩
   show (if a=p then _ else if a∈as then _ else _)=_
   rw [if_neg nep,if_pos m,ix_at nd e1,Nat.zero_add])
  rw [List.map_map,List.map_map] at this
  exact this
 ·exact bE.keep ts (fun a j π hj q=>⟨old a _ q,ah (ne a _ q)⟩) h.pn
end
theorem o9 {ow:List Bool} {J:It} {g:TG} {mg:MG} {tt:TT} {C:Ctx} {G:Hp} {ρ:DSt} {σ:St} {H:Hp} {pd:List (D×V)} {ds:List D} {own:List Str} {js:List Nat} {Z:List V→Hp→Prop}
 (r:R C ow G ρ σ H pd) (hj:∀ j∈js,ow[j]?≠some true) (jo:j8 J G ds) (sg:SG ⟨[],[],false⟩ g mg) (st:STe [] tt (lf true)) (hk:∀ x H k,g x (bB own js σ) H k→g x (bB own js σ) H fun σ2 H2=>kept (bB own js σ) σ2∧k σ2 H2)
 (hl:ds.length≤1000) (hm:∀ d∈ds,mg d (dl own.length js ρ) fun _=>True)
 (k:∀ (as:List Addr) G' H',az G G'→R C ow G' ρ σ H' pd→as.length=ds.length→as.Nodup→(∀ a∈as,G' a=some (.lst [])∧G a=none)→Z (as.map V.ref) H'):lW J g tt (tLst tNil) (bB own js σ) H Z:=by
 obtain ⟨O,ro⟩:=r
 have ri:=ro.inner own js hj
 have nt:∀ i:Nat,([]:List Bool)[i]?≠some true:=fun i=>by simp
 let C1:Ctx:=⟨G,H,b7 (fun _=>none) O,[],0⟩
 refine ⟨fun i m acc H'=>m=ds.length - i∧i≤ds.length∧∃ (G':Hp) (as:List Addr),az G G'∧R C1 [] G' (dl own.length js ρ) (bB own js σ) H' []∧acc=as.map V.ref∧as.length=i∧as.Nodup∧∀ a∈as,G' a=some (.lst [])∧G a=none,⟨_,rfl,Nat.zero_le _,G,[],az.refl _,⟨_,ri⟩,rfl,rfl,List.nodup_nil,fun a h=>(by cases h)⟩,?_⟩
 rintro i m acc H' ⟨rfl,hi,G',as,z,r',rfl,la,nd,pa⟩
 obtain ⟨sp,go⟩:=jo C1 [] G' _ _ H' [] i z r'
 by_cases hlt:i<ds.length
 ·obtain ⟨g1,g2⟩:=go ds[i] (List.getElem?_eq_getElem hlt)
  refine .inr ⟨g1,bH (by rw [List.length_map]; omega),fun acc' H2=>∃ (G2:Hp) (as2:List Addr),az G G2∧R C1 [] G2 (dl own.length js ρ) (bB own js σ) H2 []∧acc'=as2.map V.ref∧as2.length=i + 1∧as2.Nodup∧∀ a∈as2,G2 a=some (.lst [])∧G a=none,fun acc' H2 h=>⟨ds.length - (i + 1),by omega,rfl,hlt,h⟩,fun x H1 hy=>hk _ _ _ ?_⟩
  obtain ⟨G1,z1,r1,p1⟩:=g2 x H1 hy
  refine sg C1 G1 _ _ H1 [] ds[i] x _ _ (fun i v e=>by simp [C1] at e) r1 p1 (hm ds[i] (List.getElem_mem hlt)) fun ρ2 σ2 h2 r2=>?_
  refine st C1 G1 ρ2 σ2 H1 [] (fun b _=>b=true) _ r2 rfl fun b ρ3 G3 H3 h3 z3 kp3 r3=>?_
  have bk:∀ {G4:Hp} {ρ4:DSt} {H4:Hp},az G3 G4→R C1 [] G4 ρ4 σ2 H4 []→R C1 [] G4 (dl own.length js ρ) (bB own js σ) H4 []:=fun z4 ⟨O4,r4⟩=>by
   obtain ⟨O1,r1'⟩:=r1
   exact ⟨_,r1'.back nt r4 (z3.trans z4)⟩
  rw [if_pos h3]
  refine ⟨Nat.zero_le _,fun p hp=>?_⟩
  obtain ⟨O3,r3⟩:=r3
  have gp:G3 p=none:=by
   cases e:G3 p with
   | none=>rfl
   | some z=>rw [r3.gh _ _ e] at hp; cases hp
  have zG:az G G3:=z.trans (z1.trans z3)
  have gp0:G p=none:=by
   cases e:G p with
   | none=>rfl
   | some o=>rw [zG _ _ e] at gp; cases gp
  obtain ⟨r4,z4⟩:=r3.new hp (.lst [])
  have pas:∀ a∈as,G3 a=some (.lst []):=fun a m=>z3 _ _ (z1 _ _ (pa a m).1)
  refine ⟨upd G3 p (.lst []),as++[p],zG.trans z4,bk z4 ⟨O3,r4⟩,by rw [List.map_append]; rfl,by rw [List.length_append,la]; rfl,List.nodup_append.mpr ⟨nd,by simp,fun a m b hb e=>?_⟩,fun a m=>?_⟩
  ·have hb':b=p:=by simpa using hb
   have:=pas a m
   rw [e,hb',gp] at this; cases this
  ·rcases List.mem_append.mp m with m | m
   ·exact ⟨z4 _ _ (pas a m),(pa a m).2⟩
   ·have e:a=p:=by simpa using m
    rw [e]; exact ⟨ao,gp0⟩
 ·have e:i=ds.length:=by omega
  subst e
  refine .inl ⟨sp 'l',b8 (by rw [List.length_map]; omega),?_⟩
  obtain ⟨O2,r2⟩:=r'
  refine k as G' H' z ⟨kP (fun _=>none) (fun _=>none) O O2,?_⟩ la nd pa
  refine ro.out (vs:=[]) r2 (fun _ _ _ e=>by cases e) ro.len ro.np (fun i d _ e=>e) (fun i d _ e=>.inl ⟨rfl,e⟩) fun O3 h1 h2 ts=>?_
  exact bE.keep ts (fun a j π hj e=>h1 a _ _ e rfl) ro.pn
section
variable {X:Cx} {ow:List Bool} {tg iter:Expr} {ifs:List Expr} {pos pos':Pos} {mi:MA} {mg:MG} {scope:Scope} {cl:List (Str×Addr)}
def vd (mi:MA) (mg:MG) (n:Nat) (js:List Nat):ME:=fun ρ q=>mi ρ fun ds ρ1=>ds.length≤1000∧(∀ d∈ds,mg d (dl n js ρ1) fun _=>True)∧q (.lst (ds.map fun _=>.lst [])) ρ1
theorem tZ {wi:TI} {g:TG} {own:List Str} {js:List Nat} (si:SI ow wi mi) (cg:CG own.length g mg) (hj:∀ j∈js,ow[j]?≠some true):SF ow (jq wi g (pC [] (lf true)) (tLst tNil) own js) (vd mi mg own.length js):=fun C G ρ σ H pd q Q r h k =>
 si C G ρ σ H pd _ _ r h fun ds ρ' G' H' J hq z kp r' jo=>by
  refine o9 r' hj jo cg.sg kJ (fun x H k hg=>cg.kp _ eZ _ x H k (cR _) hg) hq.1 hq.2.1 fun as G2 H2 z2 r2 la nd pa p hp=>?_
  obtain ⟨O',r'⟩:=r'
  obtain ⟨O2,r2⟩:=r2
  obtain ⟨r3,z3⟩:=r'.unshare r2 z2 pa nd hp
  have e:(as.map fun _=>D.lst [])=ds.map fun _=>D.lst []:=by
   rw [List.map_const',List.map_const',la]
  rw [e] at r3
  exact k _ ρ' _ _ _ hq.2.2 (z.trans z3) kp r3
theorem nE {M:Md} {g:TG} {i:Nat} {y:Str} {spos py:Pos} {me:ME} (own:List Str) (js:List Nat) (c:CompOk X scope cl own js) (hc:X.calm=true) (hN:X.N.Nodup) (hy:X.N[i]? = some y) (hx:Loc X.env.scope y) (hi:QI X M.ow tg iter mi) (cg:CG own.length g mg)
 (inner:∀ (C:Addr) (s₀:Shared) (H₀:Hp) (ex:List Addr),CInn 'i' tg [] (.List [] pos') g (lf true) me) (hj:∀ j∈js,M.ow[j]?≠some true:=by decide) (ho:M.ow[i]? = some true:=by decide) (hu:M.mu[i]?≠some true:=by decide)
 (hsw:swapsWith (.ListComp (.List [] pos') [⟨tg,iter,[],0⟩] scope pos) (some (.Name y py)) spos.line X.env=pure true:=by rfl)
 (hs:∀ x,foldedSetIterable iter X.env x=pure x:=by intro _; rfl) (hf:X.fn y=true∨X.env.scope.names.lookup y=some .local:=by first | exact .inl rfl | exact .inr rfl | assumption) :
 QS X M (.Assign [.Name y py] (.ListComp (.List [] pos') [⟨tg,iter,[],0⟩] scope pos) spos) (jR i (vd mi mg own.length js)):=by
 obtain ⟨wi,pi,si⟩:=hi
 exact ⟨_,d3 own js c hc hN hy hx pi (fun C s₀ H₀ ex=>⟨(inner C s₀ H₀ ex).pg,(inner C s₀ H₀ ex).qi.can,j7 bI⟩) hsw hs hf,jT (tZ si cg hj) ho hu⟩
end
section
variable {X:Cx}
theorem lQ:cj X (.type "range") (fun xs H Q=>∃ i j:Int,xs=[.int i,.int j]∧∀ p,H p=none→Q (.ref p) (upd H p (.rng i j))):=by
 intro pins s σ H xs us Q I r h
 obtain ⟨i,j,rfl,q⟩:=h
 obtain ⟨u,v,rfl,⟨t,rfl⟩,⟨t',rfl⟩⟩:=hX r
 refine call_range_2 ⟨.ref s.heap.objs.size,_,I.laid (a:=s.heap.objs.size) (o:=.rng i j) (fun _ _ e=>Heap.get?_push_of_some _ e) 'l' ⟨_,_,_,Heap.get?_push_size _ rfl⟩,rfl,q _ (I.hok.fresh 'l')⟩
theorem iP (hc:X.calm=true):cj X (.type "list") (fun xs H Q=>∃ (r:Addr) (i j:Int),xs=[.ref r]∧H r=some (.rng i j)∧0≤i∧i≤j∧j≤1000∧∀ p,H p=none→Q (.ref p) (upd H p (.lst ((nv i (j - i).toNat).map V.int)))):=by
 intro pins s σ H xs us Q I r h
 obtain ⟨a,lo,j,rfl,ha,h0,hij,h1,q⟩:=h
 obtain ⟨u,rfl,ru⟩:=fw r
 cases ru
 obtain ⟨t,u,v,e⟩:=(show aP X.prog X.w H s.heap a (.rng lo j) from I.hok a _ ha)
 refine call_list_range (n:=(j - lo).toNat) (I.ok.hd hc) e (small_one 'a' 'a' 'a' 'a') (by rw [rangeSize_one]; split <;> omega) 'a' fun h' tk acc' c' hk hS hacc=>?_
 refine ⟨.ref s.heap.objs.size,_,I.laid (a:=s.heap.objs.size) (o:=.lst ((nv lo (j - lo).toNat).map V.int)) hk 'l' ?_,rfl,q _ (I.hok.fresh 'l')⟩
 have hl:((nv lo (j - lo).toNat).map V.int).length=(j - lo).toNat:=by simp [nv]
 refine ⟨Nat.le_of_lt (bH (by rw [hl]; omega)),acc'.toList,c',g_ (by rw [hl]; simpa using hacc.1.symm) (fun i x w e1 e2=>?_),by simpa using hS⟩
 have e3:=hacc.2 i w (by simpa using e2)
 obtain ⟨t',rfl⟩:=e3
 rw [List.getElem?_map] at e1
 unfold nv at e1
 rw [List.getElem?_map] at e1
 have hi:i<(j - lo).toNat:=by
  cases z:(List.range (j - lo).toNat)[i]? with
  | none=>rw [z] at e1; cases e1
  | some k=>have:=(List.getElem?_eq_some_iff.mp z).1; simpa using this
 rw [List.getElem?_range hi] at e1
 have e1':V.int (lo + (i:Int))=x:=Option.some.inj e1
 subst e1'
 exact ⟨t',by simp⟩
def x5 (m:MA):ME:=fun ρ q=>m ρ fun ds ρ'=>match ds with
 | [.int i,.int j]=>(0≤i∧i≤j∧j≤1000)∧q (.lst (gE i (j - i).toNat)) ρ'
 | _=>False
theorem jP (lo:Int) (n:Nat):gE lo n=(nv lo n).map D.int:=by unfold gE nv; rw [List.map_map]; rfl
variable {a b:Expr} {mr:MA} {pos:Pos}
theorem sv {ow:List Bool} {x y:Str} {p1 p2 pos2:Pos} (hc:X.calm=true) (hgl:Gl X x) (hml:X.mg x=none) (hvl:bootBuiltins x=some (.type "list")) (hgr:Gl X y) (hmr:X.mg y=none) (hvr:bootBuiltins y=some (.type "range")) (ha:QA X ow [a,b] mr)
 (hn1:x ≠ "__name__":=by decide) (hd1:'d'=false:=by decide) (hn2:y ≠ "__name__":=by decide) (hd2:(y == ("__debug__":Str))=false:=by decide)
 (hs1:starEach [a,b] X.env=(false,eval a X.env) :: starEach [b] X.env:=by rfl) (hs3:(backTo pos2 (starEach [b] X.env)).any (·.1)=false:=by rfl) (hs2:starEach [.Call (.Name y p2) [a,b] [] pos2] X.env=[(false,eval (.Call (.Name y p2) [a,b] [] pos2) X.env)]:=by rfl) :
 QF X ow (.Call (.Name x p1) [.Call (.Name y p2) [a,b] [] pos2] [] pos) (x5 mr):=by
 obtain ⟨t,p,s⟩:=ha
 refine ⟨_,e6 (iP hc) hgl hml hvl (aX (e6 lQ hgr hmr hvr p hn2 hd2 hs1 hs3) bI hs2) hn1 hd1 hs2 (by rfl),fun C G ρ σ H pd q Q r hm k=>s C G ρ σ H pd _ _ r hm fun ds ρ' vs G' H' hq z kp r' p hn=>?_⟩
 split at hq
 ·rename_i i j
  obtain ⟨v,u,rfl,p1,p2⟩:=dh p
  rw [ay p1,ay p2]
  refine ⟨i,j,rfl,fun b hb=>⟨b,i,j,rfl,ao,hq.1.1,hq.1.2.1,hq.1.2.2,fun l hl=>?_⟩⟩
  obtain ⟨O,r'⟩:=r'
  obtain ⟨r2,z2⟩:=r'.new hb (.rng i j)
  refine k _ ρ' _ _ _ hq.2 (z.trans z2) kp (r2.newL hl ?_ ?_)
  ·rw [jP]; exact gG _
  ·rw [jP]; exact gM _
 ·exact hq.elim
end
def Itv (a:Addr) (n:Nat):It :=
 ⟨fun i H=>∃ xs x,H a=some 'p'∧xs.length=n∧i<n∧xs[n - 1 - i]? = some x,fun i H x H'=>H'=H∧∀ xs,H a=some 'p'→xs[n - 1 - i]? = some x,fun i _=>n≤i⟩
theorem qc {P:Program} {w:World} {K:PySem.W.Frag} {tg:Expr} (a it:Addr) (n:Nat):Turn P w K tg (Itv a n) [it] it (fun i h=>i≤n∧h.IsRevIter it a ((n:Int) - 1 - (i:Int))) where
 mem:=by simp
 obj:=fun i h st b hb=>by
  have e:b=it:=by simpa using hb
  subst e
  obtain ⟨_,o,e,c,d⟩:=st
  exact ⟨o,e,fun v z=>by rw [d] at z; cases z⟩
 keep:=fun i h h' st k=>⟨st.1,st.2.at fun o e=>k it (by simp) o e⟩
 item:=by
  intro X hP hw hK hc i pins s σ H E I hf st hg
  subst hP hw hK
  obtain ⟨xs,x,hq,hn,hi,hx⟩:=hg
  obtain ⟨its,rv,p,hz⟩:=I.list (SqL.of hq)
  obtain ⟨u,hu,ru⟩:=rv.get hx
  obtain ⟨f0,f1,f2,f3,f4,f5⟩:=hf it (by simp)
  have st2:=st.2
  rw [show (n:Int) - 1 - (i:Int)=((n - 1 - i:Nat):Int) by omega] at st2
  refine wpAny_pyNext_rev_item st2 p.isList (x:=u) (by simpa using hu) fun h' st' sb=>?_
  have I1:Inv X pins σ H { s with heap:=h' }:=I.turned (t':=s.toks) (fun b o hb e=>(sb.2 b hb).trans e) f0 f1 f3 f4 f5
  obtain ⟨o,e,c,d⟩:=id st'
  refine ⟨u,rfl,qp (s:={ s with heap:=h' }) e c d 'k' ⟨x,H,I1,ru,⟨rfl,fun ys hy=>by rw [hq] at hy; cases hy; exact hx⟩,⟨hi,?_⟩,fun b hb=>(hf b hb).1⟩⟩
  rw [show (n:Int) - 1 - ((i + 1:Nat):Int)=((n - 1 - i:Nat):Int) - 1 by omega]
  exact st'
 done:=by
  intro X hP hw hK hc i pins s σ H E I hf st hg
  subst hP hw hK
  have hg:n≤i:=hg
  have hg:i=n:=Nat.le_antisymm st.1 hg
  obtain ⟨f0,f1,f2,f3,f4,f5⟩:=hf it (by simp)
  have st2:=st.2
  rw [show (n:Int) - 1 - (i:Int) = -1 by omega] at st2
  exact wpAny_pyNext_rev_end (I.ok.hd hc) st2 fun h' eb=>⟨rfl,I.turned (t':=s.toks) (fun b o hb e=>eb b o hb e) f0 f1 f3 f4 f5⟩
 self:=fun _ _ _ _ _ st h=>wpAny_pyIter_revIter st.2 h
section
variable {X:Cx} {tg:Expr}
def iRev (ta:TA):TI:=fun σ H R=>ta σ H fun vs H1=>∃ a xs,vs=[.ref a]∧H1 a=some 'p'∧R (Itv a xs.length) H1
theorem xt {l:Expr} {ta:TA} {p pos:Pos} (hg:Gl X "reversed") (hm:X.mg "reversed" = none) (ha:PA X [l] ta) (hs:starEach [l] X.env=[(false,eval l X.env)]:=by rfl):PI X tg (.Call (.Name "reversed" p) [l] [] pos) (iRev ta):=by
 refine ⟨fun pins s σ H R I h=>?_⟩
 refine Call_ (eT I hg hm (show bootBuiltins "reversed" = some (.type "reversed") by decide +kernel) (PyProof.Rows.callWith_type1 (thn (ha pos pins s σ H _ I h) fun us s1 ⟨vs,H1,I1,r1,q1⟩=>?_) hs rfl))
 obtain ⟨a,xs,e,hx,q⟩:=q1
 subst e
 obtain ⟨u,rfl,ru⟩:=fw r1
 cases ru
 obtain ⟨its,rv,p1,hz⟩:=I1.list (SqL.of hx)
 have hl:=rv.length
 refine call_reversed_list p1.isList ?_
 refine wpAny_pyIter_revIter (it:=s1.heap.objs.size) (l:=a) (i:=(its.toArray.size:Int) - 1) ⟨_,Heap.get?_push_size _ rfl,rfl,rfl⟩ ?_
 refine ⟨s1.heap.objs.size,[s1.heap.objs.size],_,_,H1,rfl,I1.kept (t':=s1.toks) fun b o e=>Heap.get?_push_of_some _ e,qc a _ xs.length,⟨Nat.zero_le _,_,Heap.get?_push_size _ rfl,rfl,?_⟩,fun b hb=>?_,q⟩
 ·have e1:its.toArray.size=xs.length:=by simp; omega
  show Data.fields #[.ref a,rawInt ((its.toArray.size:Int) - 1)]=Data.fields #[.ref a,rawInt ((xs.length:Int) - 1 - ((0:Nat):Int))]
  rw [e1]
  congr 3
  simp
 ·have e:b=s1.heap.objs.size:=by simpa using hb
  subst e
  exact I1.fpOk 'l' (I1.hok.fresh 'l')
theorem ym {G:Hp} {p:Addr} {xs:List V} {ds:List D} (h1:G p=some 'p') (h2:Reps G ds xs):j8 (Itv p xs.length) G ds.reverse:=fun C ow G' ρ σ H pd i z r=>by
 have hp:=r.gh _ _ (z _ _ h1)
 have hl:=h2.length
 refine ⟨fun h=>by rw [List.length_reverse] at h; show xs.length≤i; omega,fun d e=>?_⟩
 have hi:i<ds.length:=by have:=(List.getElem?_eq_some_iff.mp e).1; rw [List.length_reverse] at this; exact this
 rw [List.getElem?_reverse hi] at e
 obtain ⟨v,e1,e2⟩:=c0 h2 e
 rw [← hl] at e1
 refine ⟨⟨xs,v,hp,rfl,by omega,e1⟩,fun x H' hy=>?_⟩
 obtain ⟨rfl,hy⟩:=hy
 have:=hy xs hp
 rw [e1] at this; cases this
 exact ⟨G',az.refl _,r,Rep.mono z _ _ e2⟩
def miRev (m:MA):MA:=fun ρ q=>m ρ fun ds ρ'=>match ds with
 | [.lst ds]=>q ds.reverse ρ'
 | _=>False
variable {ow:List Bool} {a:Expr} {mr:MA} {pos:Pos}
theorem xN {p:Pos} (hg:Gl X "reversed") (hm:X.mg "reversed" = none) (ha:QA X ow [a] mr) (hs:starEach [a] X.env=[(false,eval a X.env)]:=by rfl):QI X ow tg (.Call (.Name "reversed" p) [a] [] pos) (miRev mr):=by
 obtain ⟨t,p,s⟩:=ha
 refine ⟨_,xt hg hm p hs,fun C G ρ σ H pd q Q r hm k=>s C G ρ σ H pd _ _ r hm fun ds ρ' vs G' H' hq z kp r' p hn=>?_⟩
 split at hq
 ·obtain ⟨v,rfl,p1⟩:=bG p
  obtain ⟨a,xs,rfl,h1,h2⟩:=a8 p1
  exact ⟨a,xs,rfl,r'.gh _ _ h1,k _ ρ' G' H' _ hq z kp r' (ym h1 h2)⟩
 ·exact hq.elim
end
section
variable {X:Cx}
open PySem.Builtin.Str (partsBetween occurrences)
variable {ow:List Bool} {e a b:Expr} {ma mb:ME}
end
section
variable {X:Cx} {tg:Expr}
variable {ow:List Bool} {e:Expr} {ma:ME}
end
end L2
namespace L2
open PySem PySem.Spec PyProof.Rows
section
variable {X:Cx}
end
end L2
namespace L2
open PySem
end L2
namespace L2
open PySem PySem.Spec PyProof.Rows
section
variable {prog:Program} {w:World} {A:Around} {E:Value→Shared→Prop} {s:Shared}
end
section
variable {X:Cx}
end
end L2
namespace L2
open PySem
def sdNo:SpD:=fun _ _=>False
theorem vk {P:Program} {w:World} {K:PySem.W.Frag} {mg:Str→Option Value} {base:Heap} {CX:CXT} {k:Nat} {f:Addr} {fd:FuncData} {ps:List Str} {mu:List Bool} {fr:Bool}:FnOk P w K mg base CX k f fd ps (bj mu fr sdNo) :=
 ⟨fun _ _ _ _ h=>by obtain ⟨_,_,_,_,_,_,_,h,_⟩:=h; exact h.elim,fun _ _ _ _ _ _ _ _ _ _ _ _ _ h=>by obtain ⟨_,_,_,_,_,_,_,h,_⟩:=h; exact h.elim⟩
end L2
namespace L2
open PySem PySem.Spec PyProof.Rows
section
variable {X:Cx} {ow:List Bool} {a b:Expr} {mex:MEX} {mb:ME} {pos:Pos}
theorem xK {r:R2} {f:D→D→(D→Prop)→Prop} (ho:∀ E p,IxR (X.tr E p) r) (hd:DOp r f) (ha:QXE X ow a mex) (hb:QE X.nox ow b mb) (hs:iw b):QXE X ow (.Subscript a b pos) (fun xx=>mOp f (mex xx) mb):=by
 obtain ⟨ta,pa,sa⟩:=ha; obtain ⟨tb,pb,sb⟩:=hb
 refine ⟨fun xk=>tOp r (ta xk) tb,fun E q xk g=>sw (ho E q) (pa E q xk g) (PE.any pb) hs,fun C G ρ σ H pd q Q xx xk hr h kx k=>?_⟩
 refine sa C G ρ σ H pd _ _ xx xk hr h kx fun dx ρ1 x G1 H1 h1 s1 k1 r1 p1=>?_
 refine sb C G1 ρ1 σ H1 pd _ _ r1 h1 fun dy ρ2 y G2 H2 h2 s2 k2 r2 p2=>?_
 exact hd G2 H2 x y dx dy _ _ r2.gh (Rep.mono s2 _ _ p1) p2 h2 fun d v hq p=>k d ρ2 v G2 H2 hq (s1.trans s2) (k1.trans k2) r2 p
end
section
variable {X:Cx} {pos p1 q1:Pos} {n1 n2:Nat} {k1 z:Int} {ow:List Bool}
def xm (k1 z:Int):TE:=fun σ H Q=>∀ p,H p=none→Q (.ref p) (upd H p (.dK [(Sum.inl k1,.int z)]))
theorem sA:PE X (.Dict [some (.Constant (.int k1) n1 p1)] [.Constant (.int z) n2 q1] pos) (xm k1 z):=by
 refine ⟨fun pins s σ H Q I h=>?_⟩
 have hn:=I.hok.fresh (Nat.le_refl s.heap.objs.size)
 have I1:=I.laid (a:=s.heap.objs.size) (o:=.dK []) (h':=s.heap.push { cls:=.type "dict",data:=.dict #[] }) (t':=s.toks) (fun _ _ q=>Heap.get?_push_of_some _ q) 'l' (lM s.heap I.big)
 refine wpAny_Dict_walk (knd:=bF X.prog X.w) rfl rfl (by simp) (by simp) ?_
 refine pairTrees_cons_walk (thn (jY.go pins _ σ _ (fun v H'=>v = .int k1∧H'=upd H s.heap.objs.size (.dK [])) I1 ⟨rfl,rfl⟩) fun u1 s1 ⟨w1,H1,J1,r1,a1,b1⟩=>?_)
 subst a1 b1
 refine thn (jY.go pins s1 σ _ (fun v H'=>v = .int z∧H'=upd H s.heap.objs.size (.dK [])) J1 ⟨rfl,rfl⟩) fun u2 s2 ⟨w2,H2,J2,r2,a2,b2⟩=>?_
 subst a2 b2
 refine pairTrees_nil_walk ?_
 obtain ⟨t1,rfl⟩:=(show ∃ t,u1=Value.int k1 t from r1)
 obtain ⟨_,hd,vs,rv,dd⟩:=(show aP X.prog X.w _ s2.heap s.heap.objs.size (.dK []) from J2.hok _ _ ao)
 cases rv
 refine ⟨[(Sum.inl k1,u2)],⟨gZ _ _ _ _,rfl,trivial⟩,dd,fun h' dd' hs=>?_⟩
 rw [show merged [] [((Sum.inl k1:Key),u2)]=[(Sum.inl k1,u2)] by simp [merged,stored]] at dd'
 have J5:=J2.write (x:=s.heap.objs.size) (e:=s.heap.objs.size) (o:=.dK [(Sum.inl k1,.int z)]) (t':=s2.toks + [((Value.int k1 t1:Value),u2)].length) (by rw [ao]; trivial) (.inl rfl)
  (fun b u hb z=>(hs.2 b hb).trans z) (let ⟨q,_,_,hq,_⟩:=dd'; ⟨q,hq⟩) ⟨by simp [sizeLine],hd,_,.cons ⟨rfl,r2⟩ .nil,dd'⟩
 rw [iu] at J5
 exact ⟨.ref s.heap.objs.size,_,J5,rfl,h _ hn⟩
theorem rY:QE X ow (.Dict [some (.Constant (.int k1) n1 p1)] [.Constant (.int z) n2 q1] pos) (mC .dct):=by
 refine ⟨_,sA,fun C G ρ σ H pd q Q r hm k=>fun p hp=>?_⟩
 obtain ⟨O,ro⟩:=r
 obtain ⟨r2,s2⟩:=ro.new hp (.dK [(Sum.inl k1,.int z)])
 exact k _ ρ _ _ _ hm s2 Kp.refl ⟨O,r2⟩ (by rw [Rep]; exact ⟨p,_,rfl,ao⟩)
end
theorem nK:fillsNumberSlot (.type "tuple") "mul" = pure false :=
 PySem.fillsNumberSlot_seq (id:="tuple.__mul__") (r:=some (.builtin "tuple.__rmul__")) F.slot_tuple_mul.lookup 'q' F.slot_tuple_rmul.lookup 'q'
theorem qE:seqRepeat? (.type "tuple")=pure (some (.builtin "tuple.__mul__")):=by
 unfold seqRepeat?
 rw [PySem.seqSlot_of (T:="tuple") (name:="__mul__") (id:="tuple.__mul__") F.slot_tuple_mul.lookup 'q',PySem.seqSlot_of (T:="tuple") (name:="__rmul__") (id:="tuple.__rmul__") F.slot_tuple_rmul.lookup 'q']
 rfl
theorem sh (a:Int) (t:Tok) (l:Addr) (items:Array Value) (n:Nat) (dd:Option Addr) (sl:Array (Option Value)) :
 Meets (Builtin.«int.__rmul__» ⟨[.int a t,.ref l],[]⟩) (fun _ R s=>s.heap.get? l=some { cls:=.type "tuple",dict:=dd,data:=.seq items n,slots:=sl }∧R (.ok (.ret Value.notImplemented)) s) :=
 .of_wp fun prog w A R s h=>by obtain ⟨hp,g,d,tk,os⟩:=s; obtain ⟨hl,h⟩:=h; wp_walk; exact ⟨_,rfl,h⟩
theorem qz (l:Addr) (items:Array Value) (n:Nat) (dd:Option Addr) (sl:Array (Option Value)) (u:Tok) :
 Meets (Builtin.«tuple.__mul__» ⟨[.ref l,.int 1 u],[]⟩) (fun _ R s=>s.heap.get? l=some { cls:=.type "tuple",dict:=dd,data:=.seq items n,slots:=sl }∧R (.ok (.ret (.ref l))) s) :=
 .of_wp fun prog w A R s h=>by
  obtain ⟨hp,g,d,tk,os⟩:=s; obtain ⟨hl,h⟩:=h
  unfold Builtin.«tuple.__mul__»
  wp_walk
  exact ⟨_,rfl,h⟩
theorem rd (l:Addr) (items:Array Value) (n:Nat) (dd:Option Addr) (sl:Array (Option Value)) (x:Int) (u:Tok) (hn:items.isEmpty=false) (h1 : 1<x) (h2:x<2 ^ 63) (hz:items.size * x.toNat≤sizeLine) :
 Meets (Builtin.«tuple.__mul__» ⟨[.ref l,.int x u],[]⟩) (fun _ R s=>s.heap.get? l=some { cls:=.type "tuple",dict:=dd,data:=.seq items n,slots:=sl }∧R (.ok (.ret (Value.ref s.heap.objs.size))) { s with heap:=s.heap.push { cls:=Value.type "tuple",data:=Data.seq (List.foldl (fun x1 x2=>x1++x2) #[] (List.replicate x.toNat items)) },toks:=s.toks }) :=
 .of_wp fun prog w A R s h=>by
  obtain ⟨hp,g,d,tk,os⟩:=s; obtain ⟨hl,h⟩:=h
  have hn' : ¬ items.isEmpty=true:=by rw [hn]; decide
  have e1:(x == 1)=false:=by simpa using (show x≠1 by omega)
  have e2:decide (x≤0)=false:=decide_eq_false 'a'
  have e0:decide (x < -(2 ^ 63))=false:=decide_eq_false 'a'
  have e3:decide (x ≥ 2 ^ 63)=false:=decide_eq_false 'a'
  unfold Builtin.«tuple.__mul__»
  wp_walk
  refine wpAny_ite_false (by rw [e0,e3]; rfl) ?_
  wp_walk
  have ez:(items.size:Int) * x=((items.size * x.toNat:Nat):Int):=by rw [Int.natCast_mul,Int.toNat_of_nonneg 'a']
  have zl:(sizeLine:Nat)≤(2 ^ 63 - 1) / 8:=by decide
  refine wpAny_ite_false (by rw [ez]; exact decide_eq_false 'a') ?_
  wp_walk
  refine wpAny_ite_false (by rw [ez]; unfold Builtin.Tuple.tupleTooMany; simp only [decide_eq_true_eq]; exact decide_eq_false 'a') ?_
  wp_walk
  have hsz:(List.foldl (fun x1 x2=>x1++x2) #[] (List.replicate x.toNat items)).size≤sizeLine:=by
   have:=e7 items.toList x.toNat []
   rw [List.nil_append] at this
   have e:(List.foldl (fun x1 x2=>x1++x2) #[] (List.replicate x.toNat items))=(List.replicate x.toNat items.toList).flatten.toArray:=this
   rw [e,List.size_toArray,kq,Array.length_toList,Nat.mul_comm]; exact hz
  refine wpAny_ite_false (decide_eq_false (Nat.not_lt.mpr hsz)) ?_
  wp_walk
  exact ⟨_,rfl,h⟩
def rRepT (K:PySem.W.Frag):R2:=fun x y H Q=>∃ a k xs,x = .ref a∧y = .int k∧SqT K H a xs∧xs≠[]∧1≤k∧k<2 ^ 63∧xs.length * k.toNat≤sizeLine ∧
 (k=1→Q (.ref a) H)∧(1<k→∀ p,H p=none→Q (.ref p) (upd H p (.tup (List.replicate k.toNat xs).flatten)))
section
variable {X:Cx} {ow:List Bool} {a b:Expr} {ma mb:ME} {pos:Pos}
theorem tM:OpR X (binaryOp .Mult) (rRepT X.K):=by
 (try refine ⟨?_⟩); intro pins s σ H x y v u Q I rx ry h
 obtain ⟨a,k,xs,rfl,rfl,ha,hx,h1,h2,hz,q1,q2⟩:=h
 cases rx
 obtain ⟨t,rfl⟩:=ry
 obtain ⟨its,r1,⟨⟨cl,dd,da,sl⟩,e,rfl,n,rfl⟩,_⟩:=I.tuple ha
 have hn:its.toArray.isEmpty=false:=by
  cases its with
  | nil=>exact absurd (r1.nil_iff.mp rfl) hx
  | cons _ _=>rfl
 refine wpAny_binaryOp_repeat_ref (T:="tuple") (U:="int") 'k' ⟨_,e,rfl⟩ (fun s'=>typeIs_int s' k t) nK F.fills_int_mul F.slot_int_rmul qE F.slot_int_index.lookup
  (call_meets F.slot_int_rmul (typeIs_int s k t) F.entry_int_rmul (F.args_int_rmul_2 _ _) (sh k t a its.toArray n dd sl)
   ⟨e,rfl,⟨_,e,rfl⟩,?_⟩)
 by_cases hk:k=1
 ·subst hk
  exact call_meets F.slot_tuple_mul ⟨_,e,rfl⟩ F.entry_tuple_mul (F.args_tuple_mul_2 _ _) (qz a its.toArray n dd sl t) ⟨e,.ref a,H,I,rfl,q1 rfl⟩
 ·refine call_meets F.slot_tuple_mul ⟨_,e,rfl⟩ F.entry_tuple_mul (F.args_tuple_mul_2 _ _) (rd a its.toArray n dd sl k t hn 'a' h2 (by rw [List.size_toArray,← r1.length]; exact hz)) ⟨e,?_⟩
  have hnew:List.foldl (fun x1 x2=>x1++x2) #[] (List.replicate k.toNat its.toArray)=(List.replicate k.toNat its).flatten.toArray:=by
   have:=e7 its k.toNat []
   rw [List.nil_append] at this
   exact this
  rw [hnew]
  refine ⟨.ref s.heap.objs.size,_,I.laid (t':=s.toks) (o:=.tup (List.replicate k.toNat xs).flatten) (fun b ob q=>Heap.get?_push_of_some _ q) 'l' ?_,rfl,q2 'a' _ (I.hok.fresh 'l')⟩
  exact ⟨by rw [kq,Nat.mul_comm]; exact hz,_,r1.rep k.toNat,IsTup.new _ _⟩
def mRepT (ma mb:ME):ME:=fun ρ q=>ma ρ fun x ρ1=>mb ρ1 fun y ρ2=>match x,y with
 | .tup xs,.int k=>xs≠[]∧1≤k∧xs.length * k.toNat≤1000∧q (.tup (List.replicate k.toNat xs).flatten) ρ2
 | _,_=>False
theorem tP (ha:QE X ow a ma) (hb:QE X ow b mb):QE X ow (.BinOp a .Mult b pos) (mRepT ma mb):=by
 obtain ⟨ta,pa,sa⟩:=ha; obtain ⟨tb,pb,sb⟩:=hb
 refine ⟨_,lE tM pa pb,fun C G ρ σ H pd q Q r hm k=>gO sa sb r hm fun dx dy ρ' x y G' H' hf z kp r' p1 p2=>?_⟩
 cases dx with
 | tup xs =>
  cases dy with
  | int n =>
   obtain ⟨n1,n2,hl,hq⟩:=hf
   obtain ⟨a1,us,rfl,g1,g2⟩:=el p1
   have l1:us≠[]:=fun z=>n1 (List.length_eq_zero_iff.mp (by rw [← g2.length,z]; rfl))
   have hx : 1≤xs.length:=by
    cases xs with
    | nil=>exact absurd rfl n1
    | cons _ _=>exact Nat.succ_le_succ (Nat.zero_le _)
   have hn:n.toNat≤1000:=Nat.le_trans (by simpa using Nat.mul_le_mul_right n.toNat hx) hl
   refine ⟨a1,n,us,rfl,ay p2,SqT.of (r'.gh _ _ g1),l1,n2,by omega,b8 (by rw [g2.length]; exact hl),fun e=>?_,fun _ p hp=>?_⟩
   ·subst e
    refine k _ ρ' _ _ _ ?_ z kp r' p1
    have e:(List.replicate (Int.toNat 1) xs).flatten=xs:=by show xs++[]=xs; rw [List.append_nil]
    rw [e] at hq; exact hq
   ·obtain ⟨O,ro⟩:=r'
    obtain ⟨r3,z3⟩:=ro.new hp (.tup (List.replicate n.toNat us).flatten)
    exact k _ ρ' _ _ _ hq (z.trans z3) kp ⟨O,r3⟩ (gl ao (Reps.mono z3 _ _ (iV g2 _)))
  | _=>exact hf.elim
 | _=>exact hf.elim
end
section
variable {K:PySem.W.Frag} {mg:Str→Option Value} {n:Str} {st:Stmt} {ps:List Str} {f:Addr} {d:FuncData}
structure FT (K:PySem.W.Frag) (mg:Str→Option Value) (n:Str) (st:Stmt) (ps:List Str) (f:Addr) (d:FuncData):Prop where
 F:Fun K n n st f d
 b:cD K d ps []
 m:mg n=some (.ref f)
structure FH (K:PySem.W.Frag) (n:Str) (st:Stmt) (f:Addr) (d:FuncData):Prop where
 a:PySem.W.nsIn K mainGlobals n=some (some (.ref f))
 F:Fun K n n st f d
theorem aW {oc:Value} {od an:Option Addr} {osl:Array (Option Value)} {kV doc pm cdv ct:Value} (a:PySem.W.nsIn K mainGlobals n=some (some (.ref f))) (l:K.lookup f=some ⟨oc,od,.func (PySem.W.fnOf n n (eg st) (bU st) (ai st) .none kV doc pm an cdv ct),osl⟩)
 (c:PySem.W.codeIn K cdv n=true) (k:PySem.W.keepIn K (.ref f)=true):FH K n st f (PySem.W.fnOf n n (eg st) (bU st) (ai st) .none kV doc pm an cdv ct):=⟨a,nC l c k⟩
theorem FH.ft {h:Heap} (z:FH K n st f d) (X:K.In h) (G:h.Ns mainGlobals mg)
 (hb:∀ (kV doc pm:Value) (an:Option Addr) (cdv ct:Value) (us:List Value),us.length=ps.length→bindArgs (PySem.W.fnOf n n (eg st) (bU st) (ai st) .none kV doc pm an cdv ct) ⟨us,[]⟩=pure (ps.zip us)):FT K mg n st ps f d:=⟨z.F,z.F.binds hb,PySem.W.mg_of X G z.a⟩
theorem aV {N P:List Str} {sc:Scope} (a:sc.kind = .function:=by rfl) (b:sc.isCoroutine=false:=by rfl) (c:sc.isGenerator=false:=by rfl) (d:N.Nodup:=by decide +kernel) (e:N.take P.length=P:=by rfl)
 (g:∀ x∈P,sc.names.lookup x=some .local∨sc.names.lookup x=some .cell:=by decide +kernel) (h:∀ y∈sc.names,y.2≠.free:=by decide +kernel):FnScope N P sc:=⟨a,b,c,d,e,g,h⟩
end
section
variable {X:Cx} {ow:List Bool} {k j:Nat} {f:Addr} {fd:FuncData} {ps:List Str} {mu:List Bool} {sd:SpD} {sx:SpX} {x:Str} {st:Stmt} {ks:List AK} {e:Expr} {es:List Expr} {mr:MA} {pos p':Pos}
theorem am (F:FnOk X.prog X.w X.K X.mg X.base CX0 k f fd ps (bj mu false sd)) (hr:Room j X.A) (t:FT X.K X.mg x st ps f fd) (ha:QAk X ow ks (e :: es) mr) (hj:k≤j:=by decide) (hg:Gl X x:=by rfl) (hmu:mu=ks.map AK.isM:=by rfl) (nd:(aw ks).Nodup:=by decide) (hw:∀ i∈aw ks,ow[i]? = some true:=by decide) (hdb:'d'=false:=by decide)
 (he:starEach (e :: es) X.env='n' :: starEach es X.env:=by rfl) (hpl:'m'.any (·.1)=false:=by rfl):QE X ow (.Call (.Name x p') (e :: es) [] pos) (oJ ks sd mr):=uz F (hr.mono hj) hg t.m t.F.kp t.b ha hmu nd hw hdb he hpl
theorem bC (F:FnOk X.prog X.w X.K X.mg X.base CX0 k f fd ps (bj mu true sd)) (hr:Room j X.A) (t:FT X.K X.mg x st ps f fd) (ha:QAk X ow ks (e :: es) mr) (hj:k≤j:=by decide) (hg:Gl X x:=by rfl) (hmu:mu=ks.map AK.isM:=by rfl) (nd:(aw ks).Nodup:=by decide) (hw:∀ i∈aw ks,ow[i]? = some true:=by decide) (hdb:'d'=false:=by decide)
 (he:starEach (e :: es) X.env='n' :: starEach es X.env:=by rfl) (hpl:'m'.any (·.1)=false:=by rfl):QF X ow (.Call (.Name x p') (e :: es) [] pos) (oJ ks sd mr):=uo F (hr.mono hj) hg t.m t.F.kp t.b ha hmu nd hw hdb he hpl
theorem ck (F:FnOk X.prog X.w X.K X.mg X.base (CX1 X.prog X.w) k f fd ps (cZ mu false sx)) (hr:Room j X.A) (t:FT X.K X.mg x st ps f fd) (ha:QAk X.nox ow ks (e :: es) mr) (hj:k≤j:=by decide) (hg:Gl X x:=by rfl) (hex:X.ex=[]:=by rfl) (hmu:mu=ks.map AK.isM:=by rfl) (nd:(aw ks).Nodup:=by decide) (hw:∀ i∈aw ks,ow[i]? = some true:=by decide) (hdb:'d'=false:=by decide)
 (he:starEach (e :: es) X.env='n' :: starEach es X.env:=by rfl) (hpl:'m'.any (·.1)=false:=by rfl):QXE X ow (.Call (.Name x p') (e :: es) [] pos) (jS ks sx mr):=rM F (hr.mono hj) hg t.m t.F.kp t.b ha hex hmu nd hw hdb he hpl
theorem pX (F:FnOk X.prog X.w X.K X.mg X.base (CX1 X.prog X.w) k f fd ps (cZ mu true sx)) (hr:Room j X.A) (t:FT X.K X.mg x st ps f fd) (ha:QAk X.nox ow ks (e :: es) mr) (hj:k≤j:=by decide) (hg:Gl X x:=by rfl) (hex:X.ex=[]:=by rfl) (hmu:mu=ks.map AK.isM:=by rfl) (nd:(aw ks).Nodup:=by decide) (hw:∀ i∈aw ks,ow[i]? = some true:=by decide) (hdb:'d'=false:=by decide)
 (he:starEach (e :: es) X.env='n' :: starEach es X.env:=by rfl) (hpl:'m'.any (·.1)=false:=by rfl):QXF X ow (.Call (.Name x p') (e :: es) [] pos) (jS ks sx mr):=sD F (hr.mono hj) hg t.m t.F.kp t.b ha hex hmu nd hw hdb he hpl
end
section
variable {K:PySem.W.Frag} {C a N:Addr} {dd nd:Option Addr} {nm qn x:Str} {bs bm sub:List Value} {hd ab:Bool} {sn:List Str} {col:Option Bool} {k0 k1 k2 k3 k5 ini:Option Value} {no:Value} {es:Array DictEntry} {np:Nat} {nl:Array (Option Value)}
structure CF (K:PySem.W.Frag) (x:Str) (C:Addr) (bm:List Value) (N:Addr):Prop where
 e:PySem.W.nsIn K mainGlobals x=some (some (.ref C))
 l:∃ (dd:Option Addr) (nm qn:Str) (bs sub:List Value) (hd ab:Bool) (sn:List Str) (col:Option Bool) (k0 k1 k2 k3 k5:Option Value),K.lookup C=some ⟨.type "type",dd,.cls ⟨nm,bs,.ref C :: bm,N,qn,hd,sn,sub,ab,col,false⟩,#[k0,k1,k2,k3,some (.builtin "ValueError.__new__"),k5]⟩
 y:PySem.W.typeIn K (.ref C)=some (.type "type")
theorem dr (e:PySem.W.nsIn K mainGlobals x=some (some (.ref C))) (l:K.lookup C=some ⟨.type "type",dd,.cls ⟨nm,bs,.ref C :: bm,N,qn,hd,sn,sub,ab,col,false⟩,#[k0,k1,k2,k3,some (.builtin "ValueError.__new__"),k5]⟩) (y:PySem.W.typeIn K (.ref C)=some (.type "type")):CF K x C bm N:=⟨e,⟨_,_,_,_,_,_,_,_,_,_,_,_,_,_,l⟩,y⟩
theorem CF.xc (l:CF K x C bm N) (n:PySem.W.nsOkIn K N=true) (t:PySem.W.nsIn K N "__init__" = some ini) (r:PySem.W.tailIn K bmV bm=true):cf K C bm ini=true:=by
 obtain ⟨_,_,_,_,_,_,_,_,_,_,_,_,_,_,l⟩:=l.l
 exact xc_mk l n t r
theorem CF.tail (l:CF K x C bm N) (n:PySem.W.nsOkIn K N=true) (t:PySem.W.nsIn K N "__init__" = some none) (r:PySem.W.tailIn K bmV bm=true):PySem.W.tailIn K bmV (.ref C :: bm)=true:=by
 obtain ⟨_,_,_,_,_,_,_,_,_,_,_,_,_,_,l⟩:=l.l
 exact t5 l n t r
structure SNo (K:PySem.W.Frag) (C D:Addr):Prop where
 s:PySem.W.subIn K (.ref C) (.ref D)=some false
 n:(Value.ref C == Value.ref D)=false
theorem CF.own {t:Value} {b:Bool} (l:CF K x C bm N) (s:PySem.W.subIn K t (.ref C)=some b) (ne:b=true∨(t == .ref C)=false):PySem.W.kitOne K t (.ref C)=some b:=by
 obtain ⟨_,_,_,_,_,_,_,_,_,_,_,_,_,_,l'⟩:=l.l
 exact tG l' l.y s ne
theorem CF.nope {D:Addr} (l:CF K x C bm N) (s:SNo K D C):PySem.W.kitOne K (.ref D) (.ref C)=some false:=l.own s.s (.inr s.n)
end
end L2
namespace K49
open PySem L2
def top (i:Nat):Stmt:=PySem.Challenge.pw_treeasks_k49_pointings_refused.main.body.getD i (.Pass ⟨0,0,0,0⟩)
abbrev ra:Stmt:=top 16
abbrev r9:Stmt:=top 17
abbrev s_q1:Stmt:=top 21
abbrev s_q4:Stmt:=top 22
abbrev sZ:Stmt:=top 23
abbrev qQ:Stmt:=top 24
abbrev q8:Stmt:=top 25
abbrev rj:Stmt:=top 30
abbrev s_q2:Stmt:=top 31
abbrev s_q3:Stmt:=top 33
abbrev qP:Stmt:=top 34
abbrev s_q9:Stmt:=top 35
abbrev rl:Stmt:=top 36
abbrev rD:Stmt:=top 37
abbrev s_q0:Stmt:=top 38
abbrev rc:Stmt:=top 39
abbrev qX:Stmt:=top 42
abbrev rL:Stmt:=top 43
abbrev s_q6:Stmt:=top 44
abbrev s_q8:Stmt:=top 45
abbrev sO:Stmt:=top 49
abbrev sF:Stmt:=top 50
abbrev qv:Stmt:=top 51
abbrev qR:Stmt:=top 52
abbrev rO:Stmt:=top 53
abbrev qh:Stmt:=top 54
abbrev qD:Stmt:=top 55
abbrev rK:Stmt:=top 56
abbrev s_q5:Stmt:=top 57
abbrev s_q7:Stmt:=top 58
abbrev rT:Stmt:=top 59
abbrev sm:Stmt:=top 61
abbrev rB:Stmt:=top 62
abbrev sk:Stmt:=top 63
abbrev tz:Stmt:=top 64
abbrev rA:Stmt:=top 65
abbrev qq:Stmt:=top 66
abbrev rW:Stmt:=top 67
abbrev sr:Stmt:=top 68
abbrev qd:Stmt:=top 69
abbrev r6:Stmt:=top 70
abbrev rZ:Stmt:=top 71
abbrev sq:Stmt:=top 72
set_option genInjectivity false in
structure Adr where
 f_q26:Addr
 d_q26:FuncData
 f_q13:Addr
 d_q13:FuncData
 f_q1:Addr
 d_q1:FuncData
 f_q4:Addr
 d_q4:FuncData
 f_q25:Addr
 d_q25:FuncData
 f_q44:Addr
 d_q44:FuncData
 f_q24:Addr
 d_q24:FuncData
 f_q43:Addr
 d_q43:FuncData
 f_q2:Addr
 d_q2:FuncData
 f_q3:Addr
 d_q3:FuncData
 f_q54:Addr
 d_q54:FuncData
 f_q9:Addr
 d_q9:FuncData
 f_q51:Addr
 d_q51:FuncData
 f_q16:Addr
 d_q16:FuncData
 f_q0:Addr
 d_q0:FuncData
 f_q12:Addr
 d_q12:FuncData
 f_q34:Addr
 d_q34:FuncData
 f_q53:Addr
 d_q53:FuncData
 f_q6:Addr
 d_q6:FuncData
 f_q8:Addr
 d_q8:FuncData
 f_q18:Addr
 d_q18:FuncData
 f_q32:Addr
 d_q32:FuncData
 f_q11:Addr
 d_q11:FuncData
 f_q33:Addr
 d_q33:FuncData
 f_q28:Addr
 d_q28:FuncData
 f_q17:Addr
 d_q17:FuncData
 f_q19:Addr
 d_q19:FuncData
 f_q37:Addr
 d_q37:FuncData
 f_q5:Addr
 d_q5:FuncData
 f_q7:Addr
 d_q7:FuncData
 f_q36:Addr
 d_q36:FuncData
 f_q46:Addr
 d_q46:FuncData
 f_q27:Addr
 d_q27:FuncData
 f_q47:Addr
 d_q47:FuncData
 f_q50:Addr
 d_q50:FuncData
 f_q55:Addr
 d_q55:FuncData
 f_q48:Addr
 d_q48:FuncData
 f_q15:Addr
 d_q15:FuncData
 f_q14:Addr
 d_q14:FuncData
 f_q35:Addr
 d_q35:FuncData
 f_q45:Addr
 d_q45:FuncData
 f_q49:Addr
 d_q49:FuncData
 f_law:Addr
 d_law:FuncData
 g_TEXTS:Addr
 c_q20:Addr
 c_q38:Addr
 c_q21:Addr
 c_q39:Addr
 c_q40:Addr
 c_q22:Addr
 c_q29:Addr
 c_q10:Addr
 c_q23:Addr
 c_q52:Addr
 c_q30:Addr
 c_q41:Addr
 c_q42:Addr
 c_q31:Addr
 n_q38:Addr
 n_q42:Addr
 nd_q38:FuncData
 nd_q42:FuncData
set_option genInjectivity false in
structure Txt (K:PySem.W.Frag) (mg:Str→Option Value) (A:Adr):Prop where
 t_q26:FT K mg "is_whole" ra ["thing"] A.f_q26 A.d_q26
 t_q13:FT K mg "is_between" r9 ["thing","least","most"] A.f_q13 A.d_q13
 t_q1:FT K mg "has_two_lists" s_q1 ["thing"] A.f_q1 A.d_q1
 t_q4:FT K mg "look_at_tree" s_q4 ["thing"] A.f_q4 A.d_q4
 t_q25:FT K mg "is_place" sZ ["tree","thing"] A.f_q25 A.d_q25
 t_q44:FT K mg "is_tie" qQ ["tree","thing"] A.f_q44 A.d_q44
 t_q24:FT K mg "are_ends" q8 ["tree","one","other"] A.f_q24 A.d_q24
 t_q43:FT K mg "is_ask" rj ["tree","thing"] A.f_q43 A.d_q43
 t_q2:FT K mg "look_at_asks" s_q2 ["tree","thing"] A.f_q2 A.d_q2
 t_q3:FT K mg "look_at_ends" s_q3 ["tree","one","other"] A.f_q3 A.d_q3
 t_q54:FT K mg "climb" qP ["tree","one","other"] A.f_q54 A.d_q54
 t_q9:FT K mg "way_between" s_q9 ["tree","one","other"] A.f_q9 A.d_q9
 t_q51:FT K mg "way_of" rl ["tree","ask"] A.f_q51 A.d_q51
 t_q16:FT K mg "meeting_of" rD ["tree","one","other"] A.f_q16 A.d_q16
 t_q0:FT K mg "climbed_between" s_q0 ["tree","one","other"] A.f_q0 A.d_q0
 t_q12:FT K mg "is_beneath" rc ["tree","one","other"] A.f_q12 A.d_q12
 t_q34:FT K mg "is_text" qX ["thing"] A.f_q34 A.d_q34
 t_q53:FT K mg "along" rL ["tree","ask","pointing"] A.f_q53 A.d_q53
 t_q6:FT K mg "runs_one_way" s_q6 ["tree","ask","pointing"] A.f_q6 A.d_q6
 t_q8:FT K mg "is_pointing" s_q8 ["tree","asks","thing"] A.f_q8 A.d_q8
 t_q18:FT K mg "are_apart" sO ["tree","one","other"] A.f_q18 A.d_q18
 t_q32:FT K mg "is_link" sF ["tree","asks","thing"] A.f_q32 A.d_q32
 t_q11:FT K mg "are_joined" qv ["tree","asks","one","other","number"] A.f_q11 A.d_q11
 t_q33:FT K mg "is_ring" qR ["tree","asks","thing"] A.f_q33 A.d_q33
 t_q28:FT K mg "links_of" rO ["tree","asks"] A.f_q28 A.d_q28
 t_q17:FT K mg "reach_from" qh ["first","links","came"] A.f_q17 A.d_q17
 t_q19:FT K mg "path_back" qD ["came","tie"] A.f_q19 A.d_q19
 t_q37:FT K mg "text_of" rK ["tree","came","tie"] A.f_q37 A.d_q37
 t_q5:FT K mg "ring_through" s_q5 ["came","one","other","closing"] A.f_q5 A.d_q5
 t_q7:FT K mg "first_clash" s_q7 ["tree","links","texts"] A.f_q7 A.d_q7
 t_q36:FT K mg "pointed" rT ["tree","asks"] A.f_q36 A.d_q36
 t_q46:FT K mg "_law_cell" sm ["_law_script","_law_k"] A.f_q46 A.d_q46
 t_q27:FT K mg "_law_source" rB ["_law_cell_here","_law_k"] A.f_q27 A.d_q27
 t_q47:FT K mg "_law_draw" sk ["_law_source_here","_law_many"] A.f_q47 A.d_q47
 t_q50:FT K mg "_law_tree" tz ["_law_source_here","_law_most"] A.f_q50 A.d_q50
 t_q55:FT K mg "_law_ask" rA ["_law_source_here","_law_many","_law_sizes","_law_worths"] A.f_q55 A.d_q55
 t_q48:FT K mg "_law_kind" qq ["_law_e"] A.f_q48 A.d_q48
 t_q15:FT K mg "_law_bad_tree" rW ["_law_source_here"] A.f_q15 A.d_q15
 t_q14:FT K mg "_law_bad_asks" sr ["_law_tree_here","_law_asks","_law_source_here"] A.f_q14 A.d_q14
 t_q35:FT K mg "_law_thing" qd ["_law_many","_law_source_here"] A.f_q35 A.d_q35
 t_q45:FT K mg "_law_call" r6 ["_law_door","_law_tree_here","_law_asks","_law_thing_here"] A.f_q45 A.d_q45
 t_q49:FT K mg "_law_told" rZ ["_law_door","_law_tree_here","_law_asks","_law_thing_here"] A.f_q49 A.d_q49
 t_law:FT K mg "law" sq ["_law_script"] A.f_law A.d_law
 z_ValueError:mg "ValueError" = none
 z_abs:mg "abs" = none
 z_all:mg "all" = none
 z_any:mg "any" = none
 z_bool:mg "bool" = none
 z_enumerate:mg "enumerate" = none
 z_int:mg "int" = none
 z_isinstance:mg "isinstance" = none
 z_len:mg "len" = none
 z_list:mg "list" = none
 z_max:mg "max" = none
 z_min:mg "min" = none
 z_range:mg "range" = none
 z_reversed:mg "reversed" = none
 z_sorted:mg "sorted" = none
 z_str:mg "str" = none
 z_tuple:mg "tuple" = none
 z_zip:mg "zip" = none
 c_MOST_TIES:∃ t,mg "MOST_TIES" = some (.int 23 t)
 c_MOST_ROOM:∃ t,mg "MOST_ROOM" = some (.int 1000000 t)
 c_MOST_ASKS:∃ t,mg "MOST_ASKS" = some (.int 30 t)
 c_MOST_SIZE:∃ t,mg "MOST_SIZE" = some (.int 1000000 t)
 c_MOST_WORTH:∃ t,mg "MOST_WORTH" = some (.int 1000000000000 t)
 c_LEAST_RING:∃ t,mg "LEAST_RING" = some (.int 3 t)
 c_MOST_RING:∃ t,mg "MOST_RING" = some (.int 61 t)
 m_TEXTS:mg "TEXTS" = some (.ref A.g_TEXTS)
 t_TEXTS:ModT K A.g_TEXTS [.str "up",.str "down"]
 m_q20:mg "AskError" = some (.ref A.c_q20)
 m_q38:mg "NoAsks" = some (.ref A.c_q38)
 m_q21:mg "NoChange" = some (.ref A.c_q21)
 m_q39:mg "NoKeep" = some (.ref A.c_q39)
 m_q40:mg "NoName" = some (.ref A.c_q40)
 m_q22:mg "NoNumber" = some (.ref A.c_q22)
 m_q29:mg "NoPlace" = some (.ref A.c_q29)
 m_q10:mg "NoPointing" = some (.ref A.c_q10)
 m_q23:mg "NoPrices" = some (.ref A.c_q23)
 m_q52:mg "NoRow" = some (.ref A.c_q52)
 m_q30:mg "NoShare" = some (.ref A.c_q30)
 m_q41:mg "NoText" = some (.ref A.c_q41)
 m_q42:mg "NoTree" = some (.ref A.c_q42)
 m_q31:mg "TooMany" = some (.ref A.c_q31)
 x_q20:cf K A.c_q20 bmV none=true
 x_q38:cf K A.c_q38 ([.ref A.c_q20]++bmV) (some (.ref A.n_q38))=true
 x_q29:cf K A.c_q29 ([.ref A.c_q20]++bmV) none=true
 x_q42:cf K A.c_q42 ([.ref A.c_q20]++bmV) (some (.ref A.n_q42))=true
 o_q38:eA K A.c_q38=true
 v_q38:PySem.W.kitOne K (.ref A.c_q38) (.type "ValueError")=some true
 i_q38_NoChange:PySem.W.kitOne K (.ref A.c_q38) (.ref A.c_q21)=some false
 i_q38_NoKeep:PySem.W.kitOne K (.ref A.c_q38) (.ref A.c_q39)=some false
 i_q38_NoName:PySem.W.kitOne K (.ref A.c_q38) (.ref A.c_q40)=some false
 i_q38_NoNumber:PySem.W.kitOne K (.ref A.c_q38) (.ref A.c_q22)=some false
 i_q38_NoPlace:PySem.W.kitOne K (.ref A.c_q38) (.ref A.c_q29)=some false
 i_q38_NoPointing:PySem.W.kitOne K (.ref A.c_q38) (.ref A.c_q10)=some false
 i_q38_NoPrices:PySem.W.kitOne K (.ref A.c_q38) (.ref A.c_q23)=some false
 i_q38_NoRow:PySem.W.kitOne K (.ref A.c_q38) (.ref A.c_q52)=some false
 i_q38_NoShare:PySem.W.kitOne K (.ref A.c_q38) (.ref A.c_q30)=some false
 i_q38_NoText:PySem.W.kitOne K (.ref A.c_q38) (.ref A.c_q41)=some false
 i_q38_NoTree:PySem.W.kitOne K (.ref A.c_q38) (.ref A.c_q42)=some false
 i_q38_TooMany:PySem.W.kitOne K (.ref A.c_q38) (.ref A.c_q31)=some false
 o_q29:eA K A.c_q29=true
 v_q29:PySem.W.kitOne K (.ref A.c_q29) (.type "ValueError")=some true
 i_q29_NoAsks:PySem.W.kitOne K (.ref A.c_q29) (.ref A.c_q38)=some false
 i_q29_NoChange:PySem.W.kitOne K (.ref A.c_q29) (.ref A.c_q21)=some false
 i_q29_NoKeep:PySem.W.kitOne K (.ref A.c_q29) (.ref A.c_q39)=some false
 i_q29_NoName:PySem.W.kitOne K (.ref A.c_q29) (.ref A.c_q40)=some false
 i_q29_NoNumber:PySem.W.kitOne K (.ref A.c_q29) (.ref A.c_q22)=some false
 i_q29_NoPointing:PySem.W.kitOne K (.ref A.c_q29) (.ref A.c_q10)=some false
 i_q29_NoPrices:PySem.W.kitOne K (.ref A.c_q29) (.ref A.c_q23)=some false
 i_q29_NoRow:PySem.W.kitOne K (.ref A.c_q29) (.ref A.c_q52)=some false
 i_q29_NoShare:PySem.W.kitOne K (.ref A.c_q29) (.ref A.c_q30)=some false
 i_q29_NoText:PySem.W.kitOne K (.ref A.c_q29) (.ref A.c_q41)=some false
 i_q29_NoTree:PySem.W.kitOne K (.ref A.c_q29) (.ref A.c_q42)=some false
 i_q29_TooMany:PySem.W.kitOne K (.ref A.c_q29) (.ref A.c_q31)=some false
 o_q42:eA K A.c_q42=true
 v_q42:PySem.W.kitOne K (.ref A.c_q42) (.type "ValueError")=some true
 i_q42_NoAsks:PySem.W.kitOne K (.ref A.c_q42) (.ref A.c_q38)=some false
 i_q42_NoChange:PySem.W.kitOne K (.ref A.c_q42) (.ref A.c_q21)=some false
 i_q42_NoKeep:PySem.W.kitOne K (.ref A.c_q42) (.ref A.c_q39)=some false
 i_q42_NoName:PySem.W.kitOne K (.ref A.c_q42) (.ref A.c_q40)=some false
 i_q42_NoNumber:PySem.W.kitOne K (.ref A.c_q42) (.ref A.c_q22)=some false
 i_q42_NoPlace:PySem.W.kitOne K (.ref A.c_q42) (.ref A.c_q29)=some false
 i_q42_NoPointing:PySem.W.kitOne K (.ref A.c_q42) (.ref A.c_q10)=some false
 i_q42_NoPrices:PySem.W.kitOne K (.ref A.c_q42) (.ref A.c_q23)=some false
 i_q42_NoRow:PySem.W.kitOne K (.ref A.c_q42) (.ref A.c_q52)=some false
 i_q42_NoShare:PySem.W.kitOne K (.ref A.c_q42) (.ref A.c_q30)=some false
 i_q42_NoText:PySem.W.kitOne K (.ref A.c_q42) (.ref A.c_q41)=some false
 i_q42_TooMany:PySem.W.kitOne K (.ref A.c_q42) (.ref A.c_q31)=some false
 I_q38:Fun K "__init__" "NoAsks.__init__" (e_ (top 3) 0) A.n_q38 A.nd_q38
 bi_q38:cD K A.nd_q38 ["self","number"] []
 fi_q38:PySem.W.typeIn K (.ref A.n_q38)=some (.type "function")
 kc_q38:PySem.W.keepIn K (.ref A.c_q38)=true
 xa_q38_number:mS K A.c_q38 "number"
 I_q42:Fun K "__init__" "NoTree.__init__" (e_ (top 2) 0) A.n_q42 A.nd_q42
 bi_q42:cD K A.nd_q42 ["self","part","number"] []
 fi_q42:PySem.W.typeIn K (.ref A.n_q42)=some (.type "function")
 kc_q42:PySem.W.keepIn K (.ref A.c_q42)=true
 xa_q42_part:mS K A.c_q42 "part"
 xa_q42_number:mS K A.c_q42 "number"
 B_q20:BaseIn K A.c_q20
theorem xH:FnScope ["thing"] ["thing"] (ai ra):=aV
theorem xa:FnScope ["thing","least","most"] ["thing","least","most"] (ai r9):=aV
theorem sc_q1:FnScope ["thing","parents","rooms"] ["thing"] (ai s_q1):=aV
theorem vH:FnScope ["thing","parents","rooms","number","parent","room"] ["thing"] (ai s_q4):=aV
theorem wZ:FnScope ["tree","thing"] ["tree","thing"] (ai sZ):=aV
theorem wv:FnScope ["tree","thing"] ["tree","thing"] (ai qQ):=aV
theorem x3:FnScope ["tree","one","other"] ["tree","one","other"] (ai q8):=aV
theorem xM:FnScope ["tree","thing","one","other","size","worth"] ["tree","thing"] (ai rj):=aV
theorem sc_q2:FnScope ["tree","thing","number","ask"] ["tree","thing"] (ai s_q2):=aV
theorem sc_q3:FnScope ["tree","one","other"] ["tree","one","other"] (ai s_q3):=aV
theorem xL:FnScope ["tree","one","other","way","low"] ["tree","one","other"] (ai qP):=aV
theorem sc_q9:FnScope ["tree","one","other","way","meeting"] ["tree","one","other"] (ai s_q9):=aV
theorem xX:FnScope ["tree","ask"] ["tree","ask"] (ai rl):=aV
theorem sc_q16:FnScope ["tree","one","other","way","meeting"] ["tree","one","other"] (ai rD):=aV
theorem sc_q0:FnScope ["tree","one","other","meeting"] ["tree","one","other"] (ai s_q0):=aV
theorem xC:FnScope ["tree","one","other","place"] ["tree","one","other"] (ai rc):=aV
theorem wz:FnScope ["thing"] ["thing"] (ai qX):=aV
theorem sc_q53:FnScope ["tree","ask","pointing","climbed"] ["tree","ask","pointing"] (ai rL):=aV
theorem sc_q6:FnScope ["tree","ask","pointing","found"] ["tree","ask","pointing"] (ai s_q6):=aV
theorem sc_q8:FnScope ["tree","asks","thing"] ["tree","asks","thing"] (ai s_q8):=aV
theorem vP:FnScope ["tree","one","other"] ["tree","one","other"] (ai sO):=aV
theorem xl:FnScope ["tree","asks","thing"] ["tree","asks","thing"] (ai sF):=aV
theorem sc_q11:FnScope ["tree","asks","one","other","number","way"] ["tree","asks","one","other","number"] (ai qv):=aV
theorem wI:FnScope ["tree","asks","thing","turns","link","following"] ["tree","asks","thing"] (ai qR):=aV
theorem wN:FnScope ["tree","asks","found","number","ask","way","one","other"] ["tree","asks"] (ai rO):=aV
theorem yk:FnScope ["first","links","came","waiting","tie","other","number"] ["first","links","came"] (ai qh):=aV
theorem yr:FnScope ["came","tie","path","ahead","number"] ["came","tie"] (ai qD):=aV
theorem xh:FnScope ["tree","came","tie","turns"] ["tree","came","tie"] (ai rK):=aV
theorem sc_q5:FnScope ["came","one","other","closing","there","back"] ["came","one","other","closing"] (ai s_q5):=aV
theorem sc_q7:FnScope ["tree","links","texts","place","beside","other","number"] ["tree","links","texts"] (ai s_q7):=aV
theorem xI:FnScope ["tree","asks","links","ties","came","tie","texts","clash","one","other","number"] ["tree","asks"] (ai rT):=aV
theorem wL:FnScope ["_law_script","_law_k"] ["_law_script","_law_k"] (ai sm):=aV
theorem xy:FnScope ["_law_cell_here","_law_k","_law_number","_law_seed"] ["_law_cell_here","_law_k"] (ai rB):=aV
theorem xj:FnScope ["_law_source_here","_law_many","_law_digit","_law_found"] ["_law_source_here","_law_many"] (ai sk):=aV
theorem vZ:FnScope ["_law_source_here","_law_most","_law_many","_law_style","_law_parents","_law_k","_law_wide"] ["_law_source_here","_law_most"] (ai tz):=aV
theorem v_:FnScope ["_law_source_here","_law_many","_law_sizes","_law_worths","_law_one","_law_other","_law_size"] ["_law_source_here","_law_many","_law_sizes","_law_worths"] (ai rA):=aV
theorem wJ:FnScope ["_law_e","_law_kinds"] ["_law_e"] (ai qq):=aV
theorem wq:FnScope ["_law_source_here","_law_some"] ["_law_source_here"] (ai rW):=aV
theorem xS:FnScope ["_law_tree_here","_law_asks","_law_source_here","_law_many","_law_some","_law_odd","_law_at"] ["_law_tree_here","_law_asks","_law_source_here"] (ai sr):=aV
theorem wC:FnScope ["_law_many","_law_source_here","_law_some"] ["_law_many","_law_source_here"] (ai qd):=aV
theorem xu:FnScope ["_law_door","_law_tree_here","_law_asks","_law_thing_here"] ["_law_door","_law_tree_here","_law_asks","_law_thing_here"] (ai r6):=aV
theorem xw:FnScope ["_law_door","_law_tree_here","_law_asks","_law_thing_here","_law_kept","_law_found","_law_e"] ["_law_door","_law_tree_here","_law_asks","_law_thing_here"] (ai rZ):=aV
theorem xY:FnScope ["_law_script","_law_tree_here","_law_asks","_law_k","_law_source_here","_law_bad","_law_things","_law_due","_law_thing_here","_law_door"] ["_law_script"] (ai sq):=aV
theorem u9:FnScope ["self","number"] ["self","number"] (ai (e_ (top 3) 0)):=aV
theorem u6:FnScope ["self","part","number"] ["self","part","number"] (ai (e_ (top 2) 0)):=aV
section
variable {P:Program} {w:World} {K:PySem.W.Frag} {mg:Str→Option Value} {base:Heap} {A:Adr}
theorem nY (T:Txt K mg A):FnOk P w K mg base CX0 1 A.n_q38 A.nd_q38 ["self","number"] (i3 A.c_q38 ["number"]):=by
 refine T.I_q38.ok (k:=0) u9 (fun vs H Q E h=>by obtain ⟨e,xs,rfl,h,_⟩:=h; rw [List.length_cons,h]; rfl) (fun cdv Ar outer s H vs Q E hr h=>?_)
 obtain ⟨e,xs,rfl,hl,hv,hH,q⟩:=h
 obtain ⟨x1,rfl⟩:∃ x1,xs=[x1]:=match xs,hl with | [x1],_=>⟨x1,rfl⟩
 refine ⟨_,cx (d4 (kS T.B_q20 T.x_q38 rfl T.m_q20 (aX (pv 0) (aX (nW (mI (nD (pv 1) q9))) bI)))) (ij (vx T.x_q38 T.o_q38 T.xa_q38_number (pv 0) (pv 1))),?_⟩
 refine ⟨_,rfl,⟨trivial,⟨⟨x1,rfl,hv x1 (by simp)⟩,trivial⟩⟩,fun y=>?_⟩
 refine ⟨e,y,none,rfl,hH,?_⟩
 refine ⟨_,rfl,_,rfl,e,rfl,ao,fun d hd=>?_⟩
 have hde:d≠e:=fun z=>by rw [z,ao] at hd; cases hd
 have hd0:H d=none:=by rw [ah hde] at hd; exact hd
 have:=q d hd0
 simp only [iu]
 exact this
theorem j_ (T:Txt K mg A):FnOk P w K mg base CX0 1 A.n_q42 A.nd_q42 ["self","part","number"] (i3 A.c_q42 ["part","number"]):=by
 refine T.I_q42.ok (k:=0) u6 (fun vs H Q E h=>by obtain ⟨e,xs,rfl,h,_⟩:=h; rw [List.length_cons,h]; rfl) (fun cdv Ar outer s H vs Q E hr h=>?_)
 obtain ⟨e,xs,rfl,hl,hv,hH,q⟩:=h
 obtain ⟨x1,x2,rfl⟩:∃ x1 x2,xs=[x1,x2]:=match xs,hl with | [x1,x2],_=>⟨x1,x2,rfl⟩
 refine ⟨_,cx (d4 (kS T.B_q20 T.x_q42 rfl T.m_q20 (aX (pv 0) (aX (nW (mI (nD (pv 1) (mI (nD (pv 2) q9))))) bI)))) (cx (vx T.x_q42 T.o_q42 T.xa_q42_part (pv 0) (pv 1)) (ij (ps_x1 T.x_q42 T.o_q42 T.xa_q42_number (pv 0) (pv 2)))),?_⟩
 refine ⟨_,rfl,⟨trivial,⟨⟨x1,rfl,hv x1 (by simp)⟩,⟨trivial,⟨⟨x2,rfl,hv x2 (by simp)⟩,trivial⟩⟩⟩⟩,fun y=>?_⟩
 refine ⟨e,y,none,rfl,hH,?_⟩
 refine ⟨_,rfl,_,rfl,e,rfl,ao,fun d hd=>?_⟩
 have hde:d≠e:=fun z=>by rw [z,ao] at hd; cases hd
 have hd0:H d=none:=by rw [ah hde] at hd; exact hd
 refine ⟨_,rfl,_,rfl,e,d,_,rfl,by rw [ah (Ne.symm hde),ao],ao,hde,by simp,rfl,?_⟩
 have:=q d hd0
 simp only [iu]
 exact this
theorem wj (T:Txt K mg A):FnOk P w K mg base CX0 1 A.f_q26 A.d_q26 ["thing"] (bj [false] false (t9)):=by
 have S:=xH
 refine fnD T.t_q26.F S ⟨[false],[false],false⟩ _ ?hl rfl rfl fun cdv Ar outer s H E hr=>⟨_,(aj (aN (dM (cW rfl T.z_isinstance aG (ad 0) (bX (v:=.ty "int") rfl T.z_int jW rfl)) (eU (mK (cW rfl T.z_isinstance aG (ad 0) (bX (v:=.ty "bool") rfl T.z_bool uM rfl))))))),fun ds q h=>?_⟩
 case hl=>intro ds q h; obtain ⟨d,rfl,_⟩:=h; rfl
 obtain ⟨d,rfl,hs,q0⟩:=h
 cases d <;> first | exact q0 | cases hs
theorem er (T:Txt K mg A):FnOk P w K mg base CX0 2 A.f_q13 A.d_q13 ["thing","least","most"] (bj [false,false,false] false (o8)):=by
 have S:=xa
 refine fnD T.t_q13.F S ⟨[false,false,false],[false,false,false],false⟩ _ ?hl rfl rfl fun cdv Ar outer s H E hr=>⟨_,(aj (aN (dM (am (wj T) hr T.t_q26 (aq (ad 0) au)) (eU (kX jw jw dB dB (ad 1) (ad 0) (ad 2)))))),fun ds q h=>?_⟩
 case hl=>intro ds q h; obtain ⟨d,lo,hi,rfl,_⟩:=h; rfl
 obtain ⟨d,lo,hi,rfl,hs,q0⟩:=h
 refine ⟨d,rfl,hs,?_⟩
 cases d
 case int i =>
  refine (cI (c:=decide (lo≤i)=true) (fun c=>?_) (fun c=>?_))
  ·have:btw lo hi (.int i)=decide (i≤hi):=by show (decide (lo≤i)&&decide (i≤hi))=_; rw [c,Bool.true_and]
   rw [this] at q0; exact q0
  ·have:btw lo hi (.int i)=false:=by show (decide (lo≤i)&&decide (i≤hi))=_; rw [Bool.eq_false_iff.mpr c,Bool.false_and]
   rw [this] at q0; exact q0
 all_goals first | exact q0 | cases hs
theorem ve (T:Txt K mg A):FnOk P w K mg base CX0 1 A.f_q1 A.d_q1 ["thing"] (bj [false] false (wr)):=by
 have S:=sc_q1
 refine fnD T.t_q1.F S ⟨[false],[false,false,false],false⟩ _ ?hl rfl rfl fun cdv Ar outer s H E hr=>⟨_,(ag (bn (QW.qt (f7 (bg (a6 (cW rfl T.z_isinstance aG (ad 0) (bX (v:=.ty "tuple") rfl T.z_tuple fT rfl)))) (d8 (bh (dJ hr.units) dNe (aE ax cP rfl T.z_len bd (aa (ad 0) af)) ae (a9 _))))) (aj (aN ci)) aR)
  (ag (gN (ad 0) (bM rfl (aB (aD (i:=1) S.nd rfl 'c') (aB (aD (i:=2) S.nd rfl 'c') bt)) (ak (ak aU))))
  (ag (bn (QW.qt (f7 (bg (a6 (cW rfl T.z_isinstance aG (ad 1) (bX (v:=.ty "list") rfl T.z_list fg rfl)))) (d8 (bg (a6 (cW rfl T.z_isinstance aG (ad 2) (bX (v:=.ty "list") rfl T.z_list fg rfl))))))) (aj (aN ci)) aR)
  (aj (aN (dM (fD (eO hr.units) dEq (aE ax cP rfl T.z_len bd (aa (ad 1) af)) (aE ax cP rfl T.z_len bd (aa (ad 2) af)) (a9 _)) (eU (kX jw jw dB dB ae (aE ax cP rfl T.z_len bd (aa (ad 1) af)) (cz (i:=23) rfl T.c_MOST_TIES))))))))),fun ds q h=>?_⟩
 case hl=>intro ds q h; obtain ⟨d,rfl,_⟩:=h; rfl
 obtain ⟨d,rfl,hp,q0⟩:=h
 cases d with
 | tup ds =>
  refine (cI (c:=(!decide ((ds.length:Int)=2))=true) (fun c=>?_) (fun c=>?_))
  ·have:gD (.tup ds)=false:=by
    cases h:gD (.tup ds) with
    | false=>rfl
    | true =>
     obtain ⟨ps,rs,e,_⟩:=iK h
     cases e; simp at c
   rw [this] at q0; exact q0
  ·obtain ⟨a,b,rfl⟩:∃ a b,ds=[a,b]:=by
    have hl:ds.length=2:=by simp at c; omega
    match ds,hl with
    | [a,b],_=>exact ⟨a,b,rfl⟩
   rw [pln,aZ,aZ] at hp
   have ha:=dv hp.1
   have hb:=dv hp.2.1
   cases a with
   | lst ps =>
    cases b with
    | lst rs =>
     refine (cI (c:=decide ((ps.length:Int)=(rs.length:Int))=true) (fun c1=>?_) (fun c1=>?_))
     ·refine (cI (c:=decide ((1:Int)≤(ps.length:Int))=true) (fun c2=>?_) (fun c2=>?_))
      ·have e:gD (.tup [.lst ps,.lst rs])=decide ((ps.length:Int)≤23):=by
        have c1':ps.length=rs.length:=by have:=of_decide_eq_true c1; omega
        have c2' : 1≤ps.length:=by simp at c2; omega
        show (decide (ps.length=rs.length)&&(decide (1≤ps.length)&&decide (ps.length≤23)))=_
        rw [decide_eq_true c1',decide_eq_true c2',Bool.true_and,Bool.true_and]
        exact decide_eq_decide.mpr 'a'
       rw [e] at q0; exact q0
      ·have e:gD (.tup [.lst ps,.lst rs])=false:=by
        have c2' : ¬ 1≤ps.length:=by simp at c2; omega
        show (decide (ps.length=rs.length)&&(decide (1≤ps.length)&&decide (ps.length≤23)))=_
        rw [decide_eq_false c2',Bool.false_and,Bool.and_false]
       rw [e] at q0; exact q0
     ·have e:gD (.tup [.lst ps,.lst rs])=false:=by
       have c1' : ¬ ps.length=rs.length:=fun z=>c1 (decide_eq_true 'a')
       show (decide (ps.length=rs.length)&&(decide (1≤ps.length)&&decide (ps.length≤23)))=_
       rw [decide_eq_false c1',Bool.false_and]
      rw [e] at q0; exact q0
    | _=>first | exact q0 | cases hb
   | _=>first | exact q0 | cases ha
 | _=>first | exact q0 | (rw [pln] at hp; cases hp)
theorem vM (T:Txt K mg A):FnOk P w K mg base (CX1 P w) 3 A.f_q4 A.d_q4 ["thing"] (cZ [false] false ((tV A.c_q42))):=by
 have S:=vH
 refine fnX T.t_q4.F S ⟨[false],[false,false,false,false,false,false],false⟩ _ ?hl rfl rfl fun cdv Ar outer s H E hr=>⟨_,(aK (iO (bg (a6 (am (ve T) hr T.t_q1 (aq (ad 0) au)))) (bi (dN (j_ T) (hr.mono 'k') T.bi_q42 T.x_q42 T.fi_q42 T.kc_q42 rfl T.m_q42 (aa a7 (aa bJ af)))) eh)
  (aK (bQ (gN (ad 0) (bM rfl (aB (aD (i:=1) S.nd rfl 'c') (aB (aD (i:=2) S.nd rfl 'c') bt)) (ak (ak aU)))))
  (aK (mj rfl (d9 rfl T.z_enumerate (aa (ad 1) af)) (bM rfl (aB (aD (i:=3) S.nd rfl 'c') (aB (aD (i:=4) S.nd rfl 'c') bt)) (ak (ak aU))) (bi (iO (bg (a6 (am (er T) hr T.t_q13 (aq (ad 4) (aq ae (aq (ad 3) au)))))) (bi (dN (j_ T) (hr.mono 'k') T.bi_q42 T.x_q42 T.fi_q42 T.kc_q42 rfl T.m_q42 (aa a7 (aa (ad 3) af)))) eh)))
  (bi (mj rfl (d9 rfl T.z_enumerate (aa (ad 2) af)) (bM rfl (aB (aD (i:=3) S.nd rfl 'c') (aB (aD (i:=5) S.nd rfl 'c') bt)) (ak (ak aU))) (bi (iO (bg (a6 (am (er T) hr T.t_q13 (aq (ad 5) (aq ae (aq (cz (i:=1000000) rfl T.c_MOST_ROOM) au)))))) (bi (dN (j_ T) (hr.mono 'k') T.bi_q42 T.x_q42 T.fi_q42 T.kc_q42 rfl T.m_q42 (aa a7 (aa (ad 3) af)))) eh))))))),fun ds q qx h=>?_⟩
 case hl=>intro ds q qx h; obtain ⟨d,rfl,_⟩:=h; rfl
 obtain ⟨d,rfl,hp,q0,x0⟩:=h
 refine ⟨d,rfl,hp,?_⟩
 cases hT:gD d with
 | false=>exact ⟨rfl,fmt2 (kD 'k') kc,x0 _ _ (mD hT)⟩
 | true =>
  obtain ⟨ps,rs,rfl,hl,h1,h2⟩:=iK hT
  rw [g8 hT] at q0 x0
  rw [pln,aZ,aZ,pln,pln] at hp
  refine ⟨fun i ρ=>∃ v1 v2 v3,ρ=[some (.tup [.lst ps,.lst rs]),some (.lst ps),some (.lst rs),v1,v2,v3]∧aS k7 ps 0=aS k7 (ps.drop i) i,⟨_,_,_,rfl,rfl⟩,?_,?_⟩
  ·rintro i d ρ hd ⟨v1,v2,v3,rfl,hf⟩
   obtain ⟨d',hd',rfl⟩:=dz hd
   have hi:i<ps.length:=(List.getElem?_eq_some_iff.mp hd').1
   refine ⟨d',0,(i:Int),rfl,dv (ip hp.1 hd'),?_⟩
   rw [dL hd'] at hf
   cases hb:btw 0 (i:Int) d' with
   | true =>
    rw [if_pos (show k7 i d'=true from hb)] at hf
    exact ⟨_,_,_,rfl,hf⟩
   | false =>
    rw [if_neg (show ¬ k7 i d'=true by show ¬ btw 0 (i:Int) d'=true; rw [hb]; decide)] at hf
    exact ⟨rfl,fmt2 (kD 'k') (kj (Nat.lt_trans (show i<23 by omega) 'k')),x0 _ _ (by rw [hf])⟩
  ·rintro ρ ⟨v1,v2,v3,rfl,hf⟩
   rw [show (gy ps).length=ps.length by simp [gy],List.drop_length] at hf
   have hf:aS k7 ps 0=none:=hf
   rw [hf] at q0 x0
   refine ⟨fun i ρ=>∃ v1 v2 v3,ρ=[some (.tup [.lst ps,.lst rs]),some (.lst ps),some (.lst rs),v1,v2,v3]∧aS g6 rs 0=aS g6 (rs.drop i) i,⟨_,_,_,rfl,rfl⟩,?_,?_⟩
   ·rintro i d ρ hd ⟨v1,v2,v3,rfl,hg⟩
    obtain ⟨d',hd',rfl⟩:=dz hd
    have hi:i<rs.length:=(List.getElem?_eq_some_iff.mp hd').1
    refine ⟨d',1,1000000,rfl,dv (ip hp.2.1 hd'),?_⟩
    rw [dL hd'] at hg
    cases hb:btw 1 1000000 d' with
    | true =>
     rw [if_pos (show g6 i d'=true from hb)] at hg
     exact ⟨_,_,_,rfl,hg⟩
    | false =>
     rw [if_neg (show ¬ g6 i d'=true by show ¬ btw 1 1000000 d'=true; rw [hb]; decide)] at hg
     exact ⟨rfl,fmt2 (kD 'k') (kj (Nat.lt_trans (show i<23 by omega) 'k')),x0 _ _ (by rw [hg])⟩
   ·rintro ρ ⟨v1,v2,v3,rfl,hg⟩
    rw [show (gy rs).length=rs.length by simp [gy],List.drop_length] at hg
    have hg:aS g6 rs 0=none:=hg
    rw [hg] at q0
    exact q0 rfl
theorem vj (T:Txt K mg A):FnOk P w K mg base CX0 3 A.f_q4 A.d_q4 ["thing"] (bj [false] false (xV)):=by
 have S:=vH
 refine fnD T.t_q4.F S ⟨[false],[false,false,false,false,false,false],false⟩ _ ?hl rfl rfl fun cdv Ar outer s H E hr=>⟨_,(ag (bn (bg (a6 (am (ve T) hr T.t_q1 (aq (ad 0) au)))) (aj eG) aR)
  (ag (gN (ad 0) (bM rfl (aB (aD (i:=1) S.nd rfl 'c') (aB (aD (i:=2) S.nd rfl 'c') bt)) (ak (ak aU))))
  (ag (cH PassesOwn.never rfl (d9 rfl T.z_enumerate (aa (ad 1) af)) (bM rfl (aB (aD (i:=3) S.nd rfl 'c') (aB (aD (i:=4) S.nd rfl 'c') bt)) (ak (ak aU))) (aj (bn (bg (a6 (am (er T) hr T.t_q13 (aq (ad 4) (aq ae (aq (ad 3) au)))))) (aj eG) aR)))
  (aj (cH PassesOwn.never rfl (d9 rfl T.z_enumerate (aa (ad 2) af)) (bM rfl (aB (aD (i:=3) S.nd rfl 'c') (aB (aD (i:=5) S.nd rfl 'c') bt)) (ak (ak aU))) (aj (bn (bg (a6 (am (er T) hr T.t_q13 (aq (ad 5) (aq ae (aq (cz (i:=1000000) rfl T.c_MOST_ROOM) au)))))) (aj eG) aR))))))),fun ds q h=>?_⟩
 case hl=>intro ds q h; obtain ⟨ps,rs,rfl,_⟩:=h; rfl
 obtain ⟨ps,rs,rfl,hT,q0⟩:=h
 refine ⟨aQ ps rs,rfl,lY ps rs,?_⟩
 rw [ju hT]
 refine ⟨fun _ ρ=>∃ v1 v2 v3,ρ=[some (aQ ps rs),some (aL ps),some (aL rs),v1,v2,v3],⟨_,_,_,rfl⟩,?_,?_⟩
 ·rintro i d ρ hd ⟨v1,v2,v3,rfl⟩
  obtain ⟨d',h1,rfl⟩:=dz hd
  obtain ⟨z,hz,rfl⟩:=gt h1
  have hb:=hT.par i z hz
  refine ⟨.int z,0,(i:Int),rfl,rfl,?_⟩
  rw [cw hb.1 hb.2]
  exact ⟨_,_,_,rfl⟩
 ·rintro ρ ⟨v1,v2,v3,rfl⟩
  refine ⟨fun _ ρ=>∃ v1 v2 v3,ρ=[some (aQ ps rs),some (aL ps),some (aL rs),v1,v2,v3],⟨_,_,_,rfl⟩,?_,?_⟩
  ·rintro i d ρ hd ⟨v1,v2,v3,rfl⟩
   obtain ⟨d',h1,rfl⟩:=dz hd
   obtain ⟨z,hz,rfl⟩:=gt h1
   have hb:=hT.room i z hz
   refine ⟨.int z,1,1000000,rfl,rfl,?_⟩
   rw [cw hb.1 hb.2]
   exact ⟨_,_,_,rfl⟩
  ·rintro ρ ⟨v1,v2,v3,rfl⟩
   exact q0
theorem rV (T:Txt K mg A):FnOk P w K mg base CX0 3 A.f_q25 A.d_q25 ["tree","thing"] (bj [false,false] false (u7)):=by
 have S:=wZ
 refine fnD T.t_q25.F S ⟨[false,false],[false,false],false⟩ _ ?hl rfl rfl fun cdv Ar outer s H E hr=>⟨_,(aj (aN (am (er T) hr T.t_q13 (aq (ad 1) (aq ae (aq (aE ax cP rfl T.z_len bd (aa 't' af)) au)))))),fun ds q h=>?_⟩
 case hl=>intro ds q h; obtain ⟨ps,rs,d,rfl,_⟩:=h; rfl
 obtain ⟨ps,rs,d,rfl,hs,q0⟩:=h
 refine ⟨d,0,((ps.map D.int).length:Int),rfl,hs,?_⟩
 rw [List.length_map]; exact q0
theorem sX (T:Txt K mg A):FnOk P w K mg base CX0 4 A.f_q24 A.d_q24 ["tree","one","other"] (bj [false,false,false] false (um)):=by
 have S:=x3
 refine fnD T.t_q24.F S ⟨[false,false,false],[false,false,false],false⟩ _ ?hl rfl rfl fun cdv Ar outer s H E hr=>⟨_,(aj (aN (dM (am (rV T) hr T.t_q25 (aq (ad 0) (aq (ad 1) au))) (dM (am (rV T) hr T.t_q25 (aq (ad 0) (aq (ad 2) au))) (eU (fD (dJ hr.units) dNe (ad 1) (ad 2) (a9 _))))))),fun ds q h=>?_⟩
 case hl=>intro ds q h; obtain ⟨ps,rs,a,b,rfl,_⟩:=h; rfl
 obtain ⟨ps,rs,a,b,rfl,ha,hb,q0⟩:=h
 refine ⟨ps,rs,a,rfl,dv ha,?_⟩
 unfold cX at q0
 cases h1:btw 0 ps.length a with
 | false=>rw [h1,Bool.false_and] at q0; exact q0
 | true =>
  rw [h1,Bool.true_and] at q0
  refine ⟨ps,rs,b,rfl,dv hb,?_⟩
  cases h2:btw 0 ps.length b with
  | false=>rw [h2,Bool.false_and] at q0; exact q0
  | true =>
   rw [h2,Bool.true_and] at q0
   obtain ⟨i,rfl,_⟩:=cU h1
   obtain ⟨j,rfl,_⟩:=cU h2
   exact q0
theorem ok_q3 (T:Txt K mg A):FnOk P w K mg base CX0 5 A.f_q3 A.d_q3 ["tree","one","other"] (bj [false,false,false] false (nq)):=by
 have S:=sc_q3
 refine fnD T.t_q3.F S ⟨[false,false,false],[false,false,false],false⟩ _ ?hl rfl rfl fun cdv Ar outer s H E hr=>⟨_,(ag (fj (am (vj T) hr T.t_q4 (aq (ad 0) au)))
  (aj (bn (bg (a6 (am (sX T) hr T.t_q24 (aq (ad 0) (aq (ad 1) (aq (ad 2) au)))))) (aj eG) aR))),fun ds q h=>?_⟩
 case hl=>intro ds q h; obtain ⟨ps,rs,a,b,rfl,_⟩:=h; rfl
 obtain ⟨ps,rs,a,b,rfl,hT,he,q0⟩:=h
 refine ⟨ps,rs,rfl,hT,?_⟩
 refine ⟨ps,rs,.int a,.int b,rfl,rfl,rfl,?_⟩
 rw [kZ he]
 exact q0
theorem xP (T:Txt K mg A):FnOk P w K mg base CX0 1 A.f_q54 A.d_q54 ["tree","one","other"] (bj [false,false,false] true (tE)):=by
 have S:=xL
 refine fnD T.t_q54.F S ⟨[false,false,false],[false,false,false,true,false],true⟩ _ ?hl rfl rfl fun cdv Ar outer s H E hr=>⟨_,(ag (dC (i:=3) S.nd rfl 'c' (fA af))
  (ag (eR PassesOwn.never (bh (dJ hr.units) dNe (ad 1) (ad 2) (a9 _)) (ag (aI (i:=4) S.nd rfl 'c' (aE (jz rfl) dMax rfl T.z_max rN (aa (ad 1) (aa (ad 2) af))))
  (ag (ff (i:=3) rfl (QE.qf (ad 4)))
  (aj (yi (i:=1) (j:=2) rfl S.nd rfl rfl 'k' rfl rfl (aE (gK rfl) dMin rfl T.z_min nj (aa (ad 1) (aa (ad 2) af))) (aJ aA dIx 't' (aH eL dI (ad 4) ae) 'f') rfl)))))
  (aj (bW (kz (cB (QF.qm (QF.bor [3] (qr kl yl rfl T.z_sorted pV (aa (ad 3) af)))) (cB (QF.qm (QE.qf (ad 1))) ii))))))),fun ds q h=>?_⟩
 case hl=>intro ds q h; obtain ⟨ps,rs,a,b,rfl,_⟩:=h; rfl
 obtain ⟨ps,rs,a,b,rfl,hT,a0,a1,b0,b1,q0⟩:=h
 refine ⟨rfl,?_⟩
 refine ⟨fun k ρ=>∃ a' b' acc v,ρ=[some (aQ ps rs),some (.int a'),some (.int b'),some (aL acc),v]∧0≤a'∧a'≤ps.length∧0≤b'∧b'≤ps.length∧k=(a' + b').toNat∧acc.length + (a' + b').toNat≤46∧(∀ w m,Climb ps a' b' w m→Climb ps a b (acc++w) m),⟨_,a,b,[],_,rfl,a0,a1,b0,b1,rfl,by have:=hT.hi; simp; omega,fun w m h=>h⟩,?_⟩
 rintro k ρ ⟨a',b',acc,v,rfl,a0',a1',b0',b1',rfl,hl,hc⟩
 have hi:=hT.hi
 refine (cI (c:=(!decide (a'=b'))=true) (fun c=>?_) (fun c=>?_))
 ·have hne:a'≠b':=by simpa using c
  have key:∀ (low hig:Int),low=(if b' > a' then b' else a')→hig=(if b'<a' then b' else a')→0<low∧low≤ps.length∧0≤hig∧hig≤ps.length∧low + hig=a' + b'∧(∀ w m,Climb ps hig (cM ps low) w m→Climb ps a' b' (low :: w) m):=by
   intro low hig e1 e2
   by_cases hlt:b'<a'
   ·rw [if_neg 'a'] at e1; rw [if_pos hlt] at e2; subst e1; subst e2
    exact ⟨by omega,a1',b0',b1',by omega,fun w m h=>.left hlt h⟩
   ·rw [if_pos 'a'] at e1; rw [if_neg hlt] at e2; subst e1; subst e2
    exact ⟨by omega,b1',a0',a1',by omega,fun w m h=>.right 'a' h⟩
  obtain ⟨L,hL⟩:∃ L,L=(if b' > a' then b' else a'):=⟨_,rfl⟩
  obtain ⟨J,hJ⟩:∃ J,J=(if b'<a' then b' else a'):=⟨_,rfl⟩
  obtain ⟨k1,k2,k3,k4,k5,k6⟩:=key L J hL hJ
  have hp:=hT.up k1 k2
  refine ⟨rfl,?_⟩
  refine ⟨by show (acc.map D.int).length<1000; rw [List.length_map]; omega,?_⟩
  refine bZ (eW (by rw [← hL]; omega) (by rw [← hL]; omega)) ?_
  refine ⟨(J + cM ps L).toNat,by omega,J,cM ps L,acc++[L],some (.int L),?_,k3,k4,hp.1,by omega,rfl,by rw [List.length_append]; show acc.length + 1 + _≤46; omega,fun w m h=>by rw [List.append_assoc]; exact hc _ _ (k6 _ _ h)⟩
  show [some (aQ ps rs),some (.int (if b'<a' then b' else a')),some (.int (cM ps (if b' > a' then b' else a'))),some (D.lst (acc.map D.int++[D.int (if b' > a' then b' else a')])),some (.int (if b' > a' then b' else a'))]=_
  rw [← hL,← hJ,aL,List.map_append]; rfl
 ·have:a'=b':=by simpa using c
  subst this
  have hw:=hc [] a' (.same a')
  rw [List.append_nil] at hw
  have hln:=hw.len hT a0 b0 a1 b1
  refine ⟨acc,rfl,by omega,gG _,rfl,?_⟩
  exact q0 acc a' hw
theorem ok_q9 (T:Txt K mg A):FnOk P w K mg base CX0 6 A.f_q9 A.d_q9 ["tree","one","other"] (bj [false,false,false] true (sdWay)):=by
 have S:=sc_q9
 refine fnD T.t_q9.F S ⟨[false,false,false],[false,false,false,true,false],true⟩ _ ?hl rfl rfl fun cdv Ar outer s H E hr=>⟨_,(ag (fj (am (ok_q3 T) hr T.t_q3 (aq (ad 0) (aq (ad 1) (aq (ad 2) au)))))
  (ag (tH rfl (QF.qm (bC (xP T) hr T.t_q54 (aq (ad 0) (aq (ad 1) (aq (ad 2) au))))) (tK (i:=3) S.nd rfl 'c' (w9 (i:=4) S.nd rfl 'c' uk)) (ak (ak aU)))
  (aj (bW (fS 3))))),fun ds q h=>?_⟩
 case hl=>intro ds q h; obtain ⟨ps,rs,a,b,rfl,_⟩:=h; rfl
 obtain ⟨ps,rs,a,b,rfl,hT,he,q0⟩:=h
 refine ⟨ps,rs,a,b,rfl,hT,he,?_⟩
 refine ⟨ps,rs,a,b,rfl,hT,he.a0,he.a1,he.b0,he.b1,fun w m hw=>?_⟩
 exact q0 w m hw
theorem ww (T:Txt K mg A):FnOk P w K mg base CX0 7 A.f_q51 A.d_q51 ["tree","ask"] (bj [false,false] true (uc)):=by
 have S:=xX
 refine fnD T.t_q51.F S ⟨[false,false],[false,false],true⟩ _ ?hl rfl rfl fun cdv Ar outer s H E hr=>⟨_,(aj (bW (QF.qm (bC (ok_q9 T) hr T.t_q9 (aq (ad 0) (aq (aJ aA dIx (ad 1) ae 'f') (aq (aJ aA dIx (ad 1) ae 'f') au))))))),fun ds q h=>?_⟩
 case hl=>intro ds q h; obtain ⟨ps,rs,a,rfl,_⟩:=h; rfl
 obtain ⟨ps,rs,a,rfl,hT,he,q0⟩:=h
 refine ⟨ps,rs,a.one,a.other,rfl,hT,he,fun w m hw=>?_⟩
 rw [(hw.way hT he.a0 he.b0 he.a1 he.b1).1]
 exact q0
theorem l9 (T:Txt K mg A):FnOk P w K mg base CX0 3 A.f_q44 A.d_q44 ["tree","thing"] (bj [false,false] false (sdTie)):=by
 have S:=wv
 refine fnD T.t_q44.F S ⟨[false,false],[false,false],false⟩ _ ?hl rfl rfl fun cdv Ar outer s H E hr=>⟨_,(aj (aN (am (er T) hr T.t_q13 (aq (ad 1) (aq ae (aq (aE ax cP rfl T.z_len bd (aa 't' af)) au)))))),fun ds q h=>?_⟩
 case hl=>intro ds q h; obtain ⟨ps,rs,d,rfl,_⟩:=h; rfl
 obtain ⟨ps,rs,d,rfl,hs,q0⟩:=h
 refine ⟨d,1,((ps.map D.int).length:Int),rfl,hs,?_⟩
 rw [List.length_map]; exact q0
theorem rC (T:Txt K mg A):FnOk P w K mg base CX0 4 A.f_q12 A.d_q12 ["tree","one","other"] (bj [false,false,false] false (pE)):=by
 have S:=xC
 refine fnD T.t_q12.F S ⟨[false,false,false],[false,false,false,false],false⟩ _ ?hl rfl rfl fun cdv Ar outer s H E hr=>⟨_,(ag (fj (am (vj T) hr T.t_q4 (aq (ad 0) au)))
  (ag (bn (QW.qt (f7 (bg (a6 (am (l9 T) hr T.t_q44 (aq (ad 0) (aq (ad 1) au))))) (d8 (bg (a6 (am (l9 T) hr T.t_q44 (aq (ad 0) (aq (ad 2) au)))))))) (aj eG) aR)
  (ag (aI (i:=3) S.nd rfl 'c' (aJ aA dIx 't' (aH eL dI (ad 1) ae) 'f'))
  (ag (eR PassesOwn.never (bh oH dB (ad 3) (ad 2) (a9 _)) (aj (aI (i:=3) S.nd rfl 'c' (aJ aA dIx 't' (aH eL dI (ad 3) ae) 'f'))))
  (aj (aN (fD (eO hr.units) dEq (ad 3) (ad 2) (a9 _)))))))),fun ds q h=>?_⟩
 case hl=>intro ds q h; obtain ⟨ps,rs,a,b,rfl,_⟩:=h; rfl
 obtain ⟨ps,rs,a,b,rfl,hT,a0,a1,b0,b1,q0⟩:=h
 refine ⟨ps,rs,rfl,hT,?_⟩
 refine ⟨ps,rs,.int a,rfl,rfl,?_⟩
 rw [cw a0 a1]
 refine ⟨ps,rs,.int b,rfl,rfl,?_⟩
 rw [cw b0 b1]
 refine bZ (eW 'a' 'a') ?_
 have hp:=hT.up (show 0<a by omega) a1
 obtain ⟨u,hu⟩:=Up.all hT _ (cM ps a) rfl hp.1 'a'
 refine ⟨fun j ρ=>∃ k:Int,ρ=[some (aQ ps rs),some (.int a),some (.int b),some (.int k)]∧0≤k∧k≤ps.length∧j=k.toNat∧∀ u',Up ps k u'→u.contains b=u'.contains b,⟨_,cM ps a,rfl,hp.1,by omega,rfl,fun u' h=>by rw [hu.det h]⟩,?_⟩
 rintro j ρ ⟨k,rfl,k0,k1,rfl,hk⟩
 refine (cI (c:=decide (b<k)=true) (fun c=>?_) (fun c=>?_))
 ·have hlt:b<k:=by simpa using c
  have hp':=hT.up (show 0<k by omega) k1
  refine bZ (eW 'a' 'a') ?_
  refine ⟨(cM ps k).toNat,by omega,cM ps k,rfl,hp'.1,by omega,rfl,fun u' h=>?_⟩
  rw [hk _ (.step 'a' h),List.contains_cons,show (b == k)=false by simp; omega,Bool.false_or]
 ·have hle:k≤b:=by simp at c; omega
  obtain ⟨u',hu'⟩:=Up.all hT _ k rfl k0 k1
  have e:=hk u' hu'
  have:u'.contains b=decide (k=b):=by
   by_cases hkb:k=b
   ·subst hkb; rw [decide_eq_true rfl]; exact List.contains_iff_mem.mpr hu'.head
   ·rw [decide_eq_false hkb]
    cases z:u'.contains b with
    | false=>rfl
    | true=>have:=(hu'.le hT k1 b (List.contains_iff_mem.mp z)).2; omega
  show q (.bl (decide (k=b))) []
  rw [← this,← e]
  exact q0 u hu
theorem xW (T:Txt K mg A):FnOk P w K mg base CX0 5 A.f_q43 A.d_q43 ["tree","thing"] (bj [false,false] false (rH)):=by
 have S:=xM
 refine fnD T.t_q43.F S ⟨[false,false],[false,false,false,false,false,false],false⟩ _ ?hl rfl rfl fun cdv Ar outer s H E hr=>⟨_,(ag (bn (QW.qt (f7 (bg (a6 (cW rfl T.z_isinstance aG (ad 1) (bX (v:=.ty "tuple") rfl T.z_tuple fT rfl)))) (d8 (bh (dJ hr.units) dNe (aE ax cP rfl T.z_len bd (aa (ad 1) af)) ae (a9 _))))) (aj (aN ci)) aR)
  (ag (gN (ad 1) (bM rfl (aB (aD (i:=2) S.nd rfl 'c') (aB (aD (i:=3) S.nd rfl 'c') (aB (aD (i:=4) S.nd rfl 'c') (aB (aD (i:=5) S.nd rfl 'c') bt)))) (ak (ak (ak (ak aU))))))
  (aj (aN (dM (am (sX T) hr T.t_q24 (aq (ad 0) (aq (ad 2) (aq (ad 3) au)))) (dM (am (er T) hr T.t_q13 (aq (ad 4) (aq ae (aq (cz (i:=1000000) rfl T.c_MOST_SIZE) au)))) (eU (am (er T) hr T.t_q13 (aq (ad 5) (aq ae (aq (cz (i:=1000000000000) rfl T.c_MOST_WORTH) au))))))))))),fun ds q h=>?_⟩
 case hl=>intro ds q h; obtain ⟨ps,rs,d,rfl,_⟩:=h; rfl
 obtain ⟨ps,rs,d,rfl,hp,q0⟩:=h
 cases d with
 | tup ds =>
  refine (cI (c:=(!decide ((ds.length:Int)=4))=true) (fun c=>?_) (fun c=>?_))
  ·have:fk ps.length (.tup ds)=false:=by
    cases h:fk ps.length (.tup ds) with
    | false=>rfl
    | true =>
     obtain ⟨a,e,_⟩:=uW h
     unfold dH at e; cases e; simp at c
   rw [this] at q0; exact q0
  ·obtain ⟨a,b,s',w',rfl⟩:∃ a b s w,ds=[a,b,s,w]:=by
    have hl:ds.length=4:=by simp at c; omega
    match ds,hl with
    | [a,b,s,w],_=>exact ⟨a,b,s,w,rfl⟩
   rw [pln,aZ,aZ,aZ,aZ] at hp
   have e:fk ps.length (.tup [a,b,s',w'])=(cX ps.length a b&&(btw 1 1000000 s'&&btw 1 1000000000000 w')):=rfl
   rw [e] at q0
   refine ⟨ps,rs,a,b,rfl,hp.1,hp.2.1,?_⟩
   cases h1:cX ps.length a b with
   | false=>rw [h1,Bool.false_and] at q0; exact q0
   | true =>
    rw [h1,Bool.true_and] at q0
    refine ⟨s',1,1000000,rfl,dv hp.2.2.1,?_⟩
    cases h2:btw 1 1000000 s' with
    | false=>rw [h2,Bool.false_and] at q0; exact q0
    | true =>
     rw [h2,Bool.true_and] at q0
     exact ⟨w',1,1000000000000,rfl,dv hp.2.2.2.1,q0⟩
 | _=>first | exact q0 | (rw [pln] at hp; cases hp)
theorem mU (T:Txt K mg A):FnOk P w K mg base (CX1 P w) 6 A.f_q2 A.d_q2 ["tree","thing"] (cZ [false,false] false ((ug A.c_q42 A.c_q38))):=by
 have S:=sc_q2
 refine fnX T.t_q2.F S ⟨[false,false],[false,false,false,false],false⟩ _ ?hl rfl rfl fun cdv Ar outer s H E hr=>⟨_,(aK (ic (ck (vM T) hr T.t_q4 (aq (ad 0) au)))
  (aK (iO (QW.qt (f7 (bg (a6 (cW rfl T.z_isinstance aG (ad 1) (bX (v:=.ty "list") rfl T.z_list fg rfl)))) (d8 (bh oH dB (aE ax cP rfl T.z_len bd (aa (ad 1) af)) (cz (i:=30) rfl T.c_MOST_ASKS) (a9 _))))) (bi (dN (nY T) (hr.mono 'k') T.bi_q38 T.x_q38 T.fi_q38 T.kc_q38 rfl T.m_q38 (aa bJ af))) eh)
  (bi (mj rfl (d9 rfl T.z_enumerate (aa (ad 1) af)) (bM rfl (aB (aD (i:=2) S.nd rfl 'c') (aB (aD (i:=3) S.nd rfl 'c') bt)) (ak (ak aU))) (bi (iO (bg (a6 (am (xW T) hr T.t_q43 (aq (ad 0) (aq (ad 3) au))))) (bi (dN (nY T) (hr.mono 'k') T.bi_q38 T.x_q38 T.fi_q38 T.kc_q38 rfl T.m_q38 (aa (ad 2) af))) eh)))))),fun ds q qx h=>?_⟩
 case hl=>intro ds q qx h; obtain ⟨t,x,rfl,_⟩:=h; rfl
 obtain ⟨t,x,rfl,h⟩:=h
 rcases h with ⟨p,n,hp,he,x0⟩ | ⟨ps,rs,rfl,hT,hx,h⟩
 ·refine ⟨t,rfl,hp,fun z=>?_,fun p' n' z=>?_⟩
  ·rw [he] at z; cases z
  ·rw [he] at z; cases z; exact x0
 ·refine ⟨aQ ps rs,rfl,lY ps rs,fun _=>?_,fun p' n' z=>by rw [kK hT] at z; cases z⟩
  have no:(∃ n,some D.non=some n∧qx A.c_q38 kW [n] [])∨(some D.non=none∧q .non [])→qx A.c_q38 kW [.non] []:=fun h=>by
   rcases h with ⟨n,e,z⟩ | ⟨e,_⟩
   ·cases e; exact z
   ·cases e
  cases x with
  | lst ds =>
   have e:bV ps.length (.lst ds)=if ds.length≤30 then (aS (lK ps.length) ds 0).map (fun (i:Nat)=>D.int i) else some .non:=rfl
   rw [e] at h
   refine (cI (c:=decide ((30:Int)<(ds.length:Int))=true) (fun c=>?_) (fun c=>?_))
   ·have c' : ¬ ds.length≤30:=by have:=of_decide_eq_true c; omega
    rw [if_neg c'] at h
    exact ⟨rfl,fmt1 kc,no h⟩
   ·have c':ds.length≤30:=by have : ¬ ((30:Int)<(ds.length:Int)):=fun z=>c (decide_eq_true z); omega
    rw [if_pos c'] at h
    rw [pln] at hx
    refine ⟨fun i ρ=>∃ v1 v2,ρ=[some (aQ ps rs),some (.lst ds),v1,v2]∧aS (lK ps.length) ds 0=aS (lK ps.length) (ds.drop i) i,⟨_,_,rfl,rfl⟩,?_,?_⟩
    ·rintro i d ρ hd ⟨v1,v2,rfl,hf⟩
     obtain ⟨d',hd',rfl⟩:=dz hd
     have hi:i<ds.length:=(List.getElem?_eq_some_iff.mp hd').1
     refine ⟨ps,rs,d',rfl,ip hx hd',?_⟩
     rw [dL hd'] at hf
     cases hb:fk ps.length d' with
     | true =>
      rw [if_pos (show lK ps.length i d'=true from hb)] at hf
      exact ⟨_,_,rfl,hf⟩
     | false =>
      rw [if_neg (show ¬ lK ps.length i d'=true by show ¬ fk ps.length d'=true; rw [hb]; decide)] at hf
      rw [hf] at h
      refine ⟨rfl,fmt1 (kj (Nat.lt_trans (show i<31 by omega) 'k')),?_⟩
      rcases h with ⟨n,e,z⟩ | ⟨e,_⟩
      ·cases e; exact z
      ·cases e
    ·rintro ρ ⟨v1,v2,rfl,hf⟩
     rw [show (gy ds).length=ds.length by simp [gy],List.drop_length] at hf
     have hf:aS (lK ps.length) ds 0=none:=hf
     rw [hf] at h
     rcases h with ⟨n,e,z⟩ | ⟨_,z⟩
     ·cases e
     ·exact z
  | _=>first | exact ⟨rfl,fmt1 kc,no h⟩ | (rw [pln] at hx; cases hx)
def tO:SpD:=fun ds q=>∃ ps rs a b,ds=[aQ ps rs,.int a,.int b]∧Tree ps rs∧1≤a∧a≤ps.length∧1≤b∧b≤ps.length∧q (.bl (bO ps a b)) []
theorem nz (T:Txt K mg A):FnOk P w K mg base CX0 5 A.f_q18 A.d_q18 ["tree","one","other"] (bj [false,false,false] false (tO)):=by
 have S:=vP
 refine fnD T.t_q18.F S ⟨[false,false,false],[false,false,false],false⟩ _ ?hl rfl rfl fun cdv Ar outer s H E hr=>⟨_,(aj (aN (dM (mK (am (rC T) hr T.t_q12 (aq (ad 0) (aq (ad 1) (aq (ad 2) au))))) (eU (mK (am (rC T) hr T.t_q12 (aq (ad 0) (aq (ad 2) (aq (ad 1) au))))))))),fun ds q h=>?_⟩
 case hl=>intro ds q h; obtain ⟨ps,rs,a,b,rfl,_⟩:=h; rfl
 obtain ⟨ps,rs,a,b,rfl,hT,a0,a1,b0,b1,q0⟩:=h
 refine ⟨ps,rs,a,b,rfl,hT,a0,a1,b0,b1,fun u hu=>?_⟩
 rw [sM hu]
 unfold bO at q0
 cases e:qT ps a b with
 | true=>rw [e] at q0; exact q0
 | false =>
  rw [e] at q0
  refine ⟨ps,rs,b,a,rfl,hT,b0,b1,a0,a1,fun v hv=>?_⟩
  rw [sM hv]
  exact q0
end
end K49
namespace K49
open PySem L2
section
variable {P:Program} {w:World} {K:PySem.W.Frag} {mg:Str→Option Value} {base:Heap} {A:Adr}
def bz (ls:List (Int×Int)):D:=.lst (ls.map dLk)
abbrev Lks:=List (List (Int×Int))
def a_ (L:Lks) (t:Int):List (Int×Int):=L.getD (t - 1).toNat []
def b4 (L:Lks) (t:Int) (l:Int×Int):Lks:=L.set (t - 1).toNat (a_ L t++[l])
theorem fh {L:Lks} {t s:Int} {l:Int×Int} (t0 : 1≤t) (t1:t≤(L.length:Int)) (s0 : 1≤s):a_ (b4 L t l) s=if s=t then a_ L t++[l] else a_ L s:=by
 unfold a_ b4
 rw [List.getD_eq_getElem?_getD,List.getElem?_set]
 by_cases e:s=t
 ·rw [e,if_pos rfl,if_pos rfl,if_pos 'a']; rfl
 ·rw [if_neg (show ¬ (t - 1).toNat=(s - 1).toNat by omega),if_neg e,List.getD_eq_getElem?_getD]
theorem ir (L:Lks) (t:Int) (l:Int×Int):(b4 L t l).length=L.length:=List.length_set ..
structure LnOk (ps:List Int) (as:List Ask) (b:Nat) (L:Lks):Prop where
 len:L.length=ps.length
 row:∀ t:Int,1≤t→t≤ps.length→∀ l∈a_ L t,iA ps as t l.1 l.2=true∧LkOk ps.length as.length l
 few:∀ t:Int,1≤t→t≤ps.length→(a_ L t).length≤b
 sym:∀ t:Int,1≤t→t≤ps.length→∀ l∈a_ L t,(t,l.2)∈a_ L l.1
theorem LnOk.add {ps:List Int} {as:List Ask} {b:Nat} {L:Lks} {x y k:Int} (h:LnOk ps as b L) (hj:iA ps as x y k=true) (hj2:iA ps as y x k=true) (hx:LkOk ps.length as.length (x,k)) (hy:LkOk ps.length as.length (y,k)):LnOk ps as (b + 1) (b4 (b4 L x (y,k)) y (x,k)):=by
 have hne:x≠y:=fun e=>by unfold iA at hj; rw [e] at hj; simp at hj
 have x0 : 1≤x:=hx.t0
 have x1:x≤ps.length:=hx.t1
 have y0 : 1≤y:=hy.t0
 have y1:y≤ps.length:=hy.t1
 have hl:=h.len
 have row:∀ t:Int,1≤t→t≤ps.length→a_ (b4 (b4 L x (y,k)) y (x,k)) t=if t=y then a_ L y++[(x,k)] else if t=x then a_ L x++[(y,k)] else a_ L t:=fun t t0 t1=>by
  rw [fh y0 (by rw [ir,hl]; exact y1) t0,fh x0 (by rw [hl]; exact x1) y0,fh x0 (by rw [hl]; exact x1) t0,if_neg (show ¬ y=x from fun e=>hne e.symm)]
 refine ⟨by rw [ir,ir]; exact hl,fun t t0 t1 l hm=>?_,fun t t0 t1=>?_,fun t t0 t1 l hm=>?_⟩
 ·rw [row t t0 t1] at hm
  split at hm
  ·rename_i e
   rcases List.mem_append.mp hm with z | z
   ·rw [e]; exact h.row y y0 y1 l z
   ·rw [List.mem_singleton.mp z,e]; exact ⟨hj2,hx⟩
  ·split at hm
   ·rename_i e
    rcases List.mem_append.mp hm with z | z
    ·rw [e]; exact h.row x x0 x1 l z
    ·rw [List.mem_singleton.mp z,e]; exact ⟨hj,hy⟩
   ·exact h.row t t0 t1 l hm
 ·rw [row t t0 t1]
  split
  ·rw [List.length_append]; have:=h.few y y0 y1; show _ + 1≤_; omega
  ·split
   ·rw [List.length_append]; have:=h.few x x0 x1; show _ + 1≤_; omega
   ·have:=h.few t t0 t1; omega
 ·rw [row t t0 t1] at hm
  have up:∀ s:Int,1≤s→s≤ps.length→∀ m∈a_ L s,m∈a_ (b4 (b4 L x (y,k)) y (x,k)) s:=fun s s0 s1 m hm=>by
   rw [row s s0 s1]
   split
   ·rename_i e; rw [e] at hm; exact List.mem_append_left _ hm
   ·split
    ·rename_i e; rw [e] at hm; exact List.mem_append_left _ hm
    ·exact hm
  split at hm
  ·rename_i e
   rcases List.mem_append.mp hm with z | z
   ·have lk:=(h.row y y0 y1 l z).2
    rw [e]; exact up _ lk.t0 lk.t1 _ (h.sym y y0 y1 l z)
   ·rw [List.mem_singleton.mp z,e,row x x0 x1,if_neg hne,if_pos rfl]; exact List.mem_append_right _ (.head _)
  ·split at hm
   ·rename_i e
    rcases List.mem_append.mp hm with z | z
    ·have lk:=(h.row x x0 x1 l z).2
     rw [e]; exact up _ lk.t0 lk.t1 _ (h.sym x x0 x1 l z)
    ·rw [List.mem_singleton.mp z,e,row y y0 y1,if_pos rfl]; exact List.mem_append_right _ (.head _)
   ·have lk:=(h.row t t0 t1 l hm).2
    exact up _ lk.t0 lk.t1 _ (h.sym t t0 t1 l hm)
theorem LnOk.up {ps:List Int} {as:List Ask} {b b':Nat} {L:Lks} (h:LnOk ps as b L) (hb:b≤b'):LnOk ps as b' L:=⟨h.len,h.row,fun t t0 t1=>Nat.le_trans (h.few t t0 t1) hb,h.sym⟩
theorem ky {L:Lks} {t s:Int} {l m:Int×Int} (t0 : 1≤t) (t1:t≤(L.length:Int)) (s0 : 1≤s) (h:m∈a_ L s):m∈a_ (b4 L t l) s:=by
 rw [fh t0 t1 s0]
 split
 ·rename_i e; rw [e] at h; exact List.mem_append_left _ h
 ·exact h
theorem jX {L:Lks} {t:Int} (t0 : 1≤t) (t1:t≤(L.length:Int)):ixN (L.map bz).length (t - 1)=some (t - 1).toNat∧(L.map bz)[(t - 1).toNat]? = some (.lst ((a_ L t).map dLk)):=by
 refine ⟨tX 'a' (by rw [List.length_map]; omega),?_⟩
 rw [List.getElem?_map]
 unfold a_
 rw [List.getD_eq_getElem?_getD,List.getElem?_eq_getElem 'a']; rfl
theorem oh {L:Lks} {t:Int} {l:Int×Int}:(L.map bz).set (t - 1).toNat (.lst ((a_ L t).map dLk++[dLk l]))=(b4 L t l).map bz:=by
 unfold b4
 rw [List.map_set]
 congr 1
 unfold bz
 rw [List.map_append]; rfl
def Cov (ps:List Int) (as:List Ask) (L:Lks) (i:Nat):Prop:=∀ (k:Nat) a,k<i→as[k]? = some a→∀ p∈(dg ps a).zip ((dg ps a).drop 1),(p.2,(k:Int))∈a_ L p.1
def ut:SpD:=fun ds q=>∃ ps rs as,ds=[aQ ps rs,bK as]∧Tree ps rs∧AsksOk ps as∧∀ L,LnOk ps as 690 L→Cov ps as L as.length→q (.lst (L.map bz)) []
theorem xn (T:Txt K mg A):FnOk P w K mg base CX0 8 A.f_q28 A.d_q28 ["tree","asks"] (bj [false,false] true (ut)):=by
 have S:=wN
 refine fnD T.t_q28.F S ⟨[false,false],[false,false,true,false,false,false,false,false],true⟩ _ ?hl rfl rfl fun cdv Ar outer s H E hr=>⟨_,(ag (nE (i:=2) ["parent"] [] ⟨rfl,rfl,by decide +kernel,rfl,rfl,(by first | exact trivial | exact ⟨rfl,trivial⟩ | exact ⟨rfl,rfl,trivial⟩ | exact ⟨rfl,rfl,rfl,trivial⟩ | exact ⟨rfl,rfl,rfl,rfl,trivial⟩),rfl⟩ rfl S.nd rfl 'c' (cq 't') (cu 0) (fun _ _ _ _=>⟨(bA (i:=0) (show List.Nodup (["parent"]:List Str) by decide +kernel) rfl 'c'),cN,(av af)⟩))
  (ag (cH PassesOwn.never rfl (d9 rfl T.z_enumerate (aa (ad 1) af)) (bM rfl (aB (aD (i:=3) S.nd rfl 'c') (aB (aD (i:=4) S.nd rfl 'c') bt)) (ak (ak aU))) (ag (aI (i:=5) S.nd rfl 'c' (QF.qe (bC (ww T) hr T.t_q51 (aq (ad 0) (aq (ad 4) au)))))
  (aj (cH PassesOwn.never rfl (qA rfl T.z_zip (aa (ad 5) (aa (eF (ad 5) (fV ae) f6) af))) (bM rfl (aB (aD (i:=6) S.nd rfl 'c') (aB (aD (i:=7) S.nd rfl 'c') bt)) (ak (ak aU))) (ag (oP (i:=2) (vI s9 (sT eL (qF 6) sI)) (aF (aa (ad 7) (aa (ad 3) af))))
  (aj (oP (i:=2) (vI s9 (sT eL (qF 7) sI)) (aF (aa (ad 6) (aa (ad 3) af))))))))))
  (aj (bW (fS 2))))),fun ds q h=>?_⟩
 case hl=>intro ds q h; obtain ⟨ps,rs,as,rfl,_⟩:=h; rfl
 obtain ⟨ps,rs,as,rfl,hT,ha,q0⟩:=h
 have hal:=ha.len
 have hti:=hT.hi
 refine ⟨by rw [br]; omega,fun d hd=>trivial,?_⟩
 have e0:((ps.map D.int).map fun _=>D.lst [])=(ps.map fun _=>([]:List (Int×Int))).map bz:=by rw [List.map_map,List.map_map]; rfl
 rw [e0]
 have hlen0:(ps.map fun _=>([]:List (Int×Int))).length=ps.length:=List.length_map ..
 have h0:LnOk ps as (23 * 0) (ps.map fun _=>([]:List (Int×Int))):=by
  have re:∀ t:Int,a_ (ps.map fun _=>([]:List (Int×Int))) t=[]:=fun t=>by
   unfold a_
   rw [List.getD_eq_getElem?_getD,List.getElem?_map]
   cases ps[(t - 1).toNat]? <;> rfl
  refine ⟨hlen0,fun t _ _ l hm=>?_,fun t _ _=>?_,fun t _ _ l hm=>?_⟩
  ·rw [re] at hm; cases hm
  ·rw [re]; exact Nat.le_refl _
  ·rw [re] at hm; cases hm
 refine ⟨fun i ρ=>∃ L v3 v4 v5 v6 v7,ρ=[some (aQ ps rs),some (bK as),some (.lst (L.map bz)),v3,v4,v5,v6,v7]∧LnOk ps as (23 * i) L∧Cov ps as L i,⟨_,_,_,_,_,_,rfl,h0,fun k a h=>absurd h (Nat.not_lt_zero _)⟩,?_,?_⟩
 rotate_left
 ·rintro ρ ⟨L,v3,v4,v5,v6,v7,rfl,hL,hC⟩
  rw [iG,eS] at hL hC
  exact q0 L (hL.up 'a') hC
 rintro i d ρ hd ⟨L,v3,v4,v5,v6,v7,rfl,hL,hC⟩
 obtain ⟨d',hd',rfl⟩:=dz hd
 obtain ⟨a,ha1,rfl⟩:∃ a,as[i]? = some a∧dH a=d':=by rw [List.getElem?_map] at hd'; exact Option.map_eq_some_iff.mp hd'
 have hil:i<as.length:=(List.getElem?_eq_some_iff.mp ha1).1
 have hok:=ha.ok a (List.mem_of_getElem? ha1)
 have he:=hok.ends
 have hnd:(dg ps a).Nodup:=pB hT he
 have hwm:∀ t∈dg ps a,0<t∧t≤(ps.length:Int):=fun t ht=>om hT he ht
 have eN:askN as (i:Int)=a:=by unfold askN; rw [Int.toNat_natCast,List.getD_eq_getElem?_getD,ha1]; rfl
 have hwl:(dg ps a).length≤23:=by
  have:=hnd.length_le_of_subset (l₂:=(List.range ps.length).map fun j=>((j + 1:Nat):Int)) fun x hx=>by
   have:=hwm x hx
   exact List.mem_map.mpr ⟨(x - 1).toNat,List.mem_range.mpr 'a',by omega⟩
  rw [List.length_map,List.length_range] at this
  omega
 have hjn:∀ x∈dg ps a,∀ y∈dg ps a,x≠y→iA ps as x y (i:Int)=true:=fun x hx y hy e=>by
  unfold iA
  rw [eN,List.contains_iff_mem.mpr hx,List.contains_iff_mem.mpr hy]
  simp [e]
 refine ⟨ps,rs,a,rfl,hT,he,?_⟩
 generalize hW:dg ps a=W at hnd hwm hwl hjn
 have ec:eE (W.map D.int) (some 1) none=(W.drop 1).map D.int:=by rw [gu 'k',List.map_drop]; rfl
 refine ⟨fun j ρ=>∃ L v6 v7,ρ=[some (aQ ps rs),some (bK as),some (.lst (L.map bz)),some (.int (i:Int)),some (dH a),some (aL W),v6,v7]∧LnOk ps as (23 * i + j) L∧Cov ps as L i∧∀ p∈(W.zip (W.drop 1)).take j,(p.2,(i:Int))∈a_ L p.1,⟨L,_,_,rfl,hL,hC,fun p h=>(by cases h)⟩,?_,?_⟩
 rotate_left
 ·rintro ρ ⟨L,v6,v7,rfl,hL,hC,hp⟩
  have hzl:(nA (W.map D.int) (eE (W.map D.int) (some 1) none)).length=(W.zip (W.drop 1)).length:=by
   rw [ec]; unfold nA; rw [List.length_zipWith,List.length_zip,List.length_map,List.length_map]
  rw [hzl] at hL hp
  rw [List.take_length] at hp
  refine ⟨L,_,_,_,_,_,rfl,hL.up ?_,fun k b hk hb p hp2=>?_⟩
  ·rw [List.length_zip,List.length_drop]; omega
  ·by_cases e:k=i
   ·subst e; rw [ha1] at hb; cases hb; rw [hW] at hp2; exact hp p hp2
   ·exact hC k b 'a' hb p hp2
 rintro j d ρ hd ⟨L,v6,v7,rfl,hL,hC,hp⟩
 rw [ec] at hd
 obtain ⟨x',y',hx,hy,rfl⟩:=ou hd
 obtain ⟨x,hx1,rfl⟩:=gt hx
 obtain ⟨y,hy1,rfl⟩:=gt hy
 clear hx hy
 have hx:=hx1
 have hy:=hy1
 have hzj:(W.zip (W.drop 1))[j]? = some (x,y):=List.getElem?_zip_eq_some.mpr ⟨hx,hy⟩
 have hpm:=List.mem_of_getElem? hzj
 have hne:x≠y:=vb hnd hpm
 have mx:=List.mem_of_getElem? hx
 have my:=List.mem_of_mem_drop (List.mem_of_getElem? hy)
 have bx:=hwm x mx
 have by':=hwm y my
 have hjl:j<23:=by have:=(List.getElem?_eq_some_iff.mp hx).1; omega
 have hln:=hL.len
 have f1:=hL.few x 'a' bx.2
 have f2:=hL.few y 'a' by'.2
 have g1:=jX (L:=L) (t:=x) 'a' (by rw [hln]; exact bx.2)
 refine ⟨.lst (L.map bz),rfl,x,rfl,(x - 1).toNat,.lst ((a_ L x).map dLk),g1.1,g1.2,.lst (L.map bz),(a_ L x).map dLk,rfl,rfl,rfl,by rw [List.length_map]; omega,?_⟩
 have e1:ki ([]++[(x - 1).toNat]) (.lst (L.map bz)) (.lst ((a_ L x).map dLk++[D.tup [.int y,.int (i:Int)]])) = .lst ((b4 L x (y,(i:Int))).map bz):=by
  show (match (L.map bz)[(x - 1).toNat]? with | some e=>D.lst ((L.map bz).set (x - 1).toNat _) | none=>_)=_
  rw [g1.2]
  show D.lst ((L.map bz).set (x - 1).toNat (.lst ((a_ L x).map dLk++[dLk (y,(i:Int))])))=_
  rw [oh]
 rw [e1]
 have hy1':y≤((b4 L x (y,(i:Int))).length:Int):=by rw [ir,hln]; exact by'.2
 have g2:=jX (L:=b4 L x (y,(i:Int))) (t:=y) 'a' hy1'
 have hry:(a_ (b4 L x (y,(i:Int))) y).length≤23 * i + j:=by rw [fh 'a' (by rw [hln]; exact bx.2) 'a',if_neg (fun z=>hne z.symm)]; exact f2
 refine ⟨.lst ((b4 L x (y,(i:Int))).map bz),rfl,y,rfl,(y - 1).toNat,.lst ((a_ (b4 L x (y,(i:Int))) y).map dLk),g2.1,g2.2,.lst ((b4 L x (y,(i:Int))).map bz),(a_ (b4 L x (y,(i:Int))) y).map dLk,rfl,rfl,rfl,by rw [List.length_map]; omega,?_⟩
 have e2:ki ([]++[(y - 1).toNat]) (.lst ((b4 L x (y,(i:Int))).map bz)) (.lst ((a_ (b4 L x (y,(i:Int))) y).map dLk++[D.tup [.int x,.int (i:Int)]])) = .lst ((b4 (b4 L x (y,(i:Int))) y (x,(i:Int))).map bz):=by
  show (match ((b4 L x (y,(i:Int))).map bz)[(y - 1).toNat]? with | some e=>D.lst (((b4 L x (y,(i:Int))).map bz).set (y - 1).toNat _) | none=>_)=_
  rw [g2.2]
  show D.lst (((b4 L x (y,(i:Int))).map bz).set (y - 1).toNat (.lst ((a_ (b4 L x (y,(i:Int))) y).map dLk++[dLk (x,(i:Int))])))=_
  rw [oh]
 rw [e2]
 have grow:∀ (s:Int) m,1≤s→m∈a_ L s→m∈a_ (b4 (b4 L x (y,(i:Int))) y (x,(i:Int))) s:=fun s m s0 hm=>ky 'a' hy1' s0 (ky 'a' (by rw [hln]; exact bx.2) s0 hm)
 have lx:LkOk ps.length as.length (x,(i:Int)):=⟨by show 1≤x; omega,bx.2,by show 0≤(i:Int); omega,by show (i:Int)<_; omega⟩
 have ly:LkOk ps.length as.length (y,(i:Int)):=⟨by show 1≤y; omega,by'.2,by show 0≤(i:Int); omega,by show (i:Int)<_; omega⟩
 refine ⟨_,_,_,rfl,hL.add (hjn x mx y my hne) (hjn y my x mx fun z=>hne z.symm) lx ly,fun k b hk hb p hp2=>?_,fun p hp2=>?_⟩
 ·have hm:=hC k b hk hb p hp2
  have he2:=(ha.ok b (List.mem_of_getElem? hb)).ends
  have:=om hT he2 (lg hp2).1
  exact grow p.1 _ 'a' hm
 ·rw [List.take_add_one,hzj] at hp2
  rcases List.mem_append.mp hp2 with z | z
  ·have:=hwm p.1 (lg (List.mem_of_mem_take z)).1
   exact grow p.1 _ 'a' (hp p z)
  ·have e:p=(x,y):=by simpa using z
   rw [e]
   show (y,(i:Int))∈a_ _ x
   refine ky 'a' hy1' 'a' ?_
   rw [fh 'a' (by rw [hln]; exact bx.2) 'a',if_pos rfl]
   exact List.mem_append_right _ (.head _)
abbrev JoP (ps:List Int) (as:List Ask):Int→Int→Int→Prop:=fun a b k=>iA ps as a b k=true∧0≤k∧k<(as.length:Int)
structure Clo (L:Lks) (n:Nat) (cs:bw):Prop where
 cl:∀ (x:Int) u,aO cs x=some u→∀ l∈a_ L x,∃ v,aO cs l.1=some v
 rt:∀ (x:Int) u,aO cs x=some u→∀ l∈a_ L x,∃ p p' r,Back cs x p r∧Back cs l.1 p' r
def Ext (cs cs':bw):Prop:=∀ (x:Int) u,aO cs x=some u→aO cs' x=some u
theorem kQ {cs cs':bw} {x r:Int} {p:List (Int×Int)} (he:Ext cs cs') (h:Back cs x p r):Back cs' x p r:=by
 induction h with
 | root e=>exact .root (he _ _ e)
 | step e _ ih=>exact .step (he _ _ e) ih
structure Rch (ps:List Int) (as:List Ask) (L:Lks) (cs:bw) (f:Int) (cs':bw) (W:List Int) (now:Option Int):Prop where
 cm:Cm ps.length (JoP ps as) cs'
 ex:Ext cs cs'
 nw:∀ (x:Int) u,aO cs' x=some u→aO cs x=none→∃ p,Back cs' x p f
 fs:∃ u,aO cs' f=some u
 wt:∀ x∈W,aO cs x=none∧∃ u,aO cs' x=some u
 dn:∀ (x:Int) u,aO cs' x=some u→aO cs x=none→¬ x∈W→now≠some x→∀ l∈a_ L x,∃ v,aO cs' l.1=some v
def uJ:SpD:=fun ds q=>∃ ps as L cs f b,ds=[.int f,.lst (L.map bz),db cs]∧LnOk ps as b L∧b≤900∧ps.length≤23∧Cm ps.length (JoP ps as) cs∧Clo L ps.length cs∧aO cs f=none∧1≤f∧f≤(ps.length:Int)∧∀ cs',Cm ps.length (JoP ps as) cs'→Clo L ps.length cs'→Ext cs cs'→(∃ u,aO cs' f=some u)→q .non [some (db cs')]
theorem Rch.done {ps:List Int} {as:List Ask} {L:Lks} {cs cs':bw} {f:Int} {b:Nat} (hL:LnOk ps as b L) (hc:Cm ps.length (JoP ps as) cs) (hcl:Clo L ps.length cs) (h:Rch ps as L cs f cs' [] none):Clo L ps.length cs':=by
 have old:∀ (x:Int) u,aO cs x=some u→∀ l∈a_ L x,(∃ v,aO cs' l.1=some v)∧∃ p p' r,Back cs' x p r∧Back cs' l.1 p' r:=fun x u e l hl=>by
  obtain ⟨v,hv⟩:=hcl.cl x u e l hl
  obtain ⟨p,p',r,b1,b2⟩:=hcl.rt x u e l hl
  exact ⟨⟨v,h.ex _ _ hv⟩,p,p',r,kQ h.ex b1,kQ h.ex b2⟩
 have new:∀ (x:Int) u,aO cs' x=some u→aO cs x=none→∀ l∈a_ L x,(∃ v,aO cs' l.1=some v)∧∃ p p' r,Back cs' x p r∧Back cs' l.1 p' r:=fun x u e en l hl=>by
  have hx:=h.cm.rng e
  obtain ⟨v,hv⟩:=h.dn x u e en (by simp) (by simp) l hl
  have ln:aO cs l.1=none:=by
   cases e2:aO cs l.1 with
   | none=>rfl
   | some w =>
    have:=hL.sym x hx.1 hx.2 l hl
    obtain ⟨v2,hv2⟩:=hcl.cl l.1 w e2 _ this
    rw [en] at hv2; cases hv2
  obtain ⟨p,b1⟩:=h.nw x u e en
  obtain ⟨p',b2⟩:=h.nw l.1 v hv ln
  exact ⟨⟨v,hv⟩,p,p',f,b1,b2⟩
 refine ⟨fun x u e l hl=>?_,fun x u e l hl=>?_⟩
 ·cases en:aO cs x with
  | none=>exact (new x u e en l hl).1
  | some w=>exact (old x w en l hl).1
 ·cases en:aO cs x with
  | none=>exact (new x u e en l hl).2
  | some w=>exact (old x w en l hl).2
theorem lJ (cs:bw):(cy cs).length=cs.length:=List.length_map ..
theorem wg (T:Txt K mg A):FnOk P w K mg base CX0 1 A.f_q17 A.d_q17 ["first","links","came"] (bj [false,false,true] false (uJ)):=by
 have S:=yk
 refine fnD T.t_q17.F S ⟨[false,false,true],[false,false,true,true,false,false,false],false⟩ _ ?hl rfl rfl fun cdv Ar outer s H E hr=>⟨_,(ag (oZ (i:=2) (gW hr) rfl bJ (ad 0))
  (ag (dC (i:=3) S.nd rfl 'c' (fA (aa (ad 0) af)))
  (aj (eR PassesOwn.never (QT.bor [3] (i4 (ad 3))) (ag (aI (i:=4) S.nd rfl 'c' (mo (i:=3) rfl))
  (aj (cH PassesOwn.never rfl (cq (aJ aA dIx (ad 1) (aH eL dI (ad 4) ae) 'f')) (bM rfl (aB (aD (i:=5) S.nd rfl 'c') (aB (aD (i:=6) S.nd rfl 'c') bt)) (ak (ak aU))) (aj (bn (QT.bor [2] (bh (jr (gW hr)) vn (ad 5) (ad 2) rfl)) (ag (oZ (i:=2) (gW hr) rfl (aF (aa (ad 4) (aa (ad 6) af))) (ad 5))
  (aj (ff (i:=3) rfl (QE.qf (ad 5))))) aR))))))))),fun ds q h=>?_⟩
 case hl=>intro ds q h; obtain ⟨ps,as,L,cs,f,b,rfl,_⟩:=h; rfl
 obtain ⟨ps,as,L,cs,f,b,rfl,hL,hb,hn,hc,hcl,hf,f0,f1,q0⟩:=h
 have hfew:=hc.few
 have e0:=lL (v:=none) hf
 refine ⟨rfl,.inl f,rfl,by rw [lJ]; omega,?_⟩
 have e00:D.dic (fM (cy cs) (.inl f)) (L2.putAt (cy cs) (hZ cs) (.inl f) D.non)=db (cs++[(f,none)]):=by
  unfold db; rw [← e0.1,← e0.2]; rfl
 rw [e00]
 have hR0:Rch ps as L cs f (cs++[(f,none)]) [f] none:=by
  have one:∀ (x:Int) u,aO (cs++[(f,none)]) x=some u→aO cs x=none→x=f∧u=none:=fun x u e en=>by
   rw [bq hf] at e
   split at e
   ·rename_i z; cases e; exact ⟨z.symm,rfl⟩
   ·rw [en] at e; cases e
  have hff:aO (cs++[(f,none)]) f=some none:=by rw [bq hf,if_pos rfl]
  refine ⟨.root hc hf f0 f1,fun x u e=>cC hf e,fun x u e en=>?_,⟨_,hff⟩,fun x hx=>?_,fun x u e en hx _=>?_⟩
  ·obtain ⟨rfl,rfl⟩:=one x u e en; exact ⟨[],.root e⟩
  ·rw [List.mem_singleton.mp hx]; exact ⟨hf,_,hff⟩
  ·exact absurd (by rw [(one x u e en).1]; exact .head _) hx
 refine ⟨rfl,?_⟩
 refine ⟨fun m ρ=>∃ cs' W v4 v5 v6,ρ=[some (.int f),some (.lst (L.map bz)),some (db cs'),some (aL W),v4,v5,v6]∧Rch ps as L cs f cs' W none∧W.length≤cs'.length∧m=2 * (ps.length - cs'.length) + W.length,⟨_,cs++[(f,none)],[f],_,_,_,rfl,hR0,by rw [List.length_append]; show 1≤_ + 1; omega,rfl⟩,?_⟩
 rintro m ρ ⟨cs',W,v4,v5,v6,rfl,hR,hWl,rfl⟩
 rcases List.eq_nil_or_concat W with rfl | ⟨W0,t,rfl⟩
 ·exact q0 cs' hR.cm (hR.done hL hc hcl) hR.ex hR.fs
 have hwt:=hR.wt t (by simp)
 obtain ⟨tn,u0,tu⟩:=hwt
 have tr:=hR.cm.rng tu
 have hfew':=hR.cm.few
 have em:(W0.concat t).map D.int=W0.map D.int++[.int t]:=by rw [List.concat_eq_append,List.map_append]; rfl
 have hne:(!((W0.concat t).map D.int).isEmpty)=true:=by rw [em]; cases W0 <;> rfl
 refine (cI (c:=(!((W0.concat t).map D.int).isEmpty)=true) (fun _=>?_) (fun c=>absurd hne c))
 have hg:((W0.concat t).map D.int)[((W0.concat t).map D.int).length - 1]? = some (.int t):=by
  rw [em,List.length_append]
  show (W0.map D.int++[D.int t])[(W0.map D.int).length + 1 - 1]? = _
  rw [Nat.add_sub_cancel,List.getElem?_append_right 'l',Nat.sub_self]; rfl
 have hdl:((W0.concat t).map D.int).dropLast=W0.map D.int:=by rw [em,List.dropLast_concat]
 show (match ((W0.concat t).map D.int)[((W0.concat t).map D.int).length - 1]? with | some d=>_ | none=>False)
 rw [hg,hdl]
 refine ⟨rfl,?_⟩
 have g1:=jX (L:=L) (t:=t) tr.1 (by rw [hL.len]; exact tr.2)
 have hrl:=hL.few t tr.1 tr.2
 refine bZ (show atI (L.map bz) (t - 1)=some (.lst ((a_ L t).map dLk)) by unfold atI; rw [g1.1]; exact g1.2) ?_
 have hlen:(W0.concat t).length=W0.length + 1:=by rw [List.concat_eq_append,List.length_append]; rfl
 refine ⟨fun j ρ=>∃ cs2 W2 v5 v6,ρ=[some (.int f),some (.lst (L.map bz)),some (db cs2),some (aL W2),some (.int t),v5,v6]∧Rch ps as L cs f cs2 W2 (some t)∧2 * (ps.length - cs2.length) + W2.length + 1≤2 * (ps.length - cs'.length) + (W0.concat t).length∧W2.length≤cs2.length∧(∃ u,aO cs2 t=some u)∧∀ l∈(a_ L t).take j,∃ v,aO cs2 l.1=some v,?_,?_,?_⟩
 ·refine ⟨cs',W0,_,_,rfl,⟨hR.cm,hR.ex,hR.nw,hR.fs,fun x hx=>hR.wt x (by rw [List.concat_eq_append]; exact List.mem_append_left _ hx),fun x u e en hx hnow=>hR.dn x u e en (fun z=>?_) (by simp)⟩,by omega,by omega,⟨u0,tu⟩,fun l h=>(by cases h)⟩
  rw [List.concat_eq_append] at z
  rcases List.mem_append.mp z with z | z
  ·exact hx z
  ·exact hnow (by rw [List.mem_singleton.mp z])
 ·rintro j d ρ hd ⟨cs2,W2,v5,v6,rfl,hR2,hm,hW,⟨u2,tu2⟩,hcov⟩
  obtain ⟨l,hl,rfl⟩:∃ l,(a_ L t)[j]? = some l∧dLk l=d:=by rw [List.getElem?_map] at hd; exact Option.map_eq_some_iff.mp hd
  have hlm:=List.mem_of_getElem? hl
  obtain ⟨hjo,hlk⟩:=hL.row t tr.1 tr.2 l hlm
  have hf2:=hR2.cm.few
  have tk:∀ cs3:bw,Ext cs2 cs3→(∃ v,aO cs3 l.1=some v)→∀ m∈(a_ L t).take (j + 1),∃ v,aO cs3 m.1=some v:=fun cs3 hE hv m hm2=>by
   rw [List.take_add_one,hl] at hm2
   rcases List.mem_append.mp hm2 with z | z
   ·obtain ⟨v,e⟩:=hcov m z; exact ⟨v,hE _ _ e⟩
   ·have e:m=l:=by simpa using z
    rw [e]; exact hv
  refine ⟨.inl l.1,rfl,?_⟩
  refine (cI (c:=(!fm (cy cs2) (.inl l.1))=true) (fun c=>?_) (fun c=>?_))
  rotate_left
  ·rw [cQ] at c
   have:(aO cs2 l.1).isSome=true:=by
    cases e:aO cs2 l.1 with
    | none=>rw [e] at c; exact absurd rfl c
    | some v=>rfl
   exact ⟨cs2,W2,_,_,rfl,hR2,hm,hW,⟨u2,tu2⟩,tk cs2 (fun _ _ e=>e) (Option.isSome_iff_exists.mp this)⟩
  rw [cQ] at c
  have hnone:aO cs2 l.1=none:=by
   cases e:aO cs2 l.1 with
   | none=>rfl
   | some v=>rw [e] at c; cases c
  have ep:=lL (v:=some (t,l.2)) hnone
  refine ⟨rfl,.inl l.1,rfl,by rw [lJ]; omega,?_⟩
  have epp:D.dic (fM (cy cs2) (.inl l.1)) (L2.putAt (cy cs2) (hZ cs2) (.inl l.1) (D.tup [.int t,.int l.2]))=db (cs2++[(l.1,some (t,l.2))]):=by
   unfold db; rw [← ep.1,← ep.2]; rfl
  rw [epp]
  refine ⟨rfl,by rw [List.length_map]; omega,?_⟩
  have hE:Ext cs2 (cs2++[(l.1,some (t,l.2))]):=fun x u e=>cC hnone e
  have hnew:aO (cs2++[(l.1,some (t,l.2))]) l.1=some (some (t,l.2)):=by rw [bq hnone,if_pos rfl]
  have hsy:JoP ps as l.1 t l.2:=⟨(hL.row l.1 hlk.t0 hlk.t1 _ (hL.sym t tr.1 tr.2 l hlm)).1,hlk.k0,hlk.k1⟩
  have ln:aO cs l.1=none:=by
   cases e:aO cs l.1 with
   | none=>rfl
   | some v=>rw [hR2.ex _ _ e] at hnone; cases hnone
  refine ⟨cs2++[(l.1,some (t,l.2))],W2++[l.1],some (.int l.1),some (.int l.2),?_,⟨.link hR2.cm hnone hlk.t0 hlk.t1 tu2 hsy,fun x u e=>hE _ _ (hR2.ex _ _ e),fun x u e en=>?_,?_,fun x hx=>?_,fun x u e en hx hnow m hm2=>?_⟩,?_,?_,⟨u2,hE _ _ tu2⟩,tk _ hE ⟨_,hnew⟩⟩
  ·rw [show aL (W2++[l.1]) = .lst (W2.map D.int++[.int l.1]) by unfold aL; rw [List.map_append]; rfl]; rfl
  ·rw [bq hnone] at e
   split at e
   ·rename_i z
    obtain ⟨p,b⟩:=hR2.nw t u2 tu2 tn
    rw [← z]
    exact ⟨(l.1,l.2) :: p,.step hnew (b.keep hnone)⟩
   ·obtain ⟨p,b⟩:=hR2.nw x u e en
    exact ⟨p,b.keep hnone⟩
  ·obtain ⟨u,e⟩:=hR2.fs; exact ⟨u,hE _ _ e⟩
  ·rcases List.mem_append.mp hx with z | z
   ·obtain ⟨a1,u,a2⟩:=hR2.wt x z; exact ⟨a1,u,hE _ _ a2⟩
   ·rw [List.mem_singleton.mp z]; exact ⟨ln,_,hnew⟩
  ·have hxl : ¬ l.1=x:=fun z=>hx (by rw [← z]; exact List.mem_append_right _ (.head _))
   rw [bq hnone,if_neg hxl] at e
   obtain ⟨v,ev⟩:=hR2.dn x u e en (fun z=>hx (List.mem_append_left _ z)) hnow m hm2
   exact ⟨v,hE _ _ ev⟩
  ·have hf3:=(Cm.link hR2.cm hnone hlk.t0 hlk.t1 tu2 hsy).few
   rw [List.length_append] at hf3 ⊢
   rw [List.length_append]
   show 2 * (ps.length - (cs2.length + 1)) + (W2.length + 1) + 1≤_
   have:cs2.length + 1≤ps.length:=hf3
   omega
  ·rw [List.length_append,List.length_append]; show W2.length + 1≤cs2.length + 1; omega
 ·rintro ρ ⟨cs2,W2,v5,v6,rfl,hR2,hm,hW,⟨u2,tu2⟩,hcov⟩
  rw [List.length_map,List.take_length] at hcov
  refine ⟨2 * (ps.length - cs2.length) + W2.length,by omega,cs2,W2,_,_,_,rfl,⟨hR2.cm,hR2.ex,hR2.nw,hR2.fs,hR2.wt,fun x u e en hx _ m hm2=>?_⟩,hW,rfl⟩
  by_cases ex:x=t
  ·rw [ex] at hm2; exact hcov m hm2
  ·exact hR2.dn x u e en hx (fun z=>ex (by injection z with z; exact z.symm)) m hm2
def xz:SpD:=fun ds q=>∃ cs x p r,ds=[db cs,.int x]∧Back cs x p r∧p.length≤23∧q (bz p) []
theorem qL (ls:List (Int×Int)) (l:Int×Int):D.lst (ls.map dLk++[dLk l])=bz (ls++[l]):=by unfold bz; rw [List.map_append]; rfl
theorem ny (T:Txt K mg A):FnOk P w K mg base CX0 1 A.f_q19 A.d_q19 ["came","tie"] (bj [false,false] true (xz)):=by
 have S:=yr
 refine fnD T.t_q19.F S ⟨[false,false],[false,false,true,false,false],true⟩ _ ?hl rfl rfl fun cdv Ar outer s H E hr=>⟨_,(ag (dC (i:=2) S.nd rfl 'c' (fA af))
  (ag (eR PassesOwn.never (bh tL dNotN (ig (gW hr) (ad 0) (ad 1)) bJ (a9 _)) (ag (gN (ig (gW hr) (ad 0) (ad 1)) (bM rfl (aB (aD (i:=3) S.nd rfl 'c') (aB (aD (i:=4) S.nd rfl 'c') bt)) (ak (ak aU))))
  (ag (ff (i:=2) rfl (QE.qf (aF (aa (ad 1) (aa (ad 4) af)))))
  (aj (aI (i:=1) S.nd rfl 'c' (ad 3))))))
  (aj (bW (fS 2))))),fun ds q h=>?_⟩
 case hl=>intro ds q h; obtain ⟨cs,x,p,r,rfl,_⟩:=h; rfl
 obtain ⟨cs,x,p,r,rfl,hB,hl,q0⟩:=h
 refine ⟨rfl,?_⟩
 refine ⟨fun m ρ=>∃ acc y p' v3 v4,ρ=[some (db cs),some (.int y),some (bz acc),v3,v4]∧Back cs y p' r∧p=acc++p'∧m=p'.length,⟨_,[],x,p,_,_,rfl,hB,rfl,rfl⟩,?_⟩
 rintro m ρ ⟨acc,y,p',v3,v4,rfl,hB',rfl,rfl⟩
 rw [List.length_append] at hl
 cases hB' with
 | root e =>
  refine ⟨.inl r,.non,rfl,by rw [cS,e]; rfl,?_⟩
  rw [List.append_nil] at q0
  exact q0
 | @step _ t k _ p2 e hb =>
  refine ⟨.inl y,dLk (t,k),rfl,by rw [cS,e]; rfl,?_⟩
  refine ⟨.inl y,dLk (t,k),rfl,by rw [cS,e]; rfl,?_⟩
  refine ⟨rfl,by show (acc.map dLk).length<1000; rw [List.length_map]; omega,?_⟩
  refine ⟨p2.length,Nat.lt_succ_self _,acc++[(y,k)],t,p2,some (.int t),some (.int k),?_,hb,by rw [List.append_assoc]; rfl,rfl⟩
  rw [← qL]; rfl
def eB (cs:bw) (x:Int):Int:=match aO cs x with
 | some (some l)=>l.1
 | _=>0
def tnF (ps:List Int) (cs:bw):D→Option D
 | .tup [.int a,.int _]=>if bO ps a (eB cs a)=true then some (.int 1) else none
 | _=>none
theorem rE {ps:List Int} {cs:bw} {x r:Int} {p:List (Int×Int)} (h:Back cs x p r):(((p.map dLk).filterMap (tnF ps cs)).length % 2=0)↔twP ps p r=false:=by
 induction h with
 | root e=>exact ⟨fun _=>rfl,fun _=>rfl⟩
 | @step x t k r p e hb ih =>
  have ep:eB cs x=t:=by unfold eB; rw [e]
  have ef:tnF ps cs (dLk (x,k))=if bO ps x (eB cs x)=true then some (.int 1) else none:=rfl
  rw [List.map_cons,List.filterMap_cons,ef,ep]
  show _↔(bO ps x (hdP p r) != twP ps p r)=false
  rw [hb.hd]
  cases bO ps x t with
  | true =>
   rw [if_pos rfl,List.length_cons]
   cases h2:twP ps p r with
   | true=>rw [h2] at ih; simp at ih ⊢; omega
   | false=>rw [h2] at ih; simp at ih ⊢; omega
  | false =>
   rw [if_neg 'k']
   rw [ih]
   cases twP ps p r <;> decide
theorem kY {cs:bw} {x r:Int} {p:List (Int×Int)} (h:Back cs x p r):∀ l∈p,∃ t,aO cs l.1=some (some (t,l.2)):=by
 induction h with
 | root e=>intro l hl; cases hl
 | step e _ ih =>
  intro l hl
  rcases List.mem_cons.mp hl with rfl | hl
  ·exact ⟨_,e⟩
  ·exact ih l hl
def sP:SpD:=fun ds q=>∃ ps rs as cs x p r,ds=[aQ ps rs,db cs,.int x]∧Tree ps rs∧Cm ps.length (JoP ps as) cs∧Back cs x p r∧p.length≤23∧q (.str (txt (!twP ps p r))) []
theorem xF (T:Txt K mg A):FnOk P w K mg base CX0 6 A.f_q37 A.d_q37 ["tree","came","tie"] (bj [false,false,false] false (sP)):=by
 have S:=xh
 refine fnD T.t_q37.F S ⟨[false,false,false],[false,false,false,false],false⟩ _ ?hl rfl rfl fun cdv Ar outer s H E hr=>⟨_,(ag (m_ (i:=3) ["low","number"] [0,1] ⟨rfl,rfl,by decide +kernel,rfl,rfl,(by first | exact trivial | exact ⟨rfl,trivial⟩ | exact ⟨rfl,rfl,trivial⟩ | exact ⟨rfl,rfl,rfl,trivial⟩ | exact ⟨rfl,rfl,rfl,rfl,trivial⟩),rfl⟩ rfl S.nd rfl 'c' (cq (QF.qe (bC (ny T) hr T.t_q19 (aq (ad 1) (aq (ad 2) au))))) (qw (gi (cu 0) (gi (cu 1) oo)) (ak (ak aU))) (fun _ _ _ _=>⟨(jU rfl (c9 (bA (i:=0) (show List.Nodup (["low","number","tree","came"]:List Str) by decide +kernel) rfl 'c') (c9 (bA (i:=1) (show List.Nodup (["low","number","tree","came"]:List Str) by decide +kernel) rfl 'c') iq))),(uv (a6 (am (nz T) hr T.t_q18 (aq (ad 2) (aq (ad 0) (aq (aJ aA dIx (ig (gW hr) (ad 3) (ad 0)) ae 'f') au)))))),ae⟩))
  (aj (aN (qN (bh (eO hr.units) dEq (aH c_ dIC (aE ax cP rfl T.z_len bd (aa (ad 3) af)) ae) ae (a9 _)) a7 a7)))),fun ds q h=>?_⟩
 case hl=>intro ds q h; obtain ⟨ps,rs,as,cs,x,p,r,rfl,_⟩:=h; rfl
 obtain ⟨ps,rs,as,cs,x,p,r,rfl,hT,hc,hB,hl,q0⟩:=h
 refine ⟨cs,x,p,r,rfl,hB,hl,?_⟩
 refine ⟨by rw [List.length_map]; omega,?_⟩
 refine tm (tnF ps cs) ?_ ?_
 ·intro d hd k hk
  obtain ⟨l,hm,rfl⟩:=List.mem_map.mp hd
  obtain ⟨t,e⟩:=kY hB l hm
  have r1:=hc.rng e
  obtain ⟨_,u,et⟩:=hc.par e
  have r2:=hc.rng et
  have ep:eB cs l.1=t:=by unfold eB; rw [e]
  have hk':k (if bO ps l.1 (eB cs l.1)=true then some (.int 1) else none):=hk
  rw [ep] at hk'
  refine ⟨.inl l.1,dLk (t,l.2),rfl,by rw [cS,e]; rfl,?_⟩
  refine ⟨ps,rs,l.1,t,rfl,hT,r1.1,r1.2,r2.1,r2.2,?_⟩
  cases ea:bO ps l.1 t with
  | true=>rw [ea] at hk'; exact hk'
  | false=>rw [ea] at hk'; exact hk'
 have ht:=rE (ps:=ps) hB
 generalize (p.map dLk).filterMap (tnF ps cs)=ts at ht
 refine ⟨(show (0:Int)<2 by decide),?_⟩
 refine (cI (c:=decide (((ts.length:Nat):Int) % 2=0)=true) (fun c=>?_) (fun c=>?_))
 ·rw [ht.mp (by have:=of_decide_eq_true c; omega)] at q0
  exact q0
 ·have h1 : ¬ ts.length % 2=0:=fun z=>c (decide_eq_true 'a')
  have h2:twP ps p r=true:=by
   cases e:twP ps p r with
   | true=>rfl
   | false=>exact absurd (ht.mpr e) h1
  rw [h2] at q0
  exact q0
def uB:SpD:=fun ds q=>∃ ps rs as L bs b,ds=[aQ ps rs,.lst (L.map bz),dTx bs]∧Tree ps rs∧LnOk ps as b L∧bs.length=ps.length ∧
 ((∀ x:Int,1≤x→x≤ps.length→∀ l∈a_ L x,(wd bs x != wd bs l.1)=bO ps x l.1)→q .non []) ∧
 ∀ (x:Int) l,1≤x→x≤ps.length→l∈a_ L x→(((wd bs x != wd bs l.1) != bO ps x l.1)=true)→q (.tup [.int x,.int l.1,.int l.2]) []
theorem ok_q7 (T:Txt K mg A):FnOk P w K mg base CX0 6 A.f_q7 A.d_q7 ["tree","links","texts"] (bj [false,false,false] false (uB)):=by
 have S:=sc_q7
 refine fnD T.t_q7.F S ⟨[false,false,false],[false,false,false,false,false,false,false],false⟩ _ ?hl rfl rfl fun cdv Ar outer s H E hr=>⟨_,(ag (cH PassesOwn.never rfl (d9 rfl T.z_enumerate (aa (ad 1) af)) (bM rfl (aB (aD (i:=3) S.nd rfl 'c') (aB (aD (i:=4) S.nd rfl 'c') bt)) (ak (ak aU))) (aj (cH PassesOwn.never rfl (cq (ad 4)) (bM rfl (aB (aD (i:=5) S.nd rfl 'c') (aB (aD (i:=6) S.nd rfl 'c') bt)) (ak (ak aU))) (aj (bn (bh (dJ hr.units) dNe (fD (dJ hr.units) dNe (aJ aA dIx (ad 2) (ad 3) 'f') (aJ aA dIx (ad 2) (aH eL dI (ad 5) ae) 'f') (a9 _)) (am (nz T) hr T.t_q18 (aq (ad 0) (aq (aH bc dI (ad 3) ae) (aq (ad 5) au)))) (a9 _)) (aj (aN (aF (aa (aH bc dI (ad 3) ae) (aa (ad 5) (aa (ad 6) af)))))) aR)))))
  (aj (aN bJ))),fun ds q h=>?_⟩
 case hl=>intro ds q h; obtain ⟨ps,rs,as,L,bs,b,rfl,_⟩:=h; rfl
 obtain ⟨ps,rs,as,L,bs,b,rfl,hT,hL,hb,q0,q1⟩:=h
 have hti:=hT.hi
 have hln:=hL.len
 refine ⟨fun i ρ=>∃ v3 v4 v5 v6,ρ=[some (aQ ps rs),some (.lst (L.map bz)),some (dTx bs),v3,v4,v5,v6]∧∀ x:Int,1≤x→x≤(i:Int)→∀ l∈a_ L x,(wd bs x != wd bs l.1)=bO ps x l.1,⟨_,_,_,_,rfl,fun x h0 h1=>by omega⟩,?_,?_⟩
 rotate_left
 ·rintro ρ ⟨v3,v4,v5,v6,rfl,hA⟩
  rw [iG,List.length_map,hln] at hA
  exact q0 hA
 rintro i d ρ hd ⟨v3,v4,v5,v6,rfl,hA⟩
 obtain ⟨d',hd',rfl⟩:=dz hd
 have hil:i<L.length:=by have:=(List.getElem?_eq_some_iff.mp hd').1; rw [List.length_map] at this; exact this
 have g1:=jX (L:=L) (t:=(i:Int) + 1) 'a' 'a'
 have ed:d' = .lst ((a_ L ((i:Int) + 1)).map dLk):=by
  have:=g1.2
  rw [show ((i:Int) + 1 - 1).toNat=i by omega,hd'] at this
  exact Option.some.inj this
 subst ed
 refine ⟨fun j ρ=>∃ v5 v6,ρ=[some (aQ ps rs),some (.lst (L.map bz)),some (dTx bs),some (.int (i:Int)),some (.lst ((a_ L ((i:Int) + 1)).map dLk)),v5,v6]∧∀ l∈(a_ L ((i:Int) + 1)).take j,(wd bs ((i:Int) + 1) != wd bs l.1)=bO ps ((i:Int) + 1) l.1,⟨_,_,rfl,fun l h=>(by cases h)⟩,?_,?_⟩
 rotate_left
 ·rintro ρ ⟨v5,v6,rfl,hp⟩
  rw [List.length_map,List.take_length] at hp
  refine ⟨_,_,_,_,rfl,fun x x0 x1 l hl=>?_⟩
  by_cases e:x=(i:Int) + 1
  ·rw [e] at hl ⊢; exact hp l hl
  ·exact hA x x0 'a' l hl
 rintro j d ρ hd ⟨v5,v6,rfl,hp⟩
 obtain ⟨l,hl,rfl⟩:∃ l,(a_ L ((i:Int) + 1))[j]? = some l∧dLk l=d:=by rw [List.getElem?_map] at hd; exact Option.map_eq_some_iff.mp hd
 have hlm:=List.mem_of_getElem? hl
 obtain ⟨_,hlk⟩:=hL.row ((i:Int) + 1) 'a' 'a' l hlm
 have l0:=hlk.t0; have l1:=hlk.t1
 have a1:=vF (bs:=bs) (t:=(i:Int) + 1) 'a' 'a'
 rw [show (i:Int) + 1 - 1=(i:Int) by omega] at a1
 have a2:=vF (bs:=bs) (t:=l.1) 'a' 'a'
 refine bZ a1 ?_
 refine bZ a2 ?_
 refine ⟨sE _,sE _,?_⟩
 have w1:wd bs ((i:Int) + 1)=bs.getD (i:Int).toNat false:=by unfold wd; rw [show (i:Int) + 1 - 1=(i:Int) by omega]
 have w2:wd bs l.1=bs.getD (l.1 - 1).toNat false:=rfl
 have hq1:=q1 ((i:Int) + 1) l 'a' 'a' hlm
 have go:(wd bs ((i:Int) + 1) != wd bs l.1)=bO ps ((i:Int) + 1) l.1→∀ m∈(a_ L ((i:Int) + 1)).take (j + 1),(wd bs ((i:Int) + 1) != wd bs m.1)=bO ps ((i:Int) + 1) m.1:=fun e m hm=>by
  rw [List.take_add_one,hl] at hm
  rcases List.mem_append.mp hm with z | z
  ·exact hp m z
  ·have em:m=l:=by simpa using z
   rw [em]; exact e
 generalize hG:(∀ m∈(a_ L ((i:Int) + 1)).take (j + 1),(wd bs ((i:Int) + 1) != wd bs m.1)=bO ps ((i:Int) + 1) m.1)=Gd at go
 rw [wP]
 refine ⟨ps,rs,(i:Int) + 1,l.1,rfl,hT,by omega,by omega,l0,l1,?_⟩
 rw [w1,w2] at hq1
 rw [w1,w2] at go
 generalize bs.getD (i:Int).toNat false=p1 at hq1 go
 generalize bs.getD (l.1 - 1).toNat false=p2 at hq1 go
 generalize bO ps ((i:Int) + 1) l.1=p3 at hq1 go
 cases p1 <;> cases p2 <;> cases p3
 all_goals
  refine ⟨rfl,rfl,?_⟩
  first
  | exact hq1 rfl
  | exact ⟨_,_,rfl,hG.mpr (go rfl)⟩
theorem s8 {cs:bw} {C:List (Int×Int)} {r:Int}:∀ {Q:List (Int×Int)} {x:Int},Back cs x (Q++C) r→dnP Q (hdP C r)=Q.reverse.map fun l=>(eB cs l.1,l.2)
 | [],_,_=>rfl
 | l :: Q,x,h=>by
  cases h with
  | @step _ t k _ _ e hb =>
   have hb':Back cs t (Q++C) r:=hb
   show dnP Q (hdP C r)++[(hdP Q (hdP C r),k)]=_
   rw [s8 hb',List.reverse_cons,List.map_append]
   have h2:=hb'.hd
   rw [wF] at h2
   have ep:eB cs x=t:=by unfold eB; rw [e]
   rw [h2]
   show _=_++[(eB cs x,k)]
   rw [ep]
theorem iE:∀ ls:List (Int×Int),imms (ls.map dLk)=true
 | []=>rfl
 | l :: ls=>by rw [List.map_cons,imms,iE ls]; rfl
theorem wS (l:Int×Int):lay 1 (dLk l)=true:=rfl
theorem sJ (l:Int×Int):okD (dLk l)=true:=uf (wS l) 'k'
theorem xD (a b:Int×Int):eqD (dLk a) (dLk b)=decide (a=b):=by
 obtain ⟨a1,a2⟩:=a; obtain ⟨b1,b2⟩:=b
 rw [Bool.eq_iff_iff,decide_eq_true_iff]
 unfold eqD dLk
 simp [toP,toPs,PyData.eqv,PyData.eqvAll]
def pA:SpD:=fun ds q=>∃ cs x y k p1 p2 r,ds=[db cs,.int x,.int y,.int k]∧Back cs x p1 r∧Back cs y p2 r∧p1.length≤23∧p2.length≤23∧∀ P Q C,p1=P++C→p2=Q++C→q (bz (P++(dnP Q (hdP C r)++[(y,k)]))) []
theorem ok_q5 (T:Txt K mg A):FnOk P w K mg base CX0 2 A.f_q5 A.d_q5 ["came","one","other","closing"] (bj [false,false,false,false] true (pA)):=by
 have S:=sc_q5
 refine fnD T.t_q5.F S ⟨[false,false,false,false],[false,false,false,false,true,true],true⟩ _ ?hl rfl rfl fun cdv Ar outer s H E hr=>⟨_,(ag (dC (i:=4) S.nd rfl 'c' (bC (ny T) hr T.t_q19 (aq (ad 0) (aq (ad 1) au))))
  (ag (dC (i:=5) S.nd rfl 'c' (bC (ny T) hr T.t_q19 (aq (ad 0) (aq (ad 2) au))))
  (ag (cb (eR PassesOwn.never (QT.bor [4,5] (QW.qt (qk (i4 (ad 4)) (qk (i4 (ad 5)) (t3 (bh (eO hr.units) dEq (aJ aA dIx (ad 4) (jZ ae) 'f') (aJ aA dIx (ad 5) (jZ ae) 'f') (a9 _))))))) (ag (fj (mo (i:=4) rfl))
  (aj (fj (mo (i:=5) rfl))))))
  (aj (bW (QF.qm (QF.bor [4,5] (qf_mk b_ gb (bL b_ gb (ad 4) (fN ["tie","number"] [0] ⟨rfl,rfl,by decide +kernel,rfl,rfl,(by first | exact trivial | exact ⟨rfl,trivial⟩ | exact ⟨rfl,rfl,trivial⟩ | exact ⟨rfl,rfl,rfl,trivial⟩ | exact ⟨rfl,rfl,rfl,rfl,trivial⟩),rfl⟩ rfl (xN rfl T.z_reversed (aa (ad 5) af)) (qw (gi (cu 0) (gi (cu 1) oo)) (ak (ak aU))) (fun _ _ _ _=>⟨(jU rfl (c9 (bA (i:=0) (show List.Nodup (["tie","number","came"]:List Str) by decide +kernel) rfl 'c') (c9 (bA (i:=1) (show List.Nodup (["tie","number","came"]:List Str) by decide +kernel) rfl 'c') iq))),cN,(aF (aa (aJ aA dIx (ig (gW hr) (ad 2) (ad 0)) ae 'f') (aa (ad 1) af)))⟩))) (av (aa (aF (aa (ad 2) (aa (ad 3) af))) af)))))))))),fun ds q h=>?_⟩
 case hl=>intro ds q h; obtain ⟨cs,x,y,k,p1,p2,r,rfl,_⟩:=h; rfl
 obtain ⟨cs,x,y,k,p1,p2,r,rfl,hB1,hB2,l1,l2,q0⟩:=h
 refine ⟨cs,x,p1,r,rfl,hB1,l1,?_⟩
 refine ⟨cs,y,p2,r,rfl,hB2,l2,?_⟩
 refine ⟨fun ρ=>∃ P Q C,ρ=[some (db cs),some (.int x),some (.int y),some (.int k),some (bz P),some (bz Q)]∧p1=P++C∧p2=Q++C,?_,?_⟩
 rotate_left
 ·rintro ρ ⟨P,Q,C,rfl,e1,e2⟩
  have hf:=q0 P Q C e1 e2
  rw [e2] at hB2 l2
  rw [s8 hB2] at hf
  rw [e1] at l1
  rw [List.length_append] at l1 l2
  refine ⟨by rw [List.length_reverse,List.length_map]; omega,?_⟩
  refine dS (fun d=>dLk (eB cs (qS d).1,(qS d).2)) ?_ ?_
  ·intro d hd kk hk
   rw [List.mem_reverse] at hd
   obtain ⟨l,hm,rfl⟩:=List.mem_map.mp hd
   obtain ⟨t,e⟩:=kY hB2 l (List.mem_append_left _ hm)
   have ep:eB cs l.1=t:=by unfold eB; rw [e]
   refine ⟨.inl l.1,dLk (t,l.2),rfl,by rw [cS,e]; rfl,?_⟩
   rw [show qS (dLk l)=l from rfl,ep] at hk
   exact hk
  have em:(((Q.map dLk).reverse).map fun d=>dLk (eB cs (qS d).1,(qS d).2))=(Q.reverse.map fun l=>(eB cs l.1,l.2)).map dLk:=by
   rw [← List.map_reverse,List.map_map,List.map_map]; rfl
  rw [em]
  refine ⟨by rw [List.length_map,List.length_map,List.length_map,List.length_reverse]; omega,?_⟩
  refine ⟨by rw [List.length_append,List.length_map,List.length_map,List.length_map,List.length_reverse]; show _ + 1≤1000; omega,?_⟩
  have ef:bz (P++((Q.reverse.map fun l=>(eB cs l.1,l.2))++[(y,k)])) = .lst ((P.map dLk++(Q.reverse.map fun l=>(eB cs l.1,l.2)).map dLk)++[dLk (y,k)]):=by
   unfold bz; rw [List.map_append,List.map_append,List.append_assoc]; rfl
  rw [ef] at hf
  exact ⟨iF (iF (iE _) (iE _)) rfl,hf⟩
 refine ⟨fun m ρ=>∃ P Q C,ρ=[some (db cs),some (.int x),some (.int y),some (.int k),some (bz P),some (bz Q)]∧p1=P++C∧p2=Q++C∧m=P.length,⟨_,p1,p2,[],rfl,(List.append_nil _).symm,(List.append_nil _).symm,rfl⟩,?_⟩
 rintro m ρ ⟨P,Q,C,rfl,e1,e2,rfl⟩
 rcases List.eq_nil_or_concat P with rfl | ⟨P0,a,rfl⟩
 ·exact ⟨[],Q,C,rfl,e1,e2⟩
 have em:∀ (L:List (Int×Int)) (l:Int×Int),(L.concat l).map dLk=L.map dLk++[dLk l]:=fun L l=>by rw [List.concat_eq_append,List.map_append]; rfl
 have hne:∀ (L:List (Int×Int)) (l:Int×Int),(!((L.concat l).map dLk).isEmpty)=true:=fun L l=>by rw [em]; cases L <;> rfl
 have hg:∀ (L:List (Int×Int)) (l:Int×Int),((L.concat l).map dLk)[((L.concat l).map dLk).length - 1]? = some (dLk l):=fun L l=>by
  rw [em,List.length_append]
  show (L.map dLk++[dLk l])[(L.map dLk).length + 1 - 1]? = _
  rw [Nat.add_sub_cancel,List.getElem?_append_right 'l',Nat.sub_self]; rfl
 have hat:∀ (L:List (Int×Int)) (l:Int×Int),atI ((L.concat l).map dLk) (-1)=some (dLk l):=fun L l=>by
  rw [em]; exact rX _ _
 have hdl:∀ (L:List (Int×Int)) (l:Int×Int),((L.concat l).map dLk).dropLast=L.map dLk:=fun L l=>by rw [em,List.dropLast_concat]
 refine (cI (c:=(!((P0.concat a).map dLk).isEmpty)=true) (fun _=>?_) (fun c=>absurd (hne P0 a) c))
 rcases List.eq_nil_or_concat Q with rfl | ⟨Q0,b,rfl⟩
 ·exact ⟨_,[],C,rfl,e1,e2⟩
 refine (cI (c:=(!((Q0.concat b).map dLk).isEmpty)=true) (fun _=>?_) (fun c=>absurd (hne Q0 b) c))
 refine bZ (hat P0 a) ?_
 refine bZ (hat Q0 b) ?_
 refine ⟨sJ a,sJ b,?_⟩
 rw [xD]
 refine (cI (c:=decide (a=b)=true) (fun c=>?_) (fun c=>⟨_,_,C,rfl,e1,e2⟩))
 have eab:=of_decide_eq_true c
 show (match ((P0.concat a).map dLk)[((P0.concat a).map dLk).length - 1]? with | some d=>_ | none=>False)
 rw [hg,hdl]
 refine ⟨rfl,?_⟩
 show (match ((Q0.concat b).map dLk)[((Q0.concat b).map dLk).length - 1]? with | some d=>_ | none=>False)
 rw [hg,hdl]
 refine ⟨rfl,?_⟩
 refine ⟨P0.length,by rw [List.concat_eq_append,List.length_append]; exact Nat.lt_succ_self _,P0,Q0,a :: C,rfl,?_,?_,rfl⟩
 ·rw [e1,List.concat_eq_append,List.append_assoc]; rfl
 ·rw [e2,List.concat_eq_append,List.append_assoc,← eab]; rfl
end
end K49
namespace K49
open PySem L2
section
variable {P:Program} {w:World} {K:PySem.W.Frag} {mg:Str→Option Value} {base:Heap} {A:Adr}
theorem Cm.imp {n:Nat} {E E':Int→Int→Int→Prop} (h:∀ a b k,E a b k→E' a b k) {cs:bw} (hc:Cm n E cs):Cm n E' cs:=by
 induction hc with
 | nil=>exact .nil
 | root _ a b c ih=>exact .root ih a b c
 | link _ a b c d e ih=>exact .link ih a b c d (h _ _ _ e)
def wB (ps:List Int) (cs:bw) (x:Int):Bool:=@decide (∃ p r,Back cs x p r∧twP ps p r=false) (Classical.propDecidable _)
theorem wB_of {ps:List Int} {cs:bw} {x r:Int} {p:List (Int×Int)} (h:Back cs x p r):wB ps cs x = !twP ps p r:=by
 unfold wB
 cases e:twP ps p r with
 | false=>exact @decide_eq_true _ (Classical.propDecidable _) ⟨p,r,h,e⟩
 | true =>
  refine @decide_eq_false _ (Classical.propDecidable _) fun ⟨p',r',h',e'⟩=>?_
  obtain ⟨rfl,rfl⟩:=h.det h'
  rw [e] at e'; cases e'
def bsC (ps:List Int) (cs:bw) (n:Nat):List Bool:=(List.range n).map fun i=>wB ps cs ((1:Int) + (i:Nat))
theorem tS (ps:List Int) (cs:bw) (n:Nat):(bsC ps cs n).length=n:=by unfold bsC; rw [List.length_map,List.length_range]
theorem bsC_wd {ps:List Int} {cs:bw} {n:Nat} {x:Int} (h0 : 1≤x) (h1:x≤n):wd (bsC ps cs n) x=wB ps cs x:=by
 unfold wd bsC
 rw [List.getD_eq_getElem?_getD,List.getElem?_map,List.getElem?_range 'a']
 show wB ps cs (1 + (((x - 1).toNat:Nat):Int))=_
 rw [show 1 + (((x - 1).toNat:Nat):Int)=x by omega]
def txF (ps:List Int) (cs:bw):D→D
 | .int x=>.str (txt (wB ps cs x))
 | d=>d
theorem oC:∀ bs:List Bool,imms (bs.map fun b=>D.str (txt b))=true
 | []=>rfl
 | b :: bs=>by rw [List.map_cons,imms,oC bs]; rfl
def sdPtX (cT cA:Addr):SpX:=fun ds q qx=>∃ t x,ds=[t,x]∧((∃ p n,pln t=true∧bD t=some (p,n)∧qx cT iH [.str p,n] []) ∨
 ∃ ps rs,t=aQ ps rs∧Tree ps rs∧pln x=true∧((∃ n,bV ps.length x=some n∧qx cA kW [n] []) ∨
  ∃ as,x=bK as∧AsksOk ps as∧∀ s d,(s = "pointed" ∨ s = "ring")→q (.tup [.str s,d]) []))
theorem tJ (T:Txt K mg A):FnOk P w K mg base (CX1 P w) 9 A.f_q36 A.d_q36 ["tree","asks"] (cZ [false,false] true ((sdPtX A.c_q42 A.c_q38))):=by
 have S:=xI
 refine fnX T.t_q36.F S ⟨[false,false],[false,false,false,false,true,false,true,false,false,false,false],true⟩ _ ?hl rfl rfl fun cdv Ar outer s H E hr=>⟨_,(aK (ic (ck (mU T) hr T.t_q2 (aq (ad 0) (aq (ad 1) au))))
  (aK (bQ (aI (i:=2) S.nd rfl 'c' (QF.qe (bC (xn T) hr T.t_q28 (aq (ad 0) (aq (ad 1) au))))))
  (aK (bQ (aI (i:=3) S.nd rfl 'c' (QF.qe (sv rfl rfl T.z_list fg rfl T.z_range q_ (aa ae (aa (aH bc dI (aE ax cP rfl T.z_len bd (aa 't' af)) ae) af))))))
  (aK (bQ (dC (i:=4) S.nd rfl (Or.inr rfl) uF))
  (aK (bQ (cH PassesOwn.never rfl (cq (ad 3)) (aD (i:=5) S.nd rfl 'c') (aj (bn (QT.bor [4] (bh (jr (gW hr)) vn (ad 5) (ad 4) rfl)) (aj (fj (am (wg T) hr T.t_q17 (aq (ad 5) (aq (ad 2) (dG 4 au)))))) aR))))
  (aK (bQ (ke (i:=6) [4] ["tie"] [0,4] ⟨rfl,rfl,by decide +kernel,rfl,rfl,(by first | exact trivial | exact ⟨rfl,trivial⟩ | exact ⟨rfl,rfl,trivial⟩ | exact ⟨rfl,rfl,rfl,trivial⟩ | exact ⟨rfl,rfl,rfl,rfl,trivial⟩),rfl⟩ rfl S.nd rfl 'c' (cq (ad 3)) (cu 0) (fun _ _ _ _=>⟨(bA (i:=0) (show List.Nodup (["tie","tree","came"]:List Str) by decide +kernel) rfl 'c'),cN,(am (xF T) hr T.t_q37 (aq (ad 1) (aq (ad 2) (aq (ad 0) au))))⟩)))
  (aK (bQ (aI (i:=7) S.nd rfl 'c' (QE.bor [6] (am (ok_q7 T) hr T.t_q7 (aq (ad 0) (aq (ad 2) (aq (ad 6) au)))))))
  (aK (bQ (bn (bh sH dIsN (ad 7) bJ (a9 _)) (aj (bW (kz (cB (QF.qm (QE.qf a7)) (cB (fS 6) ii))))) aR))
  (aK (bQ (gN (ad 7) (bM rfl (aB (aD (i:=8) S.nd rfl 'c') (aB (aD (i:=9) S.nd rfl 'c') (aB (aD (i:=10) S.nd rfl 'c') bt))) (ak (ak (ak aU))))))
  (bi (bQ (bW (kz (cB (QF.qm (QE.qf a7)) (cB (QF.qm (QF.bor [4] (bC (ok_q5 T) hr T.t_q5 (aq (ad 4) (aq (ad 8) (aq (ad 9) (aq (ad 10) au))))))) ii))))))))))))))),fun ds q qx h=>?_⟩
 case hl=>intro ds q qx h; obtain ⟨t,x,rfl,_⟩:=h; rfl
 obtain ⟨t,x,rfl,h⟩:=h
 refine ⟨t,x,rfl,?_⟩
 rcases h with h | ⟨ps,rs,rfl,hT,hx,h⟩
 ·exact .inl h
 refine .inr ⟨ps,rs,rfl,hT,hx,?_⟩
 rcases h with h | ⟨as,rfl,ha,q0⟩
 ·exact .inl h
 refine .inr ⟨fE ha,?_⟩
 have hti:=hT.hi
 refine ⟨ps,rs,as,rfl,hT,ha,fun L hL hC=>?_⟩
 refine ⟨by rw [br]; omega,?_⟩
 rw [show (((ps.map D.int).length:Int) + 1 - 1).toNat=ps.length by rw [br]; omega]
 refine ⟨fun i ρ=>∃ cs v5 v6 v7 v8 v9 v10,ρ=[some (aQ ps rs),some (bK as),some (.lst (L.map bz)),some (.lst (gE 1 ps.length)),some (db cs),v5,v6,v7,v8,v9,v10]∧Cm ps.length (JoP ps as) cs∧Clo L ps.length cs∧∀ t:Int,1≤t→t≤(i:Int)→∃ u,aO cs t=some u,⟨[],_,_,_,_,_,_,rfl,.nil,⟨fun x u h=>(by cases h),fun x u h=>(by cases h)⟩,fun t a b=>absurd a 'a'⟩,?_,?_⟩
 ·rintro i d ρ hd ⟨cs,v5,v6,v7,v8,v9,v10,rfl,hc,hcl,hcov⟩
  obtain ⟨hi,rfl⟩:=d5 hd
  have go:∀ cs':bw,Ext cs cs'→(∃ u,aO cs' (1 + (i:Int))=some u)→∀ t:Int,1≤t→t≤((i + 1:Nat):Int)→∃ u,aO cs' t=some u:=fun cs' he h1 t t0 t1=>by
   by_cases e:t=1 + (i:Int)
   ·rw [e]; exact h1
   ·obtain ⟨u,hu⟩:=hcov t t0 'a'; exact ⟨u,he _ _ hu⟩
  refine ⟨.inl (1 + (i:Int)),rfl,?_⟩
  refine (cI (c:=(!fm (cy cs) (.inl (1 + (i:Int))))=true) (fun c=>?_) (fun c=>?_))
  ·rw [cQ] at c
   have hnone:aO cs (1 + (i:Int))=none:=by
    cases e:aO cs (1 + (i:Int)) with
    | none=>rfl
    | some v=>rw [e] at c; cases c
   refine ⟨ps,as,L,cs,1 + (i:Int),690,rfl,hL,by omega,hti,hc,hcl,hnone,by omega,by omega,fun cs' hc' hcl' he hf=>?_⟩
   exact ⟨cs',_,_,_,_,_,_,rfl,hc',hcl',go cs' he hf⟩
  ·rw [cQ] at c
   have:(aO cs (1 + (i:Int))).isSome=true:=by
    cases e:aO cs (1 + (i:Int)) with
    | none=>rw [e] at c; exact absurd rfl c
    | some v=>rfl
   exact ⟨cs,_,_,_,_,_,_,rfl,hc,hcl,go cs (fun _ _ e=>e) (Option.isSome_iff_exists.mp this)⟩
 ·rintro ρ ⟨cs,v5,v6,v7,v8,v9,v10,rfl,hc,hcl,hcov⟩
  rw [cF] at hcov
  have hfew:=hc.few
  have hbk:∀ x:Int,1≤x→x≤ps.length→∃ p r,Back cs x p r∧p.length≤23:=fun x x0 x1=>by
   obtain ⟨u,hu⟩:=hcov x x0 x1
   obtain ⟨p,r,hb,hl⟩:=hc.back hu
   exact ⟨p,r,hb,by omega⟩
  refine ⟨by rw [cF]; omega,?_⟩
  refine dS (txF ps cs) ?_ ?_
  ·intro d hd k hk
   obtain ⟨i,hi⟩:=List.mem_iff_getElem?.mp hd
   obtain ⟨h1,rfl⟩:=d5 hi
   obtain ⟨p,r,hb,hl⟩:=hbk (1 + (i:Int)) 'a' 'a'
   refine ⟨ps,rs,as,cs,1 + (i:Int),p,r,rfl,hT,hc,hb,hl,?_⟩
   rw [← wB_of hb]
   exact hk
  have em:(gE 1 ps.length).map (txF ps cs)=(bsC ps cs ps.length).map fun b=>.str (txt b):=by
   unfold gE bsC
   rw [List.map_map,List.map_map]; rfl
  rw [em]
  refine ⟨oC _,?_⟩
  refine ⟨ps,rs,as,L,bsC ps cs ps.length,690,rfl,hT,hL,tS _ _ _,fun hok=>?_,fun x l x0 x1 hl hcl2=>?_⟩
  ·exact ⟨rfl,rfl,q0 _ _ (.inl rfl)⟩
  obtain ⟨hj,hlk⟩:=hL.row x x0 x1 l hl
  obtain ⟨ux,hux⟩:=hcov x x0 x1
  obtain ⟨p1,p2,r,hb1,hb2⟩:=hcl.rt x ux hux l hl
  obtain ⟨p1',r1',hb1',hl1⟩:=hbk x x0 x1
  obtain ⟨p2',r2',hb2',hl2⟩:=hbk l.1 hlk.t0 hlk.t1
  obtain ⟨rfl,rfl⟩:=hb1.det hb1'
  obtain ⟨rfl,rfl⟩:=hb2.det hb2'
  refine ⟨rfl,?_⟩
  refine ⟨rfl,cs,x,l.1,l.2,p1,p2,r,rfl,hb1,hb2,hl1,hl2,fun P Q C e1 e2=>?_⟩
  exact q0 _ _ (.inr rfl)
end
end K49
namespace K49
open PySem L2
section
variable {P:Program} {w:World} {K:PySem.W.Frag} {mg:Str→Option Value} {base:Heap} {A:Adr}
theorem ok_q6 (T:Txt K mg A):FnOk P w K mg base CX0 1 A.f_q6 A.d_q6 ["tree","ask","pointing"] (bj [false,false,false] false sdNo):=vk
theorem yo (T:Txt K mg A):FnOk P w K mg base CX0 1 A.f_q11 A.d_q11 ["tree","asks","one","other","number"] (bj [false,false,false,false,false] false sdNo):=vk
def wK:SpD:=fun ds q=>∃ d,ds=[d]∧pln d=true∧q (.bl (txB d)) []
theorem in_tx (x:Str):inD (.str x) [.str "up",.str "down"]=txB (.str x):=by
 show (((("up":Str)) == x)||((("down":Str) == x)||false))=(x == "up" || x == "down")
 rw [Bool.or_false,Bool.eq_iff_iff,Bool.or_eq_true,Bool.or_eq_true,beq_iff_eq,beq_iff_eq,beq_iff_eq,beq_iff_eq]
 exact ⟨fun h=>h.imp Eq.symm Eq.symm,fun h=>h.imp Eq.symm Eq.symm⟩
theorem wx (T:Txt K mg A):FnOk P w K mg base CX0 1 A.f_q34 A.d_q34 ["thing"] (bj [false] false (wK)):=by
 have S:=wz
 refine fnD T.t_q34.F S ⟨[false],[false],false⟩ _ ?hl rfl rfl fun cdv Ar outer s H E hr=>⟨_,(aj (aN (dM (cW rfl T.z_isinstance aG (ad 0) (bX (v:=.ty "str") rfl T.z_str vU rfl)) (eU (fD p6 (dInG T.t_TEXTS) (ad 0) (qo rfl T.m_TEXTS) rfl))))),fun ds q h=>?_⟩
 case hl=>intro ds q h; obtain ⟨d,rfl,_⟩:=h; rfl
 obtain ⟨d,rfl,hp,q0⟩:=h
 cases d with
 | str x=>rw [← in_tx] at q0; exact ⟨rfl,rfl,q0⟩
 | _=>first | exact q0 | (rw [pln] at hp; cases hp)
def txF2:D→D:=fun d=>.bl (txB d)
def NoP (n:Nat) (y:D):Prop:=∀ ds,y = .lst ds→ds.length≤100∧(ds.length=n→ds.all txB=false)
def oA:D→Bool
 | .tup _=>true
 | _=>false
def NoR (y:D):Prop:=∀ ds,y = .lst ds→3≤ds.length→ds.length≤61→∀ d∈ds,oA d=false
def nk (cT cA:Addr) (ok:Nat→D→Prop):SpX:=fun ds q qx=>∃ t x y,ds=[t,x,y]∧((∃ p n,pln t=true∧bD t=some (p,n)∧qx cT iH [.str p,n] []) ∨
 ∃ ps rs,t=aQ ps rs∧Tree ps rs∧pln x=true∧((∃ n,bV ps.length x=some n∧qx cA kW [n] []) ∨
  ∃ as,x=bK as∧AsksOk ps as∧pln y=true∧ok ps.length y∧q (.bl false) []))
theorem vT (T:Txt K mg A):FnOk P w K mg base (CX1 P w) 10 A.f_q8 A.d_q8 ["tree","asks","thing"] (cZ [false,false,false] false ((nk A.c_q42 A.c_q38 NoP))):=by
 have S:=sc_q8
 refine fnX T.t_q8.F S ⟨[false,false,false],[false,false,false],false⟩ _ ?hl rfl rfl fun cdv Ar outer s H E hr=>⟨_,(aK (ic (ck (mU T) hr T.t_q2 (aq (ad 0) (aq (ad 1) au))))
  (aK (bQ (bn (QW.qt (f7 (bg (a6 (cW rfl T.z_isinstance aG (ad 2) (bX (v:=.ty "list") rfl T.z_list fg rfl)))) (d8 (bh (dJ hr.units) dNe (aE ax cP rfl T.z_len bd (aa (ad 2) af)) (aE ax cP rfl T.z_len bd (aa 't' af)) (a9 _))))) (aj (aN ci)) aR))
  (aK (bQ (bn (bg (a6 (aE (gB rfl) dAll rfl T.z_all mm (aa (fN ["text"] [] ⟨rfl,rfl,by decide +kernel,rfl,rfl,(by first | exact trivial | exact ⟨rfl,trivial⟩ | exact ⟨rfl,rfl,trivial⟩ | exact ⟨rfl,rfl,rfl,trivial⟩ | exact ⟨rfl,rfl,rfl,rfl,trivial⟩),rfl⟩ rfl (cq (ad 2)) (cu 0) (fun _ _ _ _=>⟨(bA (i:=0) (show List.Nodup (["text"]:List Str) by decide +kernel) rfl 'c'),cN,(am (wx T) hr T.t_q34 (aq (ad 0) au))⟩)) af)))) (aj (aN ci)) aR))
  (bi (bQ (aN (aE (gB rfl) dAll rfl T.z_all mm (aa (fN ["ask"] [0,2] ⟨rfl,rfl,by decide +kernel,rfl,rfl,(by first | exact trivial | exact ⟨rfl,trivial⟩ | exact ⟨rfl,rfl,trivial⟩ | exact ⟨rfl,rfl,rfl,trivial⟩ | exact ⟨rfl,rfl,rfl,rfl,trivial⟩),rfl⟩ rfl (cq (ad 1)) (cu 0) (fun _ _ _ _=>⟨(bA (i:=0) (show List.Nodup (["ask","tree","thing"]:List Str) by decide +kernel) rfl 'c'),cN,(am (ok_q6 T) hr T.t_q6 (aq (ad 1) (aq (ad 0) (aq (ad 2) au))))⟩)) af)))))))),fun ds q qx h=>?_⟩
 case hl=>intro ds q qx h; obtain ⟨t,x,y,rfl,_⟩:=h; rfl
 obtain ⟨t,x,y,rfl,h⟩:=h
 refine ⟨t,x,rfl,?_⟩
 rcases h with h | ⟨ps,rs,rfl,hT,hx,h⟩
 ·exact .inl h
 refine .inr ⟨ps,rs,rfl,hT,hx,?_⟩
 rcases h with h | ⟨as,rfl,ha,hy,hno,q0⟩
 ·exact .inl h
 refine .inr ⟨fE ha,?_⟩
 cases y with
 | lst ds =>
  obtain ⟨hl,hn⟩:=hno ds rfl
  refine (cI (c:=(!decide ((ds.length:Int)=((ps.map D.int).length:Int)))=true) (fun c=>q0) (fun c=>?_))
  have e:ds.length=ps.length:=by rw [br] at c; simp at c; omega
  rw [pln] at hy
  refine ⟨by omega,?_⟩
  refine dS txF2 ?_ ?_
  ·intro d hd k hk
   exact ⟨d,rfl,cV hy hd,hk⟩
  refine ⟨ds.map txB,by rw [List.map_map]; rfl,?_⟩
  rw [List.all_map,show (ds.all (id ∘ txB))=false from hn e]
  exact q0
 | _=>first | exact q0 | (rw [pln] at hy; cases hy)
def t4:SpD:=fun ds q=>∃ ps rs as d,ds=[aQ ps rs,bK as,d]∧pln d=true∧oA d=false∧q (.bl false) []
theorem vR (T:Txt K mg A):FnOk P w K mg base CX0 4 A.f_q32 A.d_q32 ["tree","asks","thing"] (bj [false,false,false] false (t4)):=by
 have S:=xl
 refine fnD T.t_q32.F S ⟨[false,false,false],[false,false,false],false⟩ _ ?hl rfl rfl fun cdv Ar outer s H E hr=>⟨_,(ag (bn (QW.qt (f7 (bg (a6 (cW rfl T.z_isinstance aG (ad 2) (bX (v:=.ty "tuple") rfl T.z_tuple fT rfl)))) (d8 (bh (dJ hr.units) dNe (aE ax cP rfl T.z_len bd (aa (ad 2) af)) ae (a9 _))))) (aj (aN ci)) aR)
  (aj (aN (dM (am (l9 T) hr T.t_q44 (aq (ad 0) (aq (aJ aA dIx (ad 2) ae 'f') au))) (eU (am (er T) hr T.t_q13 (aq (aJ aA dIx (ad 2) ae 'f') (aq ae (aq (aH eL dI (aE ax cP rfl T.z_len bd (aa (ad 1) af)) ae) au))))))))),fun ds q h=>?_⟩
 case hl=>intro ds q h; obtain ⟨ps,rs,as,d,rfl,_⟩:=h; rfl
 obtain ⟨ps,rs,as,d,rfl,hp,ht,q0⟩:=h
 cases d with
 | tup ds=>cases ht
 | _=>first | exact q0 | (rw [pln] at hp; cases hp)
theorem tW (T:Txt K mg A):FnOk P w K mg base (CX1 P w) 9 A.f_q33 A.d_q33 ["tree","asks","thing"] (cZ [false,false,false] false ((nk A.c_q42 A.c_q38 fun _=>NoR))):=by
 have S:=wI
 refine fnX T.t_q33.F S ⟨[false,false,false],[false,false,false,false,false,false],false⟩ _ ?hl rfl rfl fun cdv Ar outer s H E hr=>⟨_,(aK (ic (ck (mU T) hr T.t_q2 (aq (ad 0) (aq (ad 1) au))))
  (aK (bQ (bn (QW.qt (f7 (bg (a6 (cW rfl T.z_isinstance aG (ad 2) (bX (v:=.ty "list") rfl T.z_list fg rfl)))) (d8 (bg (qy jw jw dB dB (cz (i:=3) rfl T.c_LEAST_RING) (aE ax cP rfl T.z_len bd (aa (ad 2) af)) (cz (i:=61) rfl T.c_MOST_RING)))))) (aj (aN ci)) aR))
  (aK (bQ (bn (bg (a6 (aE (gB rfl) dAll rfl T.z_all mm (aa (fN ["link"] [0,1] ⟨rfl,rfl,by decide +kernel,rfl,rfl,(by first | exact trivial | exact ⟨rfl,trivial⟩ | exact ⟨rfl,rfl,trivial⟩ | exact ⟨rfl,rfl,rfl,trivial⟩ | exact ⟨rfl,rfl,rfl,rfl,trivial⟩),rfl⟩ rfl (cq (ad 2)) (cu 0) (fun _ _ _ _=>⟨(bA (i:=0) (show List.Nodup (["link","tree","asks"]:List Str) by decide +kernel) rfl 'c'),cN,(am (vR T) hr T.t_q32 (aq (ad 1) (aq (ad 2) (aq (ad 0) au))))⟩)) af)))) (aj (aN ci)) aR))
  (aK (bQ (aI (i:=3) S.nd rfl 'c' ae))
  (aK (bQ (cH PassesOwn.never rfl (qA rfl T.z_zip (aa (ad 2) (aa (bL b_ gb (eF (ad 2) (fV ae) f6) (eF (ad 2) f6 (fV ae))) af))) (bM rfl (aB (aD (i:=4) S.nd rfl 'c') (aB (aD (i:=5) S.nd rfl 'c') bt)) (ak (ak aU))) (ag (bn (bg (a6 (am (yo T) hr T.t_q11 (aq (ad 0) (aq (ad 1) (aq (aJ aA dIx (ad 4) ae 'f') (aq (aJ aA dIx (ad 5) ae 'f') (aq (aJ aA dIx (ad 4) ae 'f') au)))))))) (aj (aN ci)) aR)
  (aj (bn (a6 (am (nz T) hr T.t_q18 (aq (ad 0) (aq (aJ aA dIx (ad 4) ae 'f') (aq (aJ aA dIx (ad 5) ae 'f') au))))) (aj (xJ (i:=3) S.nd rfl 'c' xO ae)) aR)))))
  (bi (bQ (aN (fD (eO hr.units) dEq (aH c_ dIC (ad 3) ae) ae (a9 _)))))))))),fun ds q qx h=>?_⟩
 case hl=>intro ds q qx h; obtain ⟨t,x,y,rfl,_⟩:=h; rfl
 obtain ⟨t,x,y,rfl,h⟩:=h
 refine ⟨t,x,rfl,?_⟩
 rcases h with h | ⟨ps,rs,rfl,hT,hx,h⟩
 ·exact .inl h
 refine .inr ⟨ps,rs,rfl,hT,hx,?_⟩
 rcases h with h | ⟨as,rfl,ha,hy,hno,q0⟩
 ·exact .inl h
 refine .inr ⟨fE ha,?_⟩
 cases y with
 | lst ds =>
  have hn:=hno ds rfl
  rw [pln] at hy
  refine (cI (c:=decide ((3:Int)≤(ds.length:Int))=true) (fun c1=>?_) (fun c1=>q0))
  refine (cI (c:=(!decide ((ds.length:Int)≤61))=true) (fun c2=>q0) (fun c2=>?_))
  have h3 : 3≤ds.length:=by have:=of_decide_eq_true c1; omega
  have h61:ds.length≤61:=by simp at c2; omega
  refine ⟨by omega,?_⟩
  refine dS (fun _=>.bl false) ?_ ?_
  ·intro d hd k hk
   exact ⟨ps,rs,as,d,rfl,cV hy hd,hn h3 h61 d hd,hk⟩
  refine ⟨ds.map fun _=>false,by rw [List.map_map]; rfl,?_⟩
  have e:((ds.map fun _=>false).all id)=false:=by
   cases ds with
   | nil=>simp at h3
   | cons d ds=>rfl
  rw [e]
  exact q0
 | _=>first | exact q0 | (rw [pln] at hy; cases hy)
end
end K49
namespace K49
open PySem L2
section
variable {P:Program} {w:World} {K:PySem.W.Frag} {mg:Str→Option Value} {base:Heap} {A:Adr}
def pz:SpD:=fun ds q=>∃ c k,ds=[.int c,.int k]∧0≤k∧k≤9000∧∀ n s,0≤n→q (aL [n,s]) []
theorem mW (T:Txt K mg A):FnOk P w K mg base CX0 1 A.f_q46 A.d_q46 ["_law_script","_law_k"] (bj [false,false] false (wm K)):=by
 have S:=wL
 refine fnD T.t_q46.F S ⟨[false,false],[false,false],false⟩ _ ?hl rfl rfl fun cdv Ar outer s H E hr=>⟨_,(ag (bn (bh vw dB (ad 1) (aE ax cP rfl T.z_len bd (aa (ad 0) af)) (a9 _)) (aj (aN (aJ aA dIx (ad 0) (ad 1) 'f'))) aR)
  (aj (aN ae))),fun ds q h=>?_⟩
 case hl=>intro ds q h; obtain ⟨φ,ns,k,rfl,_⟩:=h; rfl
 obtain ⟨φ,ns,k,rfl,hφ,h0,q0⟩:=h
 refine ⟨hφ,?_⟩
 refine (cI (c:=decide (k<(ns.length:Int))=true) (fun c=>?_) (fun c=>?_))
 ·have c':k<ns.length:=by simpa using c
  refine ⟨hφ,?_⟩
  show (match atI ns k with | some n=>q (.int n) [] | none=>False)
  rw [yb h0 c']; exact q0
 ·have c':ns.length≤k.toNat:=by simp at c; omega
  have e:rg ns k=0:=by unfold rg; rw [List.getD_eq_getElem?_getD,List.getElem?_eq_none c']; rfl
  rw [e] at q0; exact q0
theorem l_ (T:Txt K mg A):FnOk P w K mg base CX0 1 A.f_q27 A.d_q27 ["_law_cell_here","_law_k"] (bj [false,false] true (pz)):=by
 have S:=xy
 refine fnD T.t_q27.F S ⟨[false,false],[false,false,false,false],true⟩ _ ?hl rfl rfl fun cdv Ar outer s H E hr=>⟨_,(ag (aI (i:=2) S.nd rfl 'c' (aE sK dAbs rfl T.z_abs vX (aa (ad 0) af)))
  (ag (aI (i:=3) S.nd rfl 'c' (aH c_ dIC (aH fC dIC (aH bc dI (aH bc dI (aH c_ dIC (ad 2) ae) (aH fC dIC ae (ad 1))) ae) ae) ae))
  (ag (bn (bh vw dB (ad 2) (aH eD dIC ae ae) (a9 _)) (aj (aI (i:=2) S.nd rfl 'c' ae)) aR)
  (aj (bW (QF.qm (fA (aa (ad 2) (aa (ad 3) af))))))))),fun ds q h=>?_⟩
 case hl=>intro ds q h; obtain ⟨c,k,rfl,_⟩:=h; rfl
 obtain ⟨c,k,rfl,h0,h1,q0⟩:=h
 obtain ⟨z,hz⟩:∃ z:Int,z=(if c<0 then -c else c):=⟨_,rfl⟩
 have hz0 : 0≤z:=by rw [hz]; split <;> omega
 refine ⟨(show (0:Int)<1000003 by decide),Or.inl ⟨by decide,by decide⟩,Or.inr ⟨by decide,by decide⟩,(show (0:Int)<2147483647 by decide),?_⟩
 refine ⟨⟨by decide,by decide,by decide⟩,?_⟩
 refine (cI (c:=decide ((if c<0 then -c else c)<10 ^ 18)=true) (fun c=>?_) (fun c=>?_))
 ·exact ⟨rfl,q0 _ _ (Int.le_refl 0)⟩
 ·exact ⟨rfl,q0 _ _ (by rw [← hz]; exact hz0)⟩
theorem bS (T:Txt K mg A):FnOk P w K mg base CX0 1 A.f_q47 A.d_q47 ["_law_source_here","_law_many"] (bj [true,false] false (wH)):=by
 have S:=xj
 refine fnD T.t_q47.F S ⟨[true,false],[true,false,false,false],false⟩ _ ?hl rfl rfl fun cdv Ar outer s H E hr=>⟨_,(ag (bn (QT.bor [0] (bh oH dB 't' ae (a9 _))) (ag (aI (i:=2) S.nd rfl 'c' (QE.bor [0] (aH c_ dIC 't' (ad 1))))
  (ag (j9 (i:=0) rfl (QF.bor [0] (QE.qf (aH rf dIC 't' (ad 1)))) ae)
  (aj (aN (ad 2))))) aR)
  (ag (j9 (i:=0) rfl (QF.bor [0] (QE.qf (aH c_ dIC (aH bc dI (aH fC dIC 't' ae) ae) ae))) ae)
  (ag (aI (i:=3) S.nd rfl 'c' (QE.bor [0] (aH ka dIC (aH c_ dIC (aH fC dIC 't' 't') ae) ae)))
  (ag (bn (bh oH dB (ad 1) (aH eD dIC ae ae) (a9 _)) (ag (j9 (i:=0) rfl (QF.bor [0] (QE.qf (aH c_ dIC (aH bc dI (aH fC dIC 't' ae) ae) ae))) ae)
  (aj (aI (i:=3) S.nd rfl 'c' (QE.bor [0] (aH bc dI (aH fC dIC (ad 3) ae) (aH ka dIC (aH c_ dIC (aH fC dIC 't' 't') ae) ae)))))) aR)
  (aj (aN (aH c_ dIC (ad 3) (ad 1)))))))),fun ds q h=>?_⟩
 case hl=>intro ds q h; obtain ⟨c,m,many,rfl,_⟩:=h; rfl
 obtain ⟨c,m,many,rfl,h0,hm,hs,q0⟩:=h
 refine (cI (c:=decide (0<c)=true) (fun c1=>?_) (fun c1=>?_))
 ·refine ⟨hm,rfl,?_⟩
  refine ⟨⟨hm,hs⟩,rfl,?_⟩
  exact q0 _ (c / many) m (Int.emod_nonneg _ (Int.ne_of_gt hm)) (Int.emod_lt_of_pos _ hm) (Int.ediv_nonneg h0 (Int.le_of_lt hm))
 ·refine ⟨Or.inr ⟨by decide,by decide⟩,(show (0:Int)<2147483647 by decide),rfl,?_⟩
  obtain ⟨m1,hm1⟩:∃ m1,m1=(m * 48271 + 11) % 2147483647:=⟨_,rfl⟩
  have a1:=Int.emod_nonneg (m * 48271 + 11) (show (2147483647:Int)≠0 by decide)
  have a2:=Int.emod_lt_of_pos (m * 48271 + 11) (show (0:Int)<2147483647 by decide)
  rw [← hm1] at a1 a2
  rw [hm1] at a1 a2
  have cm:∀ x:Int,CMul ((m * 48271 + 11) % 2147483647) x:=fun x=>Or.inl ⟨by omega,by omega⟩
  refine ⟨cm _,(show (0:Int)<2147483629 by decide),⟨by decide,by decide⟩,rfl,?_⟩
  refine ⟨⟨by decide,by decide,by decide⟩,?_⟩
  refine (cI (c:=decide ((10:Int) ^ Int.toNat 7<many)=true) (fun c2=>?_) (fun c2=>?_))
  ·refine ⟨cm _,(show (0:Int)<2147483647 by decide),rfl,?_⟩
   have b1:=Int.emod_nonneg ((m * 48271 + 11) % 2147483647 * 39373 + 17) (show (2147483647:Int)≠0 by decide)
   have b2:=Int.emod_lt_of_pos ((m * 48271 + 11) % 2147483647 * 39373 + 17) (show (0:Int)<2147483647 by decide)
   refine ⟨Or.inr ⟨by decide,by decide⟩,⟨Or.inl ⟨by omega,by omega⟩,(show (0:Int)<2147483629 by decide),⟨by decide,by decide⟩,rfl,?_⟩⟩
   refine ⟨hm,?_⟩
   exact q0 _ c _ (Int.emod_nonneg _ (Int.ne_of_gt hm)) (Int.emod_lt_of_pos _ hm) h0
  ·refine ⟨hm,?_⟩
   exact q0 _ c _ (Int.emod_nonneg _ (Int.ne_of_gt hm)) (Int.emod_lt_of_pos _ hm) h0
theorem xU (T:Txt K mg A):FnOk P w K mg base CX0 2 A.f_q50 A.d_q50 ["_law_source_here","_law_most"] (bj [true,false] true (uZ)):=by
 have S:=vZ
 refine fnD T.t_q50.F S ⟨[true,false],[true,false,false,false,true,false,false],true⟩ _ ?hl rfl rfl fun cdv Ar outer s H E hr=>⟨_,(ag (aI (i:=2) S.nd rfl 'c' (aH bc dI ae (am (bS T) hr T.t_q47 (dG 0 (aq (ad 1) au)))))
  (ag (aI (i:=3) S.nd rfl 'c' (am (bS T) hr T.t_q47 (dG 0 (aq ae au))))
  (ag (dC (i:=4) S.nd rfl 'c' (fA af))
  (ag (cH PassesOwn.never rfl (fi rfl T.z_range (aa (ad 2) af)) (aD (i:=5) S.nd rfl 'c') (aj (ff (i:=4) rfl (QE.qf (aJ aA dIx (av (aa (am (bS T) hr T.t_q47 (dG 0 (aq (aH bc dI (ad 5) ae) au))) (aa (ad 5) (aa ae (aa (aH ka dIC (ad 5) ae) af))))) (ad 3) 'f')))))
  (ag (aI (i:=6) S.nd rfl (Or.inr rfl) (aJ aA dIx (av (aa ae (aa ae (aa ae (aa (aH eD dIC ae ae) af))))) (am (bS T) hr T.t_q47 (dG 0 (aq ae au))) 'f'))
  (aj (bW (kz (cB (fS 4) (cB (QF.qm (rh ["_law_k"] [0,6] 0 1 ⟨rfl,rfl,by decide +kernel,rfl,rfl,(by first | exact trivial | exact ⟨rfl,trivial⟩ | exact ⟨rfl,rfl,trivial⟩ | exact ⟨rfl,rfl,rfl,trivial⟩ | exact ⟨rfl,rfl,rfl,rfl,trivial⟩),rfl⟩ rfl (fi rfl T.z_range (aa (ad 2) af)) (lj 0) (fun _ _ _ _=>⟨(bA (i:=0) (show List.Nodup (["_law_k","_law_source_here","_law_wide"]:List Str) by decide +kernel) rfl 'c'),cN,(aH bc dI ae (am (bS T) hr T.t_q47 (dG 1 (aq (ad 2) au))))⟩))) ii)))))))))),fun ds q h=>?_⟩
 case hl=>intro ds q h; obtain ⟨c,m,most,rfl,_⟩:=h; rfl
 obtain ⟨c,m,most,rfl,h0,hm0,hm1,q0⟩:=h
 refine ⟨c,m,most,rfl,h0,hm0,cK (n:=23) 'a' 'q',fun n c1 m1 n0 n1 h1=>?_⟩
 refine ⟨c1,m1,4,rfl,h1,by decide,cK (n:=4) 'k' 'q',fun w0 c2 m2 w00 w01 h2=>?_⟩
 refine ⟨rfl,?_⟩
 refine ⟨⟨by omega,by omega⟩,?_⟩
 refine ⟨fun i ρ=>∃ (ps:List Int) (c m:Int) (v:Option D),ρ=[some (aL [c,m]),some (.int most),some (.int (1 + n)),some (.int w0),some (aL ps),v,none]∧0≤c∧ps.length=i∧(∀ (j:Nat) (x:Int),ps[j]? = some x→0≤x∧x≤j),⟨[],c2,m2,_,rfl,h2,rfl,(fun j x h=>by simp at h)⟩,?_,?_⟩
 ·rintro i d ρ hd ⟨ps,c3,m3,v,rfl,h3,lp,hpar⟩
  obtain ⟨hi,rfl⟩:=d5 hd
  have hi2:i<23:=by omega
  refine ⟨c3,m3,0 + (i:Int) + 1,rfl,h3,by omega,cK (n:=23) 'a' 'q',fun r c4 m4 r0 r1 h4=>?_⟩
  refine ⟨⟨(show (0:Int)<2 by decide),(show (2:Int)<1073741824 by decide)⟩,?_⟩
  obtain ⟨y,hy,y1,y2⟩:∃ y:Int,atI [D.int r,D.int (0 + (i:Int)),D.int 0,D.int ((0 + (i:Int)) / 2)] w0=some (.int y)∧0≤y∧y≤i:=by
   have:w0=0∨w0=1∨w0=2∨w0=3:=by omega
   rcases this with rfl | rfl | rfl | rfl
   all_goals exact ⟨_,rfl,by omega,by omega⟩
  refine bZ hy ?_
  refine ⟨rfl,by rw [br]; omega,?_⟩
  refine ⟨ps++[y],c4,m4,some (.int (0 + (i:Int))),?_,h4,by rw [List.length_append,lp]; rfl,oN hpar ⟨y1,by omega⟩⟩
  rw [← pF]; rfl
 ·rintro ρ ⟨ps,c3,m3,v,rfl,h3,lp,hpar⟩
  rw [cF] at lp
  refine ⟨⟨by decide,by decide,by decide⟩,?_⟩
  refine ⟨c3,m3,4,rfl,h3,by decide,cK (n:=4) 'k' 'q',fun r c4 m4 r0 r1 h4=>?_⟩
  obtain ⟨z,hz,z1,z2⟩:∃ z:Int,atI [D.int 1,D.int 3,D.int 60,D.int (10 ^ Int.toNat 6)] r=some (.int z)∧1≤z∧z≤1000000:=by
   have:r=0∨r=1∨r=2∨r=3:=by omega
   rcases this with rfl | rfl | rfl | rfl
   all_goals exact ⟨_,rfl,by decide,by decide⟩
  refine bZ hz ?_
  refine ⟨⟨by omega,by omega⟩,?_⟩
  refine ⟨by rw [cF]; omega,?_⟩
  refine ⟨fun i es d=>∃ (rs:List Int) (c m:Int),es=rs.map D.int∧d=aL [c,m]∧0≤c∧rs.length=i∧(∀ (j:Nat) (x:Int),rs[j]? = some x→1≤x∧x≤1000000),⟨[],c4,m4,rfl,rfl,h4,rfl,(fun j x h=>by simp at h)⟩,?_,?_⟩
  ·rintro j x es d hx ⟨rs,c5,m5,rfl,rfl,h5,lr,hroom⟩
   refine ⟨c5,m5,z,rfl,h5,by omega,cK (n:=1000000) 'a' 'q',fun u c6 m6 u0 u1 h6=>?_⟩
   exact ⟨rs++[1 + u],c6,m6,(List.map_append (l₂:=[1 + u])).symm,rfl,h6,by rw [List.length_append,lr]; rfl,oN hroom ⟨by omega,by omega⟩⟩
  ·rintro es d ⟨rs,c5,m5,rfl,rfl,h5,lr,hroom⟩
   rw [cF] at lr
   refine ⟨gG _,?_⟩
   exact q0 ps rs c5 m5 ⟨by omega,by omega,by omega,hpar,hroom⟩ 'a' h5
theorem yp (T:Txt K mg A):FnOk P w K mg base CX0 2 A.f_q55 A.d_q55 ["_law_source_here","_law_many","_law_sizes","_law_worths"] (bj [true,false,false,false] false (xT)):=by
 have S:=v_
 refine fnD T.t_q55.F S ⟨[true,false,false,false],[true,false,false,false,false,false,false],false⟩ _ ?hl rfl rfl fun cdv Ar outer s H E hr=>⟨_,(ag (aI (i:=4) S.nd rfl 'c' (am (bS T) hr T.t_q47 (dG 0 (aq (aH bc dI (ad 1) ae) au))))
  (ag (aI (i:=5) S.nd rfl 'c' (aH c_ dIC (aH bc dI (aH bc dI (ad 4) ae) (am (bS T) hr T.t_q47 (dG 0 (aq (ad 1) au)))) (aH bc dI (ad 1) ae)))
  (ag (aI (i:=6) S.nd rfl 'c' (aH bc dI ae (am (bS T) hr T.t_q47 (dG 0 (aq (aJ aA dIx (ad 2) (am (bS T) hr T.t_q47 (dG 0 (aq (aE ax cP rfl T.z_len bd (aa (ad 2) af)) au))) 'f') au)))))
  (aj (aN (aF (aa (ad 4) (aa (ad 5) (aa (ad 6) (aa (aH bc dI ae (am (bS T) hr T.t_q47 (dG 0 (aq (aJ aA dIx (ad 3) (am (bS T) hr T.t_q47 (dG 0 (aq (aE ax cP rfl T.z_len bd (aa (ad 3) af)) au))) 'f') au)))) af)))))))))),fun ds q h=>?_⟩
 case hl=>intro ds q h; obtain ⟨c,m,ps,rs,n,sizes,worths,rfl,_⟩:=h; rfl
 obtain ⟨c,m,ps,rs,n,sizes,worths,rfl,h0,hT,hn,hs0,hs1,hs,hw0,hw1,hw,q0⟩:=h
 have hi:=hT.hi
 have hlo:=hT.lo
 refine ⟨c,m,n + 1,rfl,h0,by omega,cK (n:=24) 'a' 'q',fun a c1 m1 a0 a1 h1=>?_⟩
 refine ⟨c1,m1,n,rfl,h1,by omega,cK (n:=24) 'a' 'q',fun r c2 m2 r0 r1 h2=>?_⟩
 refine ⟨(show (0:Int)<n + 1 by omega),?_⟩
 refine ⟨c2,m2,((sizes.map D.int).length:Int),rfl,h2,by rw [br]; omega,cK (n:=100) (by rw [br]; omega) 'q',fun k c3 m3 k0 k1 h3=>?_⟩
 rw [br] at k1
 refine bZ (eW k0 'a') ?_
 have hz:=hs _ (L2.lN (show k.toNat<sizes.length by omega))
 generalize sizes.getD k.toNat 0=z at hz
 refine ⟨c3,m3,z,rfl,h3,by omega,cK (n:=1000000) 'a' 'q',fun s c4 m4 s0 s1 h4=>?_⟩
 refine ⟨c4,m4,((worths.map D.int).length:Int),rfl,h4,by rw [br]; omega,cK (n:=100) (by rw [br]; omega) 'q',fun k2 c5 m5 k20 k21 h5=>?_⟩
 rw [br] at k21
 refine bZ (eW k20 'a') ?_
 have hy:=hw _ (L2.lN (show k2.toNat<worths.length by omega))
 generalize worths.getD k2.toNat 0=y at hy
 refine ⟨c5,m5,y,rfl,h5,by omega,cK (n:=1000000000000) 'a' 'q',fun wo c6 m6 w0 w1 h6=>?_⟩
 have he:=nu (ps:=ps) (a:=a) (r:=r) a0 'a' r0 'a'
 have en:n + 1=1 + (ps.length:Int):=by omega
 rw [← en] at he
 exact q0 ⟨a,(a + 1 + r) % (n + 1),1 + s,1 + wo⟩ c6 m6 ⟨he,by show 1≤1 + s; omega,by show 1 + s≤1000000; omega,by show 1≤1 + wo; omega,by show 1 + wo≤1000000000000; omega⟩ h6
def xo (A:Adr):SpD:=fun ds q=>∃ e,ds=[e]∧((∃ p n,e=iL A.c_q42 iH [.str p,n]∧q (.str "tree") [])∨∃ n,e=iL A.c_q38 kW [n]∧q (.str "asks") [])
theorem yf (T:Txt K mg A):FnOk P w K mg base CX0 1 A.f_q48 A.d_q48 ["_law_e"] (bj [false] false ((xo A))):=by
 have S:=wJ
 refine fnD T.t_q48.F S ⟨[false],[false,false],false⟩ _ ?hl rfl rfl fun cdv Ar outer s H E hr=>⟨_,(ag (bn (bg (a6 (mE relTy rfl T.z_isinstance aG (ad 0) (bX (v:=.ty "ValueError") rfl T.z_ValueError jg rfl)))) (aj (aN a7)) aR)
  (ag (bn (a6 (ol (cs:=[A.c_q39,A.c_q23,A.c_q30,A.c_q10,A.c_q41,A.c_q22,A.c_q29]) rfl T.z_isinstance aG (ad 0) (cY rfl T.m_q39 (cY rfl T.m_q23 (cY rfl T.m_q30 (cY rfl T.m_q10 (cY rfl T.m_q41 (cY rfl T.m_q22 (cY rfl T.m_q29 o5))))))))) (aj (aN a7)) aR)
  (ag (bn (a6 (ol (cs:=[A.c_q21,A.c_q31,A.c_q52,A.c_q40]) rfl T.z_isinstance aG (ad 0) (cY rfl T.m_q21 (cY rfl T.m_q31 (cY rfl T.m_q52 (cY rfl T.m_q40 o5)))))) (aj (aN a7)) aR)
  (ag (aI (i:=1) S.nd rfl 'c' (av (aa (mE sR rfl T.z_isinstance aG (ad 0) (fX (v:=.ref A.c_q42) rfl T.m_q42 rfl)) (aa (mE sR rfl T.z_isinstance aG (ad 0) (fX (v:=.ref A.c_q38) rfl T.m_q38 rfl)) af))))
  (ag (bn (bh (dJ hr.units) dNe (tw (ad 1)) ae (a9 _)) (aj (aN a7)) aR)
  (aj (aN (aJ aA dIx (av (aa a7 (aa a7 af))) (s_ (ad 1)) 'f')))))))),fun ds q h=>?_⟩
 case hl=>intro ds q h; obtain ⟨e,rfl,_⟩:=h; rfl
 obtain ⟨e,rfl,h⟩:=h
 rcases h with ⟨p,n,rfl,q0⟩ | ⟨n,rfl,q0⟩
 ·refine ⟨true,.inl ⟨_,_,_,_,_,rfl,T.x_q42,T.o_q42,T.v_q42⟩,?_⟩
  refine ⟨false,.inl ⟨_,_,_,_,_,rfl,T.x_q42,T.o_q42,(bo T.i_q42_NoKeep (bo T.i_q42_NoPrices (bo T.i_q42_NoShare (bo T.i_q42_NoPointing (bo T.i_q42_NoText (bo T.i_q42_NoNumber (bo T.i_q42_NoPlace fL)))))))⟩,?_⟩
  refine ⟨false,.inl ⟨_,_,_,_,_,rfl,T.x_q42,T.o_q42,(bo T.i_q42_NoChange (bo T.i_q42_TooMany (bo T.i_q42_NoRow (bo T.i_q42_NoName fL))))⟩,?_⟩
  refine ⟨true,.inl ⟨_,_,_,_,_,rfl,T.x_q42,T.o_q42,lq⟩,?_⟩
  refine ⟨false,.inl ⟨_,_,_,_,_,rfl,T.x_q42,T.o_q42,T.i_q42_NoAsks⟩,?_⟩
  refine ⟨[true,false],rfl,?_⟩
  refine ⟨[true,false],0,rfl,rfl,fun m h=>?_,by decide,?_⟩
  ·omega
  ·exact q0
 ·refine ⟨true,.inl ⟨_,_,_,_,_,rfl,T.x_q38,T.o_q38,T.v_q38⟩,?_⟩
  refine ⟨false,.inl ⟨_,_,_,_,_,rfl,T.x_q38,T.o_q38,(bo T.i_q38_NoKeep (bo T.i_q38_NoPrices (bo T.i_q38_NoShare (bo T.i_q38_NoPointing (bo T.i_q38_NoText (bo T.i_q38_NoNumber (bo T.i_q38_NoPlace fL)))))))⟩,?_⟩
  refine ⟨false,.inl ⟨_,_,_,_,_,rfl,T.x_q38,T.o_q38,(bo T.i_q38_NoChange (bo T.i_q38_TooMany (bo T.i_q38_NoRow (bo T.i_q38_NoName fL))))⟩,?_⟩
  refine ⟨false,.inl ⟨_,_,_,_,_,rfl,T.x_q38,T.o_q38,T.i_q38_NoTree⟩,?_⟩
  refine ⟨true,.inl ⟨_,_,_,_,_,rfl,T.x_q38,T.o_q38,lq⟩,?_⟩
  refine ⟨[false,true],rfl,?_⟩
  refine ⟨[false,true],1,rfl,rfl,fun m h=>?_,by decide,?_⟩
  ·have:m=0:=by omega
   subst this; rfl
  ·exact q0
def tBad (d:D):Bool:=pln d&&(bD d).isSome
def f8 (ds:List D):Bool:=ds.all tBad
theorem jO {a b:List D} (h:f8 a=true) (h2:f8 b=true):f8 (a++b)=true:=by unfold f8; rw [List.all_append]; unfold f8 at h h2; rw [h,h2]; rfl
theorem ld {ds:List D} {i:Nat} {d:D} (h:f8 ds=true) (e:ds[i]? = some d):pln d=true∧∃ p n,bD d=some (p,n):=by
 have:=List.all_eq_true.mp h d (List.mem_of_getElem? e)
 unfold tBad at this
 rw [Bool.and_eq_true,Option.isSome_iff_exists] at this
 obtain ⟨h1,⟨p,n⟩,h2⟩:=this
 exact ⟨h1,p,n,h2⟩
def vV:SpD:=fun ds q=>∃ c m,ds=[aL [c,m]]∧0≤c∧∀ d c' m',pln d=true→(∃ p n,bD d=some (p,n))→0≤c'→q d [some (aL [c',m'])]
theorem vW (T:Txt K mg A):FnOk P w K mg base CX0 2 A.f_q15 A.d_q15 ["_law_source_here"] (bj [true] false (vV)):=by
 have S:=wq
 refine fnD T.t_q15.F S ⟨[true],[true,false],false⟩ _ ?hl rfl rfl fun cdv Ar outer s H E hr=>⟨_,(ag (cb (aI (i:=1) S.nd rfl 'c' (av (aa bJ (aa ae (aa a7 (aa i_ (aa (aF (aa (av af) (aa (av af) af))) (aa (aF (aa (av (aa ae af)) (aa (av af) af))) (aa (av (aa (av (aa ae af)) (aa (av (aa ae af)) af))) (aa (aF (aa (aF (aa ae af)) (aa (aF (aa ae af)) af))) (aa (aF (aa (av (aa ae af)) (aa (av (aa ae af)) (aa (av (aa ae af)) af)))) af))))))))))))
  (ag (cb (aI (i:=1) S.nd rfl 'c' (bL b_ gb (ad 1) (av (aa (aF (aa (av (aa ae af)) (aa (av (aa ae af)) af))) (aa (aF (aa (av (aa ae af)) (aa (av (aa ae af)) af))) (aa (aF (aa (av (aa ae af)) (aa (av (aa (aH bc dI (aH eD dIC ae ae) ae) af)) af))) (aa (aF (aa (bL dF jb (av (aa ae af)) ae) (aa (bL dF jb (av (aa ae af)) ae) af))) af))))))))
  (ag (cb (aI (i:=1) S.nd rfl 'c' (bL b_ gb (ad 1) (av (aa (aF (aa (av (aa ci af)) (aa (av (aa ae af)) af))) (aa (aF (aa (av (aa ae af)) (aa (av (aa ci af)) af))) (aa (aF (aa (av (aa (jZ ae) af)) (aa (av (aa ae af)) af))) (aa (aF (aa (av (aa ae (aa ae af))) (aa (av (aa ae (aa ae af))) af))) af))))))))
  (aj (aN (aJ aA dIx (ad 1) (am (bS T) hr T.t_q47 (dG 0 (aq ae au))) 'f')))))),fun ds q h=>?_⟩
 case hl=>intro ds q h; obtain ⟨c,m,rfl,_⟩:=h; rfl
 obtain ⟨c,m,rfl,h0,q0⟩:=h
 refine ⟨fun ρ=>∃ ds,ρ=[some (aL [c,m]),some (.lst ds)]∧f8 ds=true∧ds.length=9,⟨_,rfl,rfl,rfl⟩,?_⟩
 rintro ρ ⟨ds,rfl,hp,hl⟩
 refine ⟨fun ρ=>∃ ds,ρ=[some (aL [c,m]),some (.lst ds)]∧f8 ds=true∧ds.length=13,?_,?_⟩
 ·refine ⟨⟨by decide,by decide,by decide⟩,?_⟩
  refine ⟨⟨by decide,by decide,by decide⟩,?_⟩
  refine ⟨⟨by decide,by decide,by decide⟩,?_⟩
  refine ⟨by rw [hl]; decide,?_⟩
  exact ⟨_,rfl,jO hp rfl,by rw [List.length_append,hl]; rfl⟩
 rintro ρ ⟨ds,rfl,hp,hl⟩
 refine ⟨fun ρ=>∃ ds,ρ=[some (aL [c,m]),some (.lst ds)]∧f8 ds=true∧ds.length=17,?_,?_⟩
 ·refine ⟨by rw [hl]; decide,?_⟩
  exact ⟨_,rfl,jO hp rfl,by rw [List.length_append,hl]; rfl⟩
 rintro ρ ⟨ds,rfl,hp,hl⟩
 refine ⟨c,m,17,rfl,h0,by decide,cK (n:=17) 'k' 'q',fun u c2 m2 u0 u1 h2=>?_⟩
 have hu:u.toNat<ds.length:=by omega
 have hat:ds[u.toNat]? = some ds[u.toNat]:=List.getElem?_eq_getElem hu
 have eu:u=((u.toNat:Nat):Int):=by omega
 rw [eu]
 refine bZ (fc hat) ?_
 exact q0 _ _ _ (ld hp hat).1 (ld hp hat).2 h2
end
end K49
namespace K49
open PySem L2
section
variable {P:Program} {w:World} {K:PySem.W.Frag} {mg:Str→Option Value} {base:Heap} {A:Adr}
def li (n:Nat) (d:D):Bool:=pln d&&(bV n d).isSome
theorem va {n:Nat} {d:D} (h:li n d=true):pln d=true∧∃ m,bV n d=some m:=by
 unfold li at h
 rw [Bool.and_eq_true,Option.isSome_iff_exists] at h
 exact h
theorem xr {n:Nat} {ds:List D} {d:D} (hm:d∈ds) (h:fk n d=false) (hp:plns ds=true):li n (.lst ds)=true:=by
 unfold li
 rw [pln,hp,Bool.true_and]
 cases e:bV n (.lst ds) with
 | some m=>rfl
 | none =>
  exfalso
  unfold bV at e
  dsimp only at e
  split at e
  ·have e':aS (lK n) ds 0=none:=Option.map_eq_none_iff.mp e
   obtain ⟨i,hi⟩:=List.getElem?_of_mem hm
   have:=fU e' i d hi
   have t:fk n d=true:=this
   rw [h] at t; cases t
  ·cases e
def yh:SpD:=fun ds q=>∃ c m ps rs as,ds=[aQ ps rs,bK as,aL [c,m]]∧Tree ps rs∧as.length≤30∧0≤c∧∀ d c' m',li ps.length d=true→0≤c'→q d [some (aL [c',m'])]
def midF (a b:List D):D→D:=fun d=>.lst (a++[d]++b)
def jf (n:Nat) (ds:List D):Prop:=∀ d∈ds,pln d=true∧fk n d=false
theorem iM {n:Nat} {a b:List D} (h:jf n a) (h2:jf n b):jf n (a++b):=fun d hd=>(List.mem_append.mp hd).elim (h d) (h2 d)
theorem aY {n:Nat} {d:D} {ds:List D} (h1:pln d=true) (h2:fk n d=false) (h:jf n ds):jf n (d :: ds):=fun x hx=>by
 rcases List.mem_cons.mp hx with rfl | hx
 ·exact ⟨h1,h2⟩
 ·exact h x hx
theorem gg {n:Nat}:jf n []:=fun x hx=>by cases hx
theorem gw {n:Nat} {a b s w:D} (h:(btw 1 1000000 s&&btw 1 1000000000000 w)=false):fk n (.tup [a,b,s,w])=false:=by
 show (cX n a b&&(btw 1 1000000 s&&btw 1 1000000000000 w))=false
 rw [h,Bool.and_false]
theorem eX {n:Nat} {a b s w:D} (h:cX n a b=false):fk n (.tup [a,b,s,w])=false:=by
 show (cX n a b&&(btw 1 1000000 s&&btw 1 1000000000000 w))=false
 rw [h,Bool.false_and]
theorem qB {n:Nat} {a b:D} (h:btw 0 n b=false):cX n a b=false:=by
 show (btw 0 n a&&(btw 0 n b&&neZ a b))=false
 rw [h,Bool.false_and,Bool.and_false]
theorem xf {n:Nat} {a b:D} (h:neZ a b=false):cX n a b=false:=by
 show (btw 0 n a&&(btw 0 n b&&neZ a b))=false
 rw [h,Bool.and_false,Bool.and_false]
theorem ur {n:Nat}:btw 0 n (.int ((n:Int) + 1))=false:=by
 show (decide ((0:Int)≤(n:Int) + 1)&&decide ((n:Int) + 1≤n))=false
 rw [decide_eq_false (show ¬ (n:Int) + 1≤n by omega),Bool.and_false]
theorem yn (T:Txt K mg A):FnOk P w K mg base CX0 2 A.f_q14 A.d_q14 ["_law_tree_here","_law_asks","_law_source_here"] (bj [false,false,true] false (yh)):=by
 have S:=xS
 refine fnD T.t_q14.F S ⟨[false,false,true],[false,false,true,false,false,false,false],false⟩ _ ?hl rfl rfl fun cdv Ar outer s H E hr=>⟨_,(ag (aI (i:=3) S.nd rfl 'c' (aE ax cP rfl T.z_len bd (aa 't' af)))
  (ag (cb (aI (i:=4) S.nd rfl 'c' (av (aa bJ (aa (aF af) (aa ae (aa a7 (aa i_ (aa (tf rfl T.z_tuple fT (ad 1)) (aa (bL dF jb (av (aa (aF (aa ae (aa ae (aa ae (aa ae af))))) af)) ae) af))))))))))
  (ag (cb (aI (i:=5) S.nd rfl 'c' (av (aa bJ (aa ae (aa (aF (aa ae (aa ae (aa ae af)))) (aa (aF (aa ae (aa ae (aa ae (aa ae (aa ae af)))))) (aa (av (aa ae (aa ae (aa ae (aa ae af))))) (aa (aF (aa ae (aa ae (aa ae (aa ae af))))) (aa (aF (aa ae (aa (aH bc dI (ad 3) ae) (aa ae (aa ae af))))) af))))))))))
  (ag (cb (aI (i:=5) S.nd rfl 'c' (bL b_ gb (ad 5) (av (aa (aF (aa (jZ ae) (aa ae (aa ae (aa ae af))))) (aa (aF (aa ae (aa ae (aa ae (aa ae af))))) (aa (aF (aa ae (aa ae (aa ae (aa ae af))))) (aa (aF (aa ae (aa ci (aa ae (aa ae af))))) (aa (aF (aa ae (aa ae (aa ci (aa ae af))))) af)))))))))
  (ag (cb (aI (i:=5) S.nd rfl 'c' (bL b_ gb (ad 5) (av (aa (aF (aa ae (aa ae (aa (aH bc dI (aH eD dIC ae ae) ae) (aa ae af))))) (aa (aF (aa a7 (aa ae (aa ae (aa ae af))))) (aa (aF (aa ae (aa ae (aa ae (aa (aH bc dI (aH eD dIC ae ae) ae) af))))) af)))))))
  (ag (cb (aI (i:=5) S.nd rfl 'c' (bL b_ gb (ad 5) (av (aa (aF (aa ae (aa ae (aa ae (aa bJ af))))) (aa (aF (aa (aF (aa ae (aa ae af))) (aa ae (aa ae (aa ae af))))) af))))))
  (ag (aI (i:=6) S.nd rfl (Or.inr rfl) (am (bS T) hr T.t_q47 (dG 2 (aq (aH bc dI (aE ax cP rfl T.z_len bd (aa (ad 1) af)) ae) au))))
  (ag (cb (aI (i:=4) S.nd rfl 'c' (bL b_ gb (ad 4) (fN ["_law_one"] [1,6] ⟨rfl,rfl,by decide +kernel,rfl,rfl,(by first | exact trivial | exact ⟨rfl,trivial⟩ | exact ⟨rfl,rfl,trivial⟩ | exact ⟨rfl,rfl,rfl,trivial⟩ | exact ⟨rfl,rfl,rfl,rfl,trivial⟩),rfl⟩ rfl (cq (ad 5)) (cu 0) (fun _ _ _ _=>⟨(bA (i:=0) (show List.Nodup (["_law_one","_law_asks","_law_at"]:List Str) by decide +kernel) rfl 'c'),cN,(bL b_ gb (bL b_ gb (eF (ad 1) f6 (fV (ad 2))) (av (aa (ad 0) af))) (eF (ad 1) (fV (aH bc dI (ad 2) ae)) f6))⟩)))))
  (aj (aN (aJ aA dIx (ad 4) (am (bS T) hr T.t_q47 (dG 2 (aq ae au))) 'f'))))))))))),fun ds q h=>?_⟩
 case hl=>intro ds q h; obtain ⟨c,m,ps,rs,as,rfl,_⟩:=h; rfl
 obtain ⟨c,m,ps,rs,as,rfl,hT,hal,h0,q0⟩:=h
 have hpa:plns (as.map dH)=true:=by have:=jk as; unfold bK at this; rw [pln] at this; exact this
 refine ⟨fun ρ=>∃ ds,ρ=[some (aQ ps rs),some (bK as),some (aL [c,m]),some (.int ((ps.map D.int).length:Int)),some (.lst ds),none,none]∧(∀ d∈ds,li ps.length d=true)∧ds.length=7,?_,?_⟩
 ·refine ⟨⟨by decide,by decide,by decide⟩,?_⟩
  refine ⟨_,rfl,?_,rfl⟩
  intro d hd
  simp only [List.mem_cons,List.not_mem_nil,or_false] at hd
  rcases hd with rfl | rfl | rfl | rfl | rfl | rfl | rfl
  ·rfl
  ·rfl
  ·rfl
  ·rfl
  ·rfl
  ·unfold li; rw [pln,hpa]; rfl
  ·rfl
 rintro ρ ⟨s1,rfl,p1,l1⟩
 refine ⟨fun ρ=>∃ ds,ρ=[some (aQ ps rs),some (bK as),some (aL [c,m]),some (.int ((ps.map D.int).length:Int)),some (.lst s1),some (.lst ds),none]∧jf ps.length ds∧ds.length=7,⟨_,rfl,?_,rfl⟩,?_⟩
 ·exact aY rfl rfl <| aY rfl rfl <| aY rfl rfl <| aY rfl rfl <| aY rfl rfl <| aY rfl (eX (xf rfl)) <| aY rfl (eX (qB (by rw [br]; exact ur))) gg
 rintro ρ ⟨o1,rfl,po,lo⟩
 refine ⟨fun ρ=>∃ ds,ρ=[some (aQ ps rs),some (bK as),some (aL [c,m]),some (.int ((ps.map D.int).length:Int)),some (.lst s1),some (.lst ds),none]∧jf ps.length ds∧ds.length=12,?_,?_⟩
 ·refine ⟨by rw [lo]; decide,?_⟩
  refine ⟨_,rfl,iM po ?_,by rw [List.length_append,lo]; rfl⟩
  exact aY rfl (eX rfl) <| aY rfl (gw rfl) <| aY rfl (gw rfl) <| aY rfl (eX (qB rfl)) <| aY rfl (gw rfl) gg
 clear po lo
 rintro ρ ⟨o2,rfl,po,lo⟩
 refine ⟨fun ρ=>∃ ds,ρ=[some (aQ ps rs),some (bK as),some (aL [c,m]),some (.int ((ps.map D.int).length:Int)),some (.lst s1),some (.lst ds),none]∧jf ps.length ds∧ds.length=15,?_,?_⟩
 ·refine ⟨⟨by decide,by decide,by decide⟩,?_⟩
  refine ⟨⟨by decide,by decide,by decide⟩,?_⟩
  refine ⟨by rw [lo]; decide,?_⟩
  refine ⟨_,rfl,iM po ?_,by rw [List.length_append,lo]; rfl⟩
  exact aY rfl (gw 'q') <| aY rfl (eX rfl) <| aY rfl (gw 'q') gg
 clear po lo
 rintro ρ ⟨o3,rfl,po,lo⟩
 refine ⟨fun ρ=>∃ ds,ρ=[some (aQ ps rs),some (bK as),some (aL [c,m]),some (.int ((ps.map D.int).length:Int)),some (.lst s1),some (.lst ds),none]∧jf ps.length ds∧ds.length=17,?_,?_⟩
 ·refine ⟨by rw [lo]; decide,?_⟩
  refine ⟨_,rfl,iM po ?_,by rw [List.length_append,lo]; rfl⟩
  exact aY rfl (gw rfl) <| aY rfl (eX rfl) gg
 clear po lo
 rintro ρ ⟨o4,rfl,po,lo⟩
 refine ⟨c,m,((as.map dH).length:Int) + 1,rfl,h0,by omega,cK (n:=100) (by rw [eS]; omega) 'q',fun u c2 m2 u0 u1 h2=>?_⟩
 refine ⟨fun ρ=>∃ ds v6,ρ=[some (aQ ps rs),some (bK as),some (aL [c2,m2]),some (.int ((ps.map D.int).length:Int)),some (.lst ds),some (.lst o4),v6]∧(∀ d∈ds,li ps.length d=true)∧ds.length=24,?_,?_⟩
 ·have e1:(eE (as.map dH) none (some u)).length=min u.toNat as.length:=by rw [jM u0,List.length_take,eS]
  have e2:(eE (as.map dH) (some (u + 1)) none).length=as.length - (u + 1).toNat:=by rw [gu 'a',List.length_drop,eS]
  have q1:plns (eE (as.map dH) none (some u))=true:=by rw [jM u0]; exact pD hpa _
  have q2:plns (eE (as.map dH) (some (u + 1)) none)=true:=by rw [gu 'a']; exact pS hpa _
  refine ⟨by rw [lo]; decide,?_⟩
  refine dS (midF (eE (as.map dH) none (some u)) (eE (as.map dH) (some (u + 1)) none)) ?_ ?_
  ·intro d hd k hk
   refine ⟨by rw [e1]; show _ + 1≤1000; omega,?_⟩
   refine ⟨by rw [List.length_append,e1,e2]; show _ + 1 + _≤1000; omega,?_⟩
   exact hk
  ·refine ⟨by rw [List.length_map,l1,lo]; decide,?_⟩
   refine ⟨_,_,rfl,fun d hd=>?_,by rw [List.length_append,List.length_map,l1,lo]⟩
   rcases List.mem_append.mp hd with hd | hd
   ·exact p1 d hd
   obtain ⟨x,hx,rfl⟩:=List.mem_map.mp hd
   have hpx:=po x hx
   exact xr (d:=x) (List.mem_append_left _ (List.mem_append_right _ (.head _))) hpx.2 (lX (lX q1 (aZ.mpr ⟨hpx.1,rfl⟩)) q2)
 rintro ρ ⟨s2,v6,rfl,p2,l2⟩
 refine ⟨c2,m2,24,rfl,h2,by decide,cK (n:=24) 'k' 'q',fun u c3 m3 u0 u1 h3=>?_⟩
 have hu:u.toNat<s2.length:=by omega
 have hat:s2[u.toNat]? = some s2[u.toNat]:=List.getElem?_eq_getElem hu
 have eu:u=((u.toNat:Nat):Int):=by omega
 rw [eu]
 refine bZ (fc hat) ?_
 exact q0 _ _ _ (p2 _ (List.mem_of_getElem? hat)) h3
end
end K49
namespace K49
open PySem L2
section
variable {P:Program} {w:World} {K:PySem.W.Frag} {mg:Str→Option Value} {base:Heap} {A:Adr}
structure Odd (n:Nat) (d:D):Prop where
 p:pln d=true
 a:NoP n d
 b:NoR d
def h_ (n:Nat) (ds:List D):Prop:=∀ d∈ds,Odd n d
theorem h_.app {n:Nat} {a b:List D} (h:h_ n a) (h2:h_ n b):h_ n (a++b):=fun d hd=>(List.mem_append.mp hd).elim (h d) (h2 d)
theorem h_.cons {n:Nat} {d:D} {ds:List D} (h1:Odd n d) (h:h_ n ds):h_ n (d :: ds):=fun x hx=>by
 rcases List.mem_cons.mp hx with rfl | hx
 ·exact h1
 ·exact h x hx
theorem h_.nil {n:Nat}:h_ n []:=fun x hx=>by cases hx
theorem Odd.no {n:Nat} {d:D} (h:pln d=true) (h1:∀ ds,d≠.lst ds):Odd n d:=⟨h,fun ds e=>absurd e (h1 ds),fun ds e=>absurd e (h1 ds)⟩
theorem Odd.rep {n k:Nat} {x:D} (hn : 1≤n) (hx:pln x=true) (hk:k≤100) (ht:k≠n∨txB x=false) (hr:k<3∨61<k∨oA x=false):Odd n (.lst (List.replicate k x)):=by
 refine ⟨by rw [pln]; exact dA fun d hd=>by rw [List.eq_of_mem_replicate hd]; exact hx,fun ds e=>?_,fun ds e h3 h61 d hd=>?_⟩
 ·cases e
  rw [List.length_replicate]
  refine ⟨hk,fun e=>?_⟩
  rcases ht with ht | ht
  ·exact absurd e ht
  ·cases k with
   | zero=>omega
   | succ k=>rw [List.replicate_succ,List.all_cons,ht,Bool.false_and]
 ·cases e
  rw [List.length_replicate] at h3 h61
  rw [List.eq_of_mem_replicate hd]
  rcases hr with hr | hr | hr
  ·omega
  ·omega
  ·exact hr
theorem Odd.repF {n:Nat} {k:Int} {x:D} (hn : 1≤n) (hx:pln x=true) (hk:k.toNat≤100) (ht:k.toNat≠n∨txB x=false) (hr:k.toNat<3∨61<k.toNat∨oA x=false):Odd n (.lst (List.replicate k.toNat [x]).flatten):=by
 rw [lP]; exact Odd.rep hn hx hk ht hr
def uH:SpD:=fun ds q=>∃ (n:Nat) (c m:Int),ds=[.int n,aL [c,m]]∧1≤n∧n≤23∧0≤c∧∀ d c' m',Odd n d→0≤c'→q d [some (aL [c',m'])]
theorem xp (T:Txt K mg A):FnOk P w K mg base CX0 2 A.f_q35 A.d_q35 ["_law_many","_law_source_here"] (bj [false,true] false (uH)):=by
 have S:=wC
 refine fnD T.t_q35.F S ⟨[false,true],[false,true,false],false⟩ _ ?hl rfl rfl fun cdv Ar outer s H E hr=>⟨_,(ag (cb (aI (i:=2) S.nd rfl 'c' (av (aa bJ (aa ci (aa ci (aa ae (aa ae (aa a7 (aa a7 (aa a7 (aa (av af) (aa (aF af) (aa i_ (aa (bL dF jb (av (aa a7 af)) (aH bc dI (ad 0) ae)) af)))))))))))))))
  (ag (cb (aI (i:=2) S.nd rfl 'c' (bL b_ gb (ad 2) (av (aa (tP (aF (aa a7 af)) (ad 0)) (aa (bL dF jb (av (aa bJ af)) (ad 0)) (aa (bL dF jb (av (aa ae af)) (ad 0)) (aa (bL dF jb (av (aa (av (aa a7 af)) af)) (ad 0)) (aa (av (aa (aF (aa ae (aa ae af))) af)) af)))))))))
  (ag (cb (aI (i:=2) S.nd rfl 'c' (bL b_ gb (ad 2) (av (aa (av (aa (aF (aa ae (aa ae af))) (aa (aF (aa ae (aa ae af))) af))) (aa (bL dF jb (av (aa (av (aa ae (aa ae af))) af)) ae) (aa (bL dF jb (av (aa bJ af)) ae) (aa (bL dF jb (av (aa (aF (aa ae (aa ae af))) af)) ae) af))))))))
  (aj (aN (aJ aA dIx (bL b_ gb (ad 2) (av (aa rY af))) (am (bS T) hr T.t_q47 (dG 1 (aq ae au))) 'f')))))),fun ds q h=>?_⟩
 case hl=>intro ds q h; obtain ⟨n,c,m,rfl,_⟩:=h; rfl
 obtain ⟨n,c,m,rfl,n1,n2,h0,q0⟩:=h
 refine ⟨fun ρ=>∃ ds,ρ=[some (.int n),some (aL [c,m]),some (.lst ds)]∧h_ n ds∧ds.length=12,?_,?_⟩
 ·refine ⟨⟨by omega,by omega,by simp; omega⟩,?_⟩
  refine ⟨_,rfl,?_,rfl⟩
  have no:∀ {d:D},pln d=true→(∀ ds,d≠.lst ds)→Odd n d:=fun h h1=>.no h h1
  exact .cons (no rfl (by intro _ h; cases h)) <| .cons (no rfl (by intro _ h; cases h)) <| .cons (no rfl (by intro _ h; cases h)) <| .cons (no rfl (by intro _ h; cases h)) <| .cons (no rfl (by intro _ h; cases h)) <| .cons (no rfl (by intro _ h; cases h)) <| .cons (no rfl (by intro _ h; cases h)) <| .cons (no rfl (by intro _ h; cases h)) <|
   .cons (Odd.rep (k:=0) (x:=.non) n1 rfl 'k' (.inl 'a') (.inl 'k')) <| .cons (no rfl (by intro _ h; cases h)) <| .cons (no rfl (by intro _ h; cases h)) <| .cons (Odd.repF n1 rfl 'a' (.inl 'a') (.inr (.inr rfl))) .nil
 rintro ρ ⟨s1,rfl,p1,l1⟩
 refine ⟨fun ρ=>∃ ds,ρ=[some (.int n),some (aL [c,m]),some (.lst ds)]∧h_ n ds∧ds.length=17,?_,?_⟩
 ·refine ⟨fun h=>(by cases h),by omega,by simp; omega,?_⟩
  refine ⟨⟨by omega,by omega,by simp; omega⟩,?_⟩
  refine ⟨⟨by omega,by omega,by simp; omega⟩,?_⟩
  refine ⟨⟨by omega,by omega,by simp; omega⟩,?_⟩
  refine ⟨by rw [l1]; show 12 + 5≤1000; decide,?_⟩
  refine ⟨_,rfl,p1.app ?_,by rw [List.length_append,l1]; rfl⟩
  have et:(List.replicate (n:Int).toNat [D.str "up"]).flatten=List.replicate n (D.str "up"):=by rw [lP,Int.toNat_natCast]
  exact .cons (.no (by rw [et,pln]; exact dA fun d hd=>by rw [List.eq_of_mem_replicate hd]; rfl) (by intro _ h; cases h)) <| .cons (Odd.repF n1 rfl (by omega) (.inr rfl) (.inr (.inr rfl))) <| .cons (Odd.repF n1 rfl (by omega) (.inr rfl) (.inr (.inr rfl))) <| .cons (Odd.repF n1 rfl (by omega) (.inr rfl) (.inr (.inr rfl))) <| .cons (Odd.rep (k:=1) n1 rfl 'k' (.inr rfl) (.inl 'k')) .nil
 rintro ρ ⟨s2,rfl,p2,l2⟩
 refine ⟨fun ρ=>∃ ds,ρ=[some (.int n),some (aL [c,m]),some (.lst ds)]∧h_ n ds∧ds.length=21,?_,?_⟩
 ·refine ⟨⟨by decide,by decide,by decide⟩,?_⟩
  refine ⟨⟨by decide,by decide,by decide⟩,?_⟩
  refine ⟨⟨by decide,by decide,by decide⟩,?_⟩
  refine ⟨by rw [l2]; decide,?_⟩
  refine ⟨_,rfl,p2.app ?_,by rw [List.length_append,l2]; rfl⟩
  exact .cons (Odd.rep (k:=2) n1 rfl 'k' (.inr rfl) (.inl 'k')) <| .cons (Odd.repF n1 rfl 'k' (.inr rfl) (.inr (.inr rfl))) <| .cons (Odd.repF n1 rfl 'k' (.inr rfl) (.inr (.inr rfl))) <| .cons (Odd.repF n1 rfl 'k' (.inr rfl) (.inr (.inl 'k'))) .nil
 rintro ρ ⟨s3,rfl,p3,l3⟩
 refine ⟨by rw [l3]; decide,?_⟩
 refine ⟨c,m,22,rfl,h0,by decide,cK (n:=22) 'k' 'q',fun u c2 m2 u0 u1 h2=>?_⟩
 have p4:=p3.app (.cons (.no (d:=.dct) rfl (by intro _ h; cases h)) .nil)
 have l4:(s3++[D.dct]).length=22:=by rw [List.length_append,l3]; rfl
 have hu:u.toNat<(s3++[D.dct]).length:=by omega
 have hat:(s3++[D.dct])[u.toNat]? = some (s3++[D.dct])[u.toNat]:=List.getElem?_eq_getElem hu
 have eu:u=((u.toNat:Nat):Int):=by omega
 rw [eu]
 refine bZ (fc hat) ?_
 exact q0 _ _ _ (p4 _ (List.mem_of_getElem? hat)) h2
end
end K49
namespace K49
open PySem L2
section
variable {P:Program} {w:World} {K:PySem.W.Frag} {mg:Str→Option Value} {base:Heap} {A:Adr}
def uK (cT cA:Addr):SpX:=fun ds q qx=>∃ door t x y,ds=[.int door,t,x,y]∧((∃ p n,pln t=true∧bD t=some (p,n)∧qx cT iH [.str p,n] []) ∨
 ∃ ps rs,t=aQ ps rs∧Tree ps rs∧pln x=true∧((∃ n,bV ps.length x=some n∧qx cA kW [n] []) ∨
  ∃ as,x=bK as∧AsksOk ps as∧Odd ps.length y∧q (.bl false) []))
theorem pt_in {s:String} (h:s = "pointed" ∨ s = "ring"):inD (.str (Str.ofString s)) [.str "pointed",.str "ring"]=true:=by
 rcases h with rfl | rfl <;> decide +kernel
theorem uA (T:Txt K mg A):FnOk P w K mg base (CX1 P w) 11 A.f_q45 A.d_q45 ["_law_door","_law_tree_here","_law_asks","_law_thing_here"] (cZ [false,false,false,false] false ((uK A.c_q42 A.c_q38))):=by
 have S:=xu
 refine fnX T.t_q45.F S ⟨[false,false,false,false],[false,false,false,false],false⟩ _ ?hl rfl rfl fun cdv Ar outer s H E hr=>⟨_,(aK (iO (bh (eO hr.units) dEq (ad 0) ae (a9 _)) (bi (ni (ck (vT T) hr T.t_q8 (aq (ad 1) (aq (ad 2) (aq (ad 3) au)))))) eh)
  (aK (iO (bh (eO hr.units) dEq (ad 0) ae (a9 _)) (bi (ni (ck (tW T) hr T.t_q33 (aq (ad 1) (aq (ad 2) (aq (ad 3) au)))))) eh)
  (bi (ni (uR (fun _ _=>j5) dIn (xK (fun _ _=>aA) dIx (QXF.qe (pX (tJ T) hr T.t_q36 (aq (ad 1) (aq (ad 2) au)))) ae 'f') (aF (aa a7 (aa a7 af))) rfl))))),fun ds q qx h=>?_⟩
 case hl=>intro ds q qx h; obtain ⟨door,t,x,y,rfl,_⟩:=h; rfl
 obtain ⟨door,t,x,y,rfl,h⟩:=h
 have odd:∀ ok:Nat→D→Prop,(∀ n d,Odd n d→ok n d)→nk A.c_q42 A.c_q38 ok [t,x,y] q qx:=fun ok hok=>by
  refine ⟨t,x,y,rfl,?_⟩
  rcases h with h | ⟨ps,rs,rfl,hT,hx,h⟩
  ·exact .inl h
  refine .inr ⟨ps,rs,rfl,hT,hx,?_⟩
  rcases h with h | ⟨as,rfl,ha,ho,q0⟩
  ·exact .inl h
  exact .inr ⟨as,rfl,ha,ho.p,hok _ _ ho,q0⟩
 refine (cI (c:=decide (door=0)=true) (fun c=>?_) (fun c=>?_))
 ·exact odd NoP fun n d h=>h.a
 refine (cI (c:=decide (door=1)=true) (fun c=>?_) (fun c=>?_))
 ·exact odd (fun _=>NoR) fun n d h=>h.b
 refine ⟨t,x,rfl,?_⟩
 rcases h with h | ⟨ps,rs,rfl,hT,hx,h⟩
 ·exact .inl h
 refine .inr ⟨ps,rs,rfl,hT,hx,?_⟩
 rcases h with h | ⟨as,rfl,ha,ho,q0⟩
 ·exact .inl h
 refine .inr ⟨as,rfl,ha,fun s d hs=>?_⟩
 refine ⟨rfl,rfl,?_⟩
 have e:=pt_in hs
 show q (.bl (if true=true then !inD (.str (Str.ofString s)) [.str "pointed",.str "ring"] else _)) []
 rw [e]; exact q0
def OutD (t x y v:D):Prop:=(∃ p n,pln t=true∧bD t=some (p,n)∧v = .lst [.non,.str "tree"]) ∨
 ∃ ps rs,t=aQ ps rs∧Tree ps rs∧pln x=true∧((∃ n,bV ps.length x=some n∧v = .lst [.non,.str "asks"]) ∨
  ∃ as,x=bK as∧AsksOk ps as∧Odd ps.length y∧v = .lst [.bl false,.str "thing"])
def w6:SpD:=fun ds q=>∃ door t x y v,ds=[.int door,t,x,y]∧OutD t x y v∧q v []
theorem wG (T:Txt K mg A):FnOk P w K mg base CX0 12 A.f_q49 A.d_q49 ["_law_door","_law_tree_here","_law_asks","_law_thing_here"] (bj [false,false,false,false] true (w6)):=by
 have S:=xw
 refine fnT T.t_q49.F S ⟨[false,false,false,false],[false,false,false,false,false,false,false],true⟩ _ ?hl rfl rfl fun cdv Ar outer s H E hr=>⟨_,(aK (bQ (aI (i:=4) S.nd rfl 'c' bJ))
  (aK (bQ (aI (i:=5) S.nd rfl 'c' bJ))
  (aK (xg (yg (i:=6) S.nd rfl rfl rfl T.m_q20 T.x_q20 (bi (wU (i:=5) S.nd rfl 'c' (ck (uA T) hr T.t_q45 (aq (ad 0) (aq (ad 1) (aq (ad 2) (aq (ad 3) au))))))) (fun _=>(aj (aI (i:=4) S.nd rfl 'c' (ad 6))))))
  (aK (bQ (bn (bh sH dIsN (ad 4) bJ (a9 _)) (aj (bW (QF.qm (fA (aa (ad 5) (aa a7 af)))))) aR))
  (bi (bQ (bW (QF.qm (fA (aa bJ (aa (am (yf T) hr T.t_q48 (aq (ad 4) au)) af))))))))))),fun ds q h=>?_⟩
 case hl=>intro ds q h; obtain ⟨door,t,x,y,v,rfl,_⟩:=h; rfl
 obtain ⟨door,t,x,y,v,rfl,ho,q0⟩:=h
 have ct:gv K A.c_q20 (.ref A.c_q42):=⟨A.c_q42,_,_,rfl,T.x_q42,by simp⟩
 have ca:gv K A.c_q20 (.ref A.c_q38):=⟨A.c_q38,_,_,rfl,T.x_q38,by simp⟩
 refine ⟨fun ρ=>∃ k f e,ρ=[some (.int door),some t,some x,some y,some k,some f,e]∧((k = .non∧v = .lst [f,.str "thing"]∧imm f=true)∨(∃ p n,k=iL A.c_q42 iH [.str p,n]∧v = .lst [.non,.str "tree"])∨∃ n,k=iL A.c_q38 kW [n]∧v = .lst [.non,.str "asks"]),?_,?_⟩
 ·refine ⟨door,t,x,y,rfl,?_⟩
  rcases ho with ⟨p,n,ht,he,rfl⟩ | ⟨ps,rs,rfl,hT,hx,ho⟩
  ·exact .inl ⟨p,n,ht,he,ct,fun _=>⟨_,_,_,rfl,.inr (.inl ⟨p,n,rfl,rfl⟩)⟩⟩
  refine .inr ⟨ps,rs,rfl,hT,hx,?_⟩
  rcases ho with ⟨n,hn,rfl⟩ | ⟨as,rfl,ha,hod,rfl⟩
  ·exact .inl ⟨n,hn,ca,fun _=>⟨_,_,_,rfl,.inr (.inr ⟨n,rfl,rfl⟩)⟩⟩
  exact .inr ⟨as,rfl,ha,hod,⟨_,_,_,rfl,.inl ⟨rfl,rfl,rfl⟩⟩⟩
 rintro ρ ⟨k,f,e,rfl,h⟩
 rcases h with ⟨rfl,rfl,hf⟩ | ⟨p,n,rfl,rfl⟩ | ⟨n,rfl,rfl⟩
 ·refine ⟨?_,q0⟩
  show (imm f&&(imm (.str "thing")&&true))=true
  rw [hf]; rfl
 ·refine ⟨_,rfl,.inl ⟨p,n,rfl,rfl,q0⟩⟩
 ·exact ⟨_,rfl,.inr ⟨n,rfl,rfl,q0⟩⟩
end
end K49
namespace K49
open PySem L2
section
variable {P:Program} {w:World} {K:PySem.W.Frag} {mg:Str→Option Value} {base:Heap} {A:Adr}
theorem vp {a b:D} {q:D→Prop} (c:Bool) (h:q (if c=true then b else a)):atD [a,b] (if c=true then 1 else 0) q:=by
 cases c <;> exact h
structure DueOk (n:Nat) (t x due:D):Prop where
 o:∀ y,Odd n y→OutD t x y due
 l:cG 1 due=true
 s:∃ ds,due = .lst ds
theorem wM (T:Txt K mg A):FnOk P w K mg base CX0 13 A.f_law A.d_law ["_law_script"] (bj [false] false (qO K)):=by
 have S:=xY
 refine fnD T.t_law.F S ⟨[false],[false,false,false,false,true,false,false,false,false,false],false⟩ _ ?hl rfl rfl fun cdv Ar outer s H E hr=>⟨_,(ag (aI (i:=1) S.nd rfl 'c' (QF.qe (bC (xU T) hr T.t_q50 (qk_t (bC (l_ T) hr T.t_q27 (aq (am (mW T) hr T.t_q46 (aq (ad 0) (aq ae au))) (aq ae au))) (aq ae au)))))
  (lG (i:=2) S.nd rfl 'c' (qH af)
  (o7 (x_ PassesOwn.never rfl (j:=3) S.nd rfl 'c' (jI rfl T.z_range (aa ae (aa (aE (gK rfl) dMin rfl T.z_min nj (aa (aE ax cP rfl T.z_len bd (aa (ad 0) af)) (aa ae af))) af))) (kN (ue (j:=4) S.nd rfl (Or.inr rfl) (bC (l_ T) hr T.t_q27 (aq (am (mW T) hr T.t_q46 (aq (ad 0) (aq (ad 3) au))) (aq (ad 3) au)))) (kN (jB rfl (am (yp T) hr T.t_q55 (dG 4 (aq (aE ax cP rfl T.z_len bd (aa (aJ aA dIx (ad 1) ae 'f') af)) (aq (av (aa ae (aa (aH eD dIC ae ae) af))) (aq (av (aa ae (aa (aH eD dIC ae ae) af))) au)))))) uT)))
  (qV (ag (cH PassesOwn.never rfl (jI rfl T.z_range (aa ae (aa (aE (jz rfl) dMax rfl T.z_max rN (aa ae (aa (aE (gK rfl) dMin rfl T.z_min nj (aa (aE ax cP rfl T.z_len bd (aa (ad 0) af)) (aa ae af))) af))) af))) (aD (i:=3) S.nd rfl 'c') (ag (dC (i:=4) S.nd rfl (Or.inr rfl) (bC (l_ T) hr T.t_q27 (aq (am (mW T) hr T.t_q46 (aq (ad 0) (aq (ad 3) au))) (aq (aH bc dI ae (ad 3)) au))))
  (ag (lR (i:=5) ["_law_turn"] [4] 4 1 ⟨rfl,rfl,by decide +kernel,rfl,rfl,(by first | exact trivial | exact ⟨rfl,trivial⟩ | exact ⟨rfl,rfl,trivial⟩ | exact ⟨rfl,rfl,rfl,trivial⟩ | exact ⟨rfl,rfl,rfl,rfl,trivial⟩),rfl⟩ rfl S.nd rfl 'c' (fi rfl T.z_range (aa ae af)) (lj 0) (fun _ _ _ _=>⟨(bA (i:=0) (show List.Nodup (["_law_turn","_law_source_here"]:List Str) by decide +kernel) rfl 'c'),cN,(fD (eO hr.units) dEq (am (bS T) hr T.t_q47 (dG 1 (aq ae au))) ae (a9 _))⟩))
  (lG (i:=6) S.nd rfl 'c' (qH (aa (aJ aA dIx (av (aa (ad 1) (aa (am (vW T) hr T.t_q15 (dG 4 au)) af))) (gQ gJ ql rfl T.z_int jW (aa (aJ aA dIx (ad 5) ae 'f') af)) 'f') af))
  (o7 (jB rfl (aJ aA dIx (av (aa (ad 2) (aa (am (yn T) hr T.t_q14 (aq (ad 1) (aq (ad 2) (dG 4 au)))) af))) (gQ gJ ql rfl T.z_int jW (aa (aJ aA dIx (ad 5) ae 'f') af)) 'f'))
  (qV (ag (aI (i:=7) S.nd rfl 'c' (av (aa ci (aa a7 af))))
  (ag (cb (bn (QW.qt (f7 (a6 (aJ aA dIx (ad 5) ae 'f')) (d8 (a6 (aJ aA dIx (ad 5) ae 'f'))))) (aj (aI (i:=7) S.nd rfl 'c' (av (aa bJ (aa (aJ aA dIx (av (aa a7 (aa a7 af))) (gQ gJ ql rfl T.z_int jW (aa (aJ aA dIx (ad 5) ae 'f') af)) 'f') af))))) aR))
  (ag (aI (i:=8) S.nd rfl 'c' (am (xp T) hr T.t_q35 (aq (aE ax cP rfl T.z_len bd (aa (aJ aA dIx (ad 1) ae 'f') af)) (dG 4 au))))
  (aj (cH PassesOwn.never rfl (fi rfl T.z_range (aa ae af)) (aD (i:=9) S.nd rfl 'c') (aj (bn (bh (dJ hr.units) dNe (QF.qe (bC (wG T) hr T.t_q49 (aq (ad 9) (aq (aJ aA dIx (ad 6) ae 'f') (aq (aJ aA dIx (ad 6) ae 'f') (aq (ad 8) au)))))) (ad 7) (a9 _)) (aj (aN ci)) aR)))))))))))))
  (aj (aN ci))))))),fun ds q h=>?_⟩
 case hl=>intro ds q h; obtain ⟨φ,ns,rfl,_⟩:=h; rfl
 obtain ⟨φ,ns,rfl,hφ,hl,q0⟩:=h
 refine ⟨φ,ns,0,rfl,hφ,by decide,?_⟩
 refine ⟨_,0,rfl,by decide,by decide,fun c m h0=>?_⟩
 refine ⟨c,m,9,rfl,h0,by decide,by decide,fun ps rs c1 m1 hT hle h1=>?_⟩
 have hi:=hT.hi
 have hlo:=hT.lo
 refine ⟨by show 2<10; decide,?_⟩
 refine ⟨hφ,?_⟩
 refine ⟨⟨by decide,by decide,by split <;> omega,by split <;> omega⟩,?_⟩
 refine ⟨fun i ds ρ=>∃ (as:List Ask) (v3 v4:Option D),ds=as.map dH∧ρ=[some (.scr φ ns),some (aQ ps rs),none,v3,v4,none,none,none,none,none]∧as.length=i∧(∀ a∈as,AskOk ps a),⟨[],_,_,rfl,rfl,rfl,fun a h=>by cases h⟩,?_,?_⟩
 ·rintro i d ds ρ hd ⟨as,v4,v5,rfl,rfl,la,hok⟩
  obtain ⟨hi2,rfl⟩:=d5 hd
  have hi3:i<30:=by revert hi2; split <;> omega
  refine ⟨φ,ns,2 + (i:Int),rfl,hφ,by omega,?_⟩
  refine ⟨_,2 + (i:Int),rfl,by omega,by omega,fun c2 m2 h2=>?_⟩
  refine ⟨⟨by decide,by decide,by decide⟩,⟨by decide,by decide,by decide⟩,?_⟩
  refine ⟨c2,m2,ps,rs,((ps.map D.int).length:Int),[1,10 ^ Int.toNat 6],[9,10 ^ Int.toNat 12],rfl,h2,hT,by rw [br],by decide,by decide,by decide,by decide,by decide,by decide,fun a c3 m3 ha h3=>?_⟩
  refine ⟨by rw [eS]; omega,?_⟩
  refine ⟨as++[a],_,_,by rw [List.map_append]; rfl,rfl,by rw [List.length_append,la]; rfl,fun b hb=>?_⟩
  rcases List.mem_append.mp hb with hb | hb
  ·exact hok b hb
  ·have:b=a:=List.mem_singleton.mp hb
   subst this; exact ha
 rintro ds ρ ⟨as,v4,v5,rfl,rfl,la,hok⟩
 rw [cF] at la
 have ha:AsksOk ps as:=⟨by revert la; split <;> omega,hok⟩
 have hal:=ha.len
 refine ⟨hφ,?_⟩
 refine ⟨⟨by decide,by decide,by split <;> split <;> omega,by split <;> split <;> omega⟩,?_⟩
 refine ⟨fun i ρ=>∃ v3 v4 v5 v6 v7 v8 v9,ρ=[some (.scr φ ns),some (aQ ps rs),some (bK as),v3,v4,v5,v6,v7,v8,v9],⟨_,_,_,_,_,_,_,rfl⟩,?_,?_⟩
 rotate_left
 ·rintro ρ ⟨v3,v4,v5,v6,v7,v8,v9,rfl⟩
  exact q0
 rintro i d ρ hd ⟨v3,v4,v5,v6,v7,v8,v9,rfl⟩
 obtain ⟨hi2,rfl⟩:=d5 hd
 refine ⟨φ,ns,1 + (i:Int),rfl,hφ,by omega,?_⟩
 refine ⟨_,1000 + (1 + (i:Int)),rfl,by omega,by revert hi2; split <;> split <;> omega,fun c2 m2 h2=>?_⟩
 refine ⟨⟨by decide,by decide⟩,?_⟩
 refine ⟨by rw [cF]; decide,?_⟩
 refine ⟨fun i es d=>∃ (bs:List Bool) (c m:Int),es=bs.map D.bl∧d=aL [c,m]∧0≤c∧bs.length=i,⟨[],c2,m2,rfl,rfl,h2,rfl⟩,?_,?_⟩
 ·rintro j x es d hx ⟨bs,c5,m5,rfl,rfl,h5,lb⟩
  refine ⟨c5,m5,2,rfl,h5,by decide,cK (n:=2) 'k' 'q',fun u c6 m6 u0 u1 h6=>?_⟩
  exact ⟨bs++[decide (u=1)],c6,m6,(List.map_append (l₂:=[decide (u=1)])).symm,rfl,h6,by rw [List.length_append,lb]; rfl⟩
 rintro es d ⟨bs,c5,m5,rfl,rfl,h5,lb⟩
 obtain ⟨b0,b1,rfl⟩:∃ b0 b1,bs=[b0,b1]:=by
  have lb:bs.length=2:=lb
  match bs,lb with
  | [a,b],_=>exact ⟨a,b,rfl⟩
 refine ⟨rfl,?_⟩
 refine ⟨c5,m5,rfl,h5,fun dt c6 m6 hdt het h6=>?_⟩
 refine vp b0 ?_
 obtain ⟨t,ht⟩:∃ t,t=if b0=true then dt else aQ ps rs:=⟨_,rfl⟩
 rw [← ht]
 refine ⟨by show 6<10; decide,?_⟩
 refine ⟨c6,m6,ps,rs,as,rfl,hT,hal,h6,fun dx c7 m7 hdx h7=>?_⟩
 refine vp b1 ?_
 obtain ⟨x,hx⟩:∃ x,x=if b1=true then dx else bK as:=⟨_,rfl⟩
 rw [← hx]
 refine ⟨by show 1<1000; decide,?_⟩
 refine ⟨fun ρ=>∃ due,ρ=[some (.scr φ ns),some (aQ ps rs),some (bK as),some (.int (1 + (i:Int))),some (aL [c7,m7]),some (.lst [.bl b0,.bl b1]),some (.lst [t,x]),some due,v8,v9]∧DueOk ps.length t x due,?_,?_⟩
 ·cases b0 with
  | true =>
   subst ht
   obtain ⟨p,n,he⟩:=het
   exact ⟨_,rfl,fun y hy=>.inl ⟨p,n,hdt,he,rfl⟩,by decide +kernel,_,rfl⟩
  | false =>
   subst ht
   cases b1 with
   | true =>
    subst hx
    obtain ⟨px,n,hn⟩:=va hdx
    exact ⟨_,rfl,fun y hy=>.inr ⟨ps,rs,rfl,hT,px,.inl ⟨n,hn,rfl⟩⟩,by decide +kernel,_,rfl⟩
   | false =>
    subst hx
    exact ⟨_,rfl,fun y hy=>.inr ⟨ps,rs,rfl,hT,jk as,.inr ⟨as,rfl,ha,hy,rfl⟩⟩,by decide +kernel,_,rfl⟩
 rintro ρ ⟨due,rfl,hdue⟩
 refine ⟨ps.length,c7,m7,by rw [br],hlo,hi,h7,fun y c8 m8 hy h8=>?_⟩
 obtain ⟨du,rfl⟩:=hdue.s
 have ho:=hdue.o y hy
 have hv:=hdue.l
 refine ⟨⟨by decide,by decide⟩,?_⟩
 refine ⟨fun j ρ=>∃ v9,ρ=[some (.scr φ ns),some (aQ ps rs),some (bK as),some (.int (1 + (i:Int))),some (aL [c8,m8]),some (.lst [.bl b0,.bl b1]),some (.lst [t,x]),some (.lst du),some y,v9],⟨_,rfl⟩,?_,?_⟩
 ·rintro j d ρ hd ⟨v9,rfl⟩
  obtain ⟨hj,rfl⟩:=d5 hd
  refine ⟨_,t,x,y,_,rfl,ho,?_⟩
  refine ⟨iB hv 'k',iB hv 'k',?_⟩
  refine (cI (c:=(!eqD (.lst du) (.lst du))=true) (fun c=>?_) (fun _=>⟨_,rfl⟩))
  rw [gH 1 _ hv] at c; cases c
 ·rintro ρ ⟨v9,rfl⟩
  exact ⟨_,_,_,_,_,_,_,rfl⟩
end
end K49
namespace K49
open PySem L2
theorem fH {us:List Value} {n:Nat} (h:us.length=n + 1):∃ a r,us=a :: r∧r.length=n:=by
 cases us with
 | nil=>cases h
 | cons a r=>exact ⟨a,r,rfl,Nat.succ.inj h⟩
theorem us1 {fd:FuncData} {ps:List Str} (h:∀ a0,bindArgs fd ⟨[a0],[]⟩=pure (ps.zip [a0])):∀ us:List Value,us.length=1→bindArgs fd ⟨us,[]⟩=pure (ps.zip us):=fun us hl=>by
 obtain ⟨a0,u0,rfl,h0⟩:=fH hl
 cases List.eq_nil_of_length_eq_zero h0
 exact h a0
theorem us2 {fd:FuncData} {ps:List Str} (h:∀ a0 a1,bindArgs fd ⟨[a0,a1],[]⟩=pure (ps.zip [a0,a1])):∀ us:List Value,us.length=2→bindArgs fd ⟨us,[]⟩=pure (ps.zip us):=fun us hl=>by
 obtain ⟨a0,u0,rfl,h0⟩:=fH hl
 obtain ⟨a1,u1,rfl,h1⟩:=fH h0
 cases List.eq_nil_of_length_eq_zero h1
 exact h a0 a1
theorem us3 {fd:FuncData} {ps:List Str} (h:∀ a0 a1 a2,bindArgs fd ⟨[a0,a1,a2],[]⟩=pure (ps.zip [a0,a1,a2])):∀ us:List Value,us.length=3→bindArgs fd ⟨us,[]⟩=pure (ps.zip us):=fun us hl=>by
 obtain ⟨a0,u0,rfl,h0⟩:=fH hl
 obtain ⟨a1,u1,rfl,h1⟩:=fH h0
 obtain ⟨a2,u2,rfl,h2⟩:=fH h1
 cases List.eq_nil_of_length_eq_zero h2
 exact h a0 a1 a2
theorem us4 {fd:FuncData} {ps:List Str} (h:∀ a0 a1 a2 a3,bindArgs fd ⟨[a0,a1,a2,a3],[]⟩=pure (ps.zip [a0,a1,a2,a3])):∀ us:List Value,us.length=4→bindArgs fd ⟨us,[]⟩=pure (ps.zip us):=fun us hl=>by
 obtain ⟨a0,u0,rfl,h0⟩:=fH hl
 obtain ⟨a1,u1,rfl,h1⟩:=fH h0
 obtain ⟨a2,u2,rfl,h2⟩:=fH h1
 obtain ⟨a3,u3,rfl,h3⟩:=fH h2
 cases List.eq_nil_of_length_eq_zero h3
 exact h a0 a1 a2 a3
theorem us5 {fd:FuncData} {ps:List Str} (h:∀ a0 a1 a2 a3 a4,bindArgs fd ⟨[a0,a1,a2,a3,a4],[]⟩=pure (ps.zip [a0,a1,a2,a3,a4])):∀ us:List Value,us.length=5→bindArgs fd ⟨us,[]⟩=pure (ps.zip us):=fun us hl=>by
 obtain ⟨a0,u0,rfl,h0⟩:=fH hl
 obtain ⟨a1,u1,rfl,h1⟩:=fH h0
 obtain ⟨a2,u2,rfl,h2⟩:=fH h1
 obtain ⟨a3,u3,rfl,h3⟩:=fH h2
 obtain ⟨a4,u4,rfl,h4⟩:=fH h3
 cases List.eq_nil_of_length_eq_zero h4
 exact h a0 a1 a2 a3 a4
theorem all_mk {l:PySem.W.OpenLaw} {w:World} {K:PySem.W.Frag} {h:Heap} {mg:Str→Option Value} {fa:Addr} (X:K.In h) (G:h.Ns mainGlobals mg) (hfa:mg "law" = some (.ref fa))
 {f_q26:Addr} {d_q26:FuncData} (h_q26:FH K "is_whole" ra f_q26 d_q26)
 {f_q13:Addr} {d_q13:FuncData} (h_q13:FH K "is_between" r9 f_q13 d_q13)
 {f_q1:Addr} {d_q1:FuncData} (h_q1:FH K "has_two_lists" s_q1 f_q1 d_q1)
 {f_q4:Addr} {d_q4:FuncData} (h_q4:FH K "look_at_tree" s_q4 f_q4 d_q4)
 {f_q25:Addr} {d_q25:FuncData} (h_q25:FH K "is_place" sZ f_q25 d_q25)
 {f_q44:Addr} {d_q44:FuncData} (h_q44:FH K "is_tie" qQ f_q44 d_q44)
 {f_q24:Addr} {d_q24:FuncData} (h_q24:FH K "are_ends" q8 f_q24 d_q24)
 {f_q43:Addr} {d_q43:FuncData} (h_q43:FH K "is_ask" rj f_q43 d_q43)
 {f_q2:Addr} {d_q2:FuncData} (h_q2:FH K "look_at_asks" s_q2 f_q2 d_q2)
 {f_q3:Addr} {d_q3:FuncData} (h_q3:FH K "look_at_ends" s_q3 f_q3 d_q3)
 {f_q54:Addr} {d_q54:FuncData} (h_q54:FH K "climb" qP f_q54 d_q54)
 {f_q9:Addr} {d_q9:FuncData} (h_q9:FH K "way_between" s_q9 f_q9 d_q9)
 {f_q51:Addr} {d_q51:FuncData} (h_q51:FH K "way_of" rl f_q51 d_q51)
 {f_q16:Addr} {d_q16:FuncData} (h_q16:FH K "meeting_of" rD f_q16 d_q16)
 {f_q0:Addr} {d_q0:FuncData} (h_q0:FH K "climbed_between" s_q0 f_q0 d_q0)
 {f_q12:Addr} {d_q12:FuncData} (h_q12:FH K "is_beneath" rc f_q12 d_q12)
 {f_q34:Addr} {d_q34:FuncData} (h_q34:FH K "is_text" qX f_q34 d_q34)
 {f_q53:Addr} {d_q53:FuncData} (h_q53:FH K "along" rL f_q53 d_q53)
 {f_q6:Addr} {d_q6:FuncData} (h_q6:FH K "runs_one_way" s_q6 f_q6 d_q6)
 {f_q8:Addr} {d_q8:FuncData} (h_q8:FH K "is_pointing" s_q8 f_q8 d_q8)
 {f_q18:Addr} {d_q18:FuncData} (h_q18:FH K "are_apart" sO f_q18 d_q18)
 {f_q32:Addr} {d_q32:FuncData} (h_q32:FH K "is_link" sF f_q32 d_q32)
 {f_q11:Addr} {d_q11:FuncData} (h_q11:FH K "are_joined" qv f_q11 d_q11)
 {f_q33:Addr} {d_q33:FuncData} (h_q33:FH K "is_ring" qR f_q33 d_q33)
 {f_q28:Addr} {d_q28:FuncData} (h_q28:FH K "links_of" rO f_q28 d_q28)
 {f_q17:Addr} {d_q17:FuncData} (h_q17:FH K "reach_from" qh f_q17 d_q17)
 {f_q19:Addr} {d_q19:FuncData} (h_q19:FH K "path_back" qD f_q19 d_q19)
 {f_q37:Addr} {d_q37:FuncData} (h_q37:FH K "text_of" rK f_q37 d_q37)
 {f_q5:Addr} {d_q5:FuncData} (h_q5:FH K "ring_through" s_q5 f_q5 d_q5)
 {f_q7:Addr} {d_q7:FuncData} (h_q7:FH K "first_clash" s_q7 f_q7 d_q7)
 {f_q36:Addr} {d_q36:FuncData} (h_q36:FH K "pointed" rT f_q36 d_q36)
 {f_q46:Addr} {d_q46:FuncData} (h_q46:FH K "_law_cell" sm f_q46 d_q46)
 {f_q27:Addr} {d_q27:FuncData} (h_q27:FH K "_law_source" rB f_q27 d_q27)
 {f_q47:Addr} {d_q47:FuncData} (h_q47:FH K "_law_draw" sk f_q47 d_q47)
 {f_q50:Addr} {d_q50:FuncData} (h_q50:FH K "_law_tree" tz f_q50 d_q50)
 {f_q55:Addr} {d_q55:FuncData} (h_q55:FH K "_law_ask" rA f_q55 d_q55)
 {f_q48:Addr} {d_q48:FuncData} (h_q48:FH K "_law_kind" qq f_q48 d_q48)
 {f_q15:Addr} {d_q15:FuncData} (h_q15:FH K "_law_bad_tree" rW f_q15 d_q15)
 {f_q14:Addr} {d_q14:FuncData} (h_q14:FH K "_law_bad_asks" sr f_q14 d_q14)
 {f_q35:Addr} {d_q35:FuncData} (h_q35:FH K "_law_thing" qd f_q35 d_q35)
 {f_q45:Addr} {d_q45:FuncData} (h_q45:FH K "_law_call" r6 f_q45 d_q45)
 {f_q49:Addr} {d_q49:FuncData} (h_q49:FH K "_law_told" rZ f_q49 d_q49)
 {f_law:Addr} {d_law:FuncData} (h_law:FH K "law" sq f_law d_law)
 {t_MOST_TIES:Tok} (c_MOST_TIES:PySem.W.nsIn K mainGlobals "MOST_TIES" = some (some (.int 23 t_MOST_TIES)))
 {t_MOST_ROOM:Tok} (c_MOST_ROOM:PySem.W.nsIn K mainGlobals "MOST_ROOM" = some (some (.int 1000000 t_MOST_ROOM)))
 {t_MOST_ASKS:Tok} (c_MOST_ASKS:PySem.W.nsIn K mainGlobals "MOST_ASKS" = some (some (.int 30 t_MOST_ASKS)))
 {t_MOST_SIZE:Tok} (c_MOST_SIZE:PySem.W.nsIn K mainGlobals "MOST_SIZE" = some (some (.int 1000000 t_MOST_SIZE)))
 {t_MOST_WORTH:Tok} (c_MOST_WORTH:PySem.W.nsIn K mainGlobals "MOST_WORTH" = some (some (.int 1000000000000 t_MOST_WORTH)))
 {t_LEAST_RING:Tok} (c_LEAST_RING:PySem.W.nsIn K mainGlobals "LEAST_RING" = some (some (.int 3 t_LEAST_RING)))
 {t_MOST_RING:Tok} (c_MOST_RING:PySem.W.nsIn K mainGlobals "MOST_RING" = some (some (.int 61 t_MOST_RING)))
 {g_TEXTS:Addr} {gd_TEXTS:Option Addr} {gs_TEXTS:Array (Option Value)} {gn_TEXTS:Nat} {gt_TEXTS_0 gt_TEXTS_1:Tok} (a_TEXTS:PySem.W.nsIn K mainGlobals "TEXTS" = some (some (.ref g_TEXTS))) (l_TEXTS:K.lookup g_TEXTS=some ⟨.type "tuple",gd_TEXTS,.seq #[.str "up" gt_TEXTS_0,.str "down" gt_TEXTS_1] gn_TEXTS,gs_TEXTS⟩)
 (z_ValueError:PySem.W.nsIn K mainGlobals "ValueError" = some none)
 (z_abs:PySem.W.nsIn K mainGlobals "abs" = some none)
 (z_all:PySem.W.nsIn K mainGlobals "all" = some none)
 (z_any:PySem.W.nsIn K mainGlobals "any" = some none)
 (z_bool:PySem.W.nsIn K mainGlobals "bool" = some none)
 (z_enumerate:PySem.W.nsIn K mainGlobals "enumerate" = some none)
 (z_int:PySem.W.nsIn K mainGlobals "int" = some none)
 (z_isinstance:PySem.W.nsIn K mainGlobals "isinstance" = some none)
 (z_len:PySem.W.nsIn K mainGlobals "len" = some none)
 (z_list:PySem.W.nsIn K mainGlobals "list" = some none)
 (z_max:PySem.W.nsIn K mainGlobals "max" = some none)
 (z_min:PySem.W.nsIn K mainGlobals "min" = some none)
 (z_range:PySem.W.nsIn K mainGlobals "range" = some none)
 (z_reversed:PySem.W.nsIn K mainGlobals "reversed" = some none)
 (z_sorted:PySem.W.nsIn K mainGlobals "sorted" = some none)
 (z_str:PySem.W.nsIn K mainGlobals "str" = some none)
 (z_tuple:PySem.W.nsIn K mainGlobals "tuple" = some none)
 (z_zip:PySem.W.nsIn K mainGlobals "zip" = some none)
 {c_q20 ns_q20:Addr} (l_q20:CF K "AskError" c_q20 bmV ns_q20)
 {c_q38 ns_q38:Addr} (l_q38:CF K "NoAsks" c_q38 ([.ref c_q20]++bmV) ns_q38)
 {c_q21 ns_q21:Addr} (l_q21:CF K "NoChange" c_q21 ([.ref c_q20]++bmV) ns_q21)
 {c_q39 ns_q39:Addr} (l_q39:CF K "NoKeep" c_q39 ([.ref c_q20]++bmV) ns_q39)
 {c_q40 ns_q40:Addr} (l_q40:CF K "NoName" c_q40 ([.ref c_q20]++bmV) ns_q40)
 {c_q22 ns_q22:Addr} (l_q22:CF K "NoNumber" c_q22 ([.ref c_q20]++bmV) ns_q22)
 {c_q29 ns_q29:Addr} (l_q29:CF K "NoPlace" c_q29 ([.ref c_q20]++bmV) ns_q29)
 {c_q10 ns_q10:Addr} (l_q10:CF K "NoPointing" c_q10 ([.ref c_q20]++bmV) ns_q10)
 {c_q23 ns_q23:Addr} (l_q23:CF K "NoPrices" c_q23 ([.ref c_q20]++bmV) ns_q23)
 {c_q52 ns_q52:Addr} (l_q52:CF K "NoRow" c_q52 ([.ref c_q20]++bmV) ns_q52)
 {c_q30 ns_q30:Addr} (l_q30:CF K "NoShare" c_q30 ([.ref c_q20]++bmV) ns_q30)
 {c_q41 ns_q41:Addr} (l_q41:CF K "NoText" c_q41 ([.ref c_q20]++bmV) ns_q41)
 {c_q42 ns_q42:Addr} (l_q42:CF K "NoTree" c_q42 ([.ref c_q20]++bmV) ns_q42)
 {c_q31 ns_q31:Addr} (l_q31:CF K "TooMany" c_q31 ([.ref c_q20]++bmV) ns_q31)
  (n_q20':PySem.W.nsOkIn K ns_q20=true)
  (t_q20:PySem.W.nsIn K ns_q20 "__init__" = some none)
  (n_q38':PySem.W.nsOkIn K ns_q38=true)
 {n_q38:Addr} (t_q38:PySem.W.nsIn K ns_q38 "__init__" = some (some (.ref n_q38)))
  (n_q29':PySem.W.nsOkIn K ns_q29=true)
  (t_q29:PySem.W.nsIn K ns_q29 "__init__" = some none)
  (n_q42':PySem.W.nsOkIn K ns_q42=true)
 {n_q42:Addr} (t_q42:PySem.W.nsIn K ns_q42 "__init__" = some (some (.ref n_q42)))
  (o_q38:eA K c_q38=true)
  (sv_q38:PySem.W.subIn K (.ref c_q38) (.type "ValueError")=some true)
  (s_q38_NoChange:SNo K c_q38 c_q21)
  (s_q38_NoKeep:SNo K c_q38 c_q39)
  (s_q38_NoName:SNo K c_q38 c_q40)
  (s_q38_NoNumber:SNo K c_q38 c_q22)
  (s_q38_NoPlace:SNo K c_q38 c_q29)
  (s_q38_NoPointing:SNo K c_q38 c_q10)
  (s_q38_NoPrices:SNo K c_q38 c_q23)
  (s_q38_NoRow:SNo K c_q38 c_q52)
  (s_q38_NoShare:SNo K c_q38 c_q30)
  (s_q38_NoText:SNo K c_q38 c_q41)
  (s_q38_NoTree:SNo K c_q38 c_q42)
  (s_q38_TooMany:SNo K c_q38 c_q31)
  (o_q29:eA K c_q29=true)
  (sv_q29:PySem.W.subIn K (.ref c_q29) (.type "ValueError")=some true)
  (s_q29_NoAsks:SNo K c_q29 c_q38)
  (s_q29_NoChange:SNo K c_q29 c_q21)
  (s_q29_NoKeep:SNo K c_q29 c_q39)
  (s_q29_NoName:SNo K c_q29 c_q40)
  (s_q29_NoNumber:SNo K c_q29 c_q22)
  (s_q29_NoPointing:SNo K c_q29 c_q10)
  (s_q29_NoPrices:SNo K c_q29 c_q23)
  (s_q29_NoRow:SNo K c_q29 c_q52)
  (s_q29_NoShare:SNo K c_q29 c_q30)
  (s_q29_NoText:SNo K c_q29 c_q41)
  (s_q29_NoTree:SNo K c_q29 c_q42)
  (s_q29_TooMany:SNo K c_q29 c_q31)
  (o_q42:eA K c_q42=true)
  (sv_q42:PySem.W.subIn K (.ref c_q42) (.type "ValueError")=some true)
  (s_q42_NoAsks:SNo K c_q42 c_q38)
  (s_q42_NoChange:SNo K c_q42 c_q21)
  (s_q42_NoKeep:SNo K c_q42 c_q39)
  (s_q42_NoName:SNo K c_q42 c_q40)
  (s_q42_NoNumber:SNo K c_q42 c_q22)
  (s_q42_NoPlace:SNo K c_q42 c_q29)
  (s_q42_NoPointing:SNo K c_q42 c_q10)
  (s_q42_NoPrices:SNo K c_q42 c_q23)
  (s_q42_NoRow:SNo K c_q42 c_q52)
  (s_q42_NoShare:SNo K c_q42 c_q30)
  (s_q42_NoText:SNo K c_q42 c_q41)
  (s_q42_TooMany:SNo K c_q42 c_q31)
 {nd_q38:FuncData} (I_q38:Fun K "__init__" "NoAsks.__init__" (e_ (top 3) 0) n_q38 nd_q38)
  (fi_q38:PySem.W.typeIn K (.ref n_q38)=some (.type "function"))
  (kc_q38:PySem.W.keepIn K (.ref c_q38)=true)
  (sa_q38:PySem.W.findIn K (.ref c_q38) "__setattr__" = some (some (.builtin "object.__setattr__")))
  (at_q38_number:PySem.W.findIn K (.ref c_q38) "number" = some none)
 {nd_q42:FuncData} (I_q42:Fun K "__init__" "NoTree.__init__" (e_ (top 2) 0) n_q42 nd_q42)
  (fi_q42:PySem.W.typeIn K (.ref n_q42)=some (.type "function"))
  (kc_q42:PySem.W.keepIn K (.ref c_q42)=true)
  (sa_q42:PySem.W.findIn K (.ref c_q42) "__setattr__" = some (some (.builtin "object.__setattr__")))
  (at_q42_part:PySem.W.findIn K (.ref c_q42) "part" = some none)
  (at_q42_number:PySem.W.findIn K (.ref c_q42) "number" = some none)
  (rb_q20:BaseIn K c_q20)
   :∃ fd:FuncData,(∀ (s:Shared) (v:Value),BindsTo s fd ⟨[v],[]⟩ [("_law_script",v)])∧∀ base:Heap,K.In base→base.Ns mainGlobals mg→FnOk l.prog w K mg base CX0 13 fa fd ["_law_script"] (oQ K):=by
 have e:=hfa.symm.trans (PySem.W.mg_of X G h_law.a)
 cases e
 have bi_q38:=I_q38.binds (ps:=["self","number"]) fun _ _ _ _ _ _=>us2 fun _ _=>rfl
 have bi_q42:=I_q42.binds (ps:=["self","part","number"]) fun _ _ _ _ _ _=>us3 fun _ _ _=>rfl
 have T:Txt K mg ⟨f_q26,_,f_q13,_,f_q1,_,f_q4,_,f_q25,_,f_q44,_,f_q24,_,f_q43,_,f_q2,_,f_q3,_,f_q54,_,f_q9,_,f_q51,_,f_q16,_,f_q0,_,f_q12,_,f_q34,_,f_q53,_,f_q6,_,f_q8,_,f_q18,_,f_q32,_,f_q11,_,f_q33,_,f_q28,_,f_q17,_,f_q19,_,f_q37,_,f_q5,_,f_q7,_,f_q36,_,f_q46,_,f_q27,_,f_q47,_,f_q50,_,f_q55,_,f_q48,_,f_q15,_,f_q14,_,f_q35,_,f_q45,_,f_q49,_,fa,_,g_TEXTS,c_q20,c_q38,c_q21,c_q39,c_q40,c_q22,c_q29,c_q10,c_q23,c_q52,c_q30,c_q41,c_q42,c_q31,n_q38,n_q42,_,_⟩:=⟨h_q26.ft X G fun _ _ _ _ _ _=>us1 fun _=>rfl,h_q13.ft X G fun _ _ _ _ _ _=>us3 fun _ _ _=>rfl,h_q1.ft X G fun _ _ _ _ _ _=>us1 fun _=>rfl,h_q4.ft X G fun _ _ _ _ _ _=>us1 fun _=>rfl,h_q25.ft X G fun _ _ _ _ _ _=>us2 fun _ _=>rfl,h_q44.ft X G fun _ _ _ _ _ _=>us2 fun _ _=>rfl,h_q24.ft X G fun _ _ _ _ _ _=>us3 fun _ _ _=>rfl,h_q43.ft X G fun _ _ _ _ _ _=>us2 fun _ _=>rfl,h_q2.ft X G fun _ _ _ _ _ _=>us2 fun _ _=>rfl,h_q3.ft X G fun _ _ _ _ _ _=>us3 fun _ _ _=>rfl,h_q54.ft X G fun _ _ _ _ _ _=>us3 fun _ _ _=>rfl,h_q9.ft X G fun _ _ _ _ _ _=>us3 fun _ _ _=>rfl,h_q51.ft X G fun _ _ _ _ _ _=>us2 fun _ _=>rfl,h_q16.ft X G fun _ _ _ _ _ _=>us3 fun _ _ _=>rfl,h_q0.ft X G fun _ _ _ _ _ _=>us3 fun _ _ _=>rfl,h_q12.ft X G fun _ _ _ _ _ _=>us3 fun _ _ _=>rfl,h_q34.ft X G fun _ _ _ _ _ _=>us1 fun _=>rfl,h_q53.ft X G fun _ _ _ _ _ _=>us3 fun _ _ _=>rfl,h_q6.ft X G fun _ _ _ _ _ _=>us3 fun _ _ _=>rfl,h_q8.ft X G fun _ _ _ _ _ _=>us3 fun _ _ _=>rfl,h_q18.ft X G fun _ _ _ _ _ _=>us3 fun _ _ _=>rfl,h_q32.ft X G fun _ _ _ _ _ _=>us3 fun _ _ _=>rfl,h_q11.ft X G fun _ _ _ _ _ _=>us5 fun _ _ _ _ _=>rfl,h_q33.ft X G fun _ _ _ _ _ _=>us3 fun _ _ _=>rfl,h_q28.ft X G fun _ _ _ _ _ _=>us2 fun _ _=>rfl,h_q17.ft X G fun _ _ _ _ _ _=>us3 fun _ _ _=>rfl,h_q19.ft X G fun _ _ _ _ _ _=>us2 fun _ _=>rfl,h_q37.ft X G fun _ _ _ _ _ _=>us3 fun _ _ _=>rfl,h_q5.ft X G fun _ _ _ _ _ _=>us4 fun _ _ _ _=>rfl,h_q7.ft X G fun _ _ _ _ _ _=>us3 fun _ _ _=>rfl,h_q36.ft X G fun _ _ _ _ _ _=>us2 fun _ _=>rfl,h_q46.ft X G fun _ _ _ _ _ _=>us2 fun _ _=>rfl,h_q27.ft X G fun _ _ _ _ _ _=>us2 fun _ _=>rfl,h_q47.ft X G fun _ _ _ _ _ _=>us2 fun _ _=>rfl,h_q50.ft X G fun _ _ _ _ _ _=>us2 fun _ _=>rfl,h_q55.ft X G fun _ _ _ _ _ _=>us4 fun _ _ _ _=>rfl,h_q48.ft X G fun _ _ _ _ _ _=>us1 fun _=>rfl,h_q15.ft X G fun _ _ _ _ _ _=>us1 fun _=>rfl,h_q14.ft X G fun _ _ _ _ _ _=>us3 fun _ _ _=>rfl,h_q35.ft X G fun _ _ _ _ _ _=>us2 fun _ _=>rfl,h_q45.ft X G fun _ _ _ _ _ _=>us4 fun _ _ _ _=>rfl,h_q49.ft X G fun _ _ _ _ _ _=>us4 fun _ _ _ _=>rfl,h_law.ft X G fun _ _ _ _ _ _=>us1 fun _=>rfl,PySem.W.mg_none_of X G z_ValueError,PySem.W.mg_none_of X G z_abs,PySem.W.mg_none_of X G z_all,PySem.W.mg_none_of X G z_any,PySem.W.mg_none_of X G z_bool,PySem.W.mg_none_of X G z_enumerate,PySem.W.mg_none_of X G z_int,PySem.W.mg_none_of X G z_isinstance,PySem.W.mg_none_of X G z_len,PySem.W.mg_none_of X G z_list,PySem.W.mg_none_of X G z_max,PySem.W.mg_none_of X G z_min,PySem.W.mg_none_of X G z_range,PySem.W.mg_none_of X G z_reversed,PySem.W.mg_none_of X G z_sorted,PySem.W.mg_none_of X G z_str,PySem.W.mg_none_of X G z_tuple,PySem.W.mg_none_of X G z_zip,⟨_,PySem.W.mg_of X G c_MOST_TIES⟩,⟨_,PySem.W.mg_of X G c_MOST_ROOM⟩,⟨_,PySem.W.mg_of X G c_MOST_ASKS⟩,⟨_,PySem.W.mg_of X G c_MOST_SIZE⟩,⟨_,PySem.W.mg_of X G c_MOST_WORTH⟩,⟨_,PySem.W.mg_of X G c_LEAST_RING⟩,⟨_,PySem.W.mg_of X G c_MOST_RING⟩,PySem.W.mg_of X G a_TEXTS,⟨⟨_,_,_,l_TEXTS,rfl,rfl,by simp [sizeLine],.cons ⟨_,rfl⟩ (.cons ⟨_,rfl⟩ (.nil))⟩,rfl⟩,PySem.W.mg_of X G l_q20.e,PySem.W.mg_of X G l_q38.e,PySem.W.mg_of X G l_q21.e,PySem.W.mg_of X G l_q39.e,PySem.W.mg_of X G l_q40.e,PySem.W.mg_of X G l_q22.e,PySem.W.mg_of X G l_q29.e,PySem.W.mg_of X G l_q10.e,PySem.W.mg_of X G l_q23.e,PySem.W.mg_of X G l_q52.e,PySem.W.mg_of X G l_q30.e,PySem.W.mg_of X G l_q41.e,PySem.W.mg_of X G l_q42.e,PySem.W.mg_of X G l_q31.e,(l_q20.xc n_q20' t_q20 il),(l_q38.xc n_q38' t_q38 (l_q20.tail n_q20' t_q20 il)),(l_q29.xc n_q29' t_q29 (l_q20.tail n_q20' t_q20 il)),(l_q42.xc n_q42' t_q42 (l_q20.tail n_q20' t_q20 il)),o_q38,(kh sv_q38),(l_q21.nope s_q38_NoChange),(l_q39.nope s_q38_NoKeep),(l_q40.nope s_q38_NoName),(l_q22.nope s_q38_NoNumber),(l_q29.nope s_q38_NoPlace),(l_q10.nope s_q38_NoPointing),(l_q23.nope s_q38_NoPrices),(l_q52.nope s_q38_NoRow),(l_q30.nope s_q38_NoShare),(l_q41.nope s_q38_NoText),(l_q42.nope s_q38_NoTree),(l_q31.nope s_q38_TooMany),o_q29,(kh sv_q29),(l_q38.nope s_q29_NoAsks),(l_q21.nope s_q29_NoChange),(l_q39.nope s_q29_NoKeep),(l_q40.nope s_q29_NoName),(l_q22.nope s_q29_NoNumber),(l_q10.nope s_q29_NoPointing),(l_q23.nope s_q29_NoPrices),(l_q52.nope s_q29_NoRow),(l_q30.nope s_q29_NoShare),(l_q41.nope s_q29_NoText),(l_q42.nope s_q29_NoTree),(l_q31.nope s_q29_TooMany),o_q42,(kh sv_q42),(l_q38.nope s_q42_NoAsks),(l_q21.nope s_q42_NoChange),(l_q39.nope s_q42_NoKeep),(l_q40.nope s_q42_NoName),(l_q22.nope s_q42_NoNumber),(l_q29.nope s_q42_NoPlace),(l_q10.nope s_q42_NoPointing),(l_q23.nope s_q42_NoPrices),(l_q52.nope s_q42_NoRow),(l_q30.nope s_q42_NoShare),(l_q41.nope s_q42_NoText),(l_q31.nope s_q42_TooMany),I_q38,bi_q38,fi_q38,kc_q38,⟨sa_q38,at_q38_number⟩,I_q42,bi_q42,fi_q42,kc_q42,⟨sa_q42,at_q42_part⟩,⟨sa_q42,at_q42_number⟩,rb_q20⟩
 obtain ⟨_,_,_,_,_,_,_,_,_,rfl,_,_⟩:=h_law.F.ex
 exact ⟨_,fun s v=>.of_eq rfl,fun base _ _=>(wM T).imp fun _ _ _ _ h=>qK h⟩
theorem walk {l:PySem.W.OpenLaw} {q:Program} {loose:List Str} {XP:(Str→Option Value)→Heap→Prop} {YP:World→Heap→Prop} {d:DefRec} {K:Params→PySem.W.Frag} (hn:l.most=some 63) (hdf:d.params.defaults=[])
 (hY:∀ (w:World) (h:Heap),YP w h→(K w.params).In h)
 (F:∀ (w:World) (mg:Str→Option Value) (fa:Addr) (h:Heap),(K w.params).In h→h.Ns mainGlobals mg→mg d.name=some (.ref fa) →
  ∃ fd:FuncData,(∀ (s:Shared) (u:Value),BindsTo s fd ⟨[u],[]⟩ [("_law_script",u)])∧∀ base:Heap,(K w.params).In base→base.Ns mainGlobals mg→FnOk l.prog w (K w.params) mg base CX0 13 fa fd ["_law_script"] (oQ (K w.params))) :
 PySem.W.WalkO q loose XP YP l.row.toRowW d [] (fun f vs=>PySem.call f vs) :=
 L2.t7 (n:=63) (k:=13) (x:="_law_script") (CX:=fun _=>CX0) (sp:=fun w=>oQ (K w.params)) hn 'k' hdf ⟨rfl,by decide,by decide,rfl⟩ hY F (fun _ _ a ns hl hO hS=>⟨a,ns,rfl,hO,hS,hl,fun _=>rfl⟩) fun _ _ _ _ _ z=>z
end K49
open PySem PySem.W PyProof.Rows
set_option maxRecDepth 100000 in
theorem PySem.Challenge.cw_treeasks_k49_pointings_refused_holds : PySem.Challenge.rw_treeasks_k49_pointings_refused.Holds := by
 w_on; o_law; k_head; (case hw=>w_witness2)
 k_fill
 refine K49.walk (l:=PySem.Challenge.rw_treeasks_k49_pointings_refused) rfl rfl (fun w h Y=>PySem.W.kIn_of Y) ?F
 case F =>
  intro w mg fa h KX G hmg
  refine' K49.all_mk KX G hmg 'g' 'g' 'g' 'g' 'g' 'g' 'g' 'g' 'g' 'g' 'g' 'g' 'g' 'g' 'g' 'g' 'g' 'g' 'g' 'g' 'g' 'g' 'g' 'g' 'g' 'g' 'g' 'g' 'g' 'g' 'g' 'g' 'g' 'g' 'g' 'g' 'g' 'g' 'g' 'g' 'g' 'g' 'g' ?_ ?_ ?_ ?_ ?_ ?_ ?_ ?_ ?_ ?_ ?_ ?_ ?_ ?_ ?_ ?_ ?_ ?_ ?_ ?_ ?_ ?_ ?_ ?_ ?_ ?_ ?_ (L2.dr ?_ ?_ ?_) (L2.dr ?_ ?_ ?_) (L2.dr ?_ ?_ ?_) (L2.dr ?_ ?_ ?_) (L2.dr ?_ ?_ ?_) (L2.dr ?_ ?_ ?_) (L2.dr ?_ ?_ ?_) (L2.dr ?_ ?_ ?_) (L2.dr ?_ ?_ ?_) (L2.dr ?_ ?_ ?_) (L2.dr ?_ ?_ ?_) (L2.dr ?_ ?_ ?_) (L2.dr ?_ ?_ ?_) (L2.dr ?_ ?_ ?_) (L2.io ?_ ?_) ?_ (L2.io ?_ ?_) ?_ (L2.io ?_ ?_) ?_ (L2.io ?_ ?_) ?_ (L2.kB ?_ ?_ ?_ ?_ ?_ ?_ ?_) ?_ ⟨?_,?_⟩ ⟨?_,?_⟩ ⟨?_,?_⟩ ⟨?_,?_⟩ ⟨?_,?_⟩ ⟨?_,?_⟩ ⟨?_,?_⟩ ⟨?_,?_⟩ ⟨?_,?_⟩ ⟨?_,?_⟩ ⟨?_,?_⟩ ⟨?_,?_⟩ (L2.kB ?_ ?_ ?_ ?_ ?_ ?_ ?_) ?_ ⟨?_,?_⟩ ⟨?_,?_⟩ ⟨?_,?_⟩ ⟨?_,?_⟩ ⟨?_,?_⟩ ⟨?_,?_⟩ ⟨?_,?_⟩ ⟨?_,?_⟩ ⟨?_,?_⟩ ⟨?_,?_⟩ ⟨?_,?_⟩ ⟨?_,?_⟩ (L2.kB ?_ ?_ ?_ ?_ ?_ ?_ ?_) ?_ ⟨?_,?_⟩ ⟨?_,?_⟩ ⟨?_,?_⟩ ⟨?_,?_⟩ ⟨?_,?_⟩ ⟨?_,?_⟩ ⟨?_,?_⟩ ⟨?_,?_⟩ ⟨?_,?_⟩ ⟨?_,?_⟩ ⟨?_,?_⟩ ⟨?_,?_⟩ (L2.nC ?_ ?_ ?_) ?_ ?_ ?_ ?_ (L2.nC ?_ ?_ ?_) ?_ ?_ ?_ ?_ ?_ ⟨?_,?_,?_⟩
  all_goals try k_is
  all_goals first | rfl | (rw [← Array.all_toList]; rfl)
end
