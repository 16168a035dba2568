import PyProof.Rows.All
import Wide.All
import OpenK.AllK
import Wide.FinOn
import Lean
import PyProof.EqAt
import PyProof.EqKinds
import PyProof.TupleCall
import PyProof.Rows.ListRangeD
import KE.LcSums
import KE.KRevSl
import PyProof.Rows.SetFrom
import PyProof.Rows.ListMulArg
import KE.KSortKey
import PySem.Challenge.RW_treeasks_k59_flow_and_cut_by_the_rule
set_option Elab.async false
set_option linter.all false
set_option maxRecDepth 100000
set_option genSizeOf false
set_option maxHeartbeats 4000000
set_option exponentiation.threshold 9000
noncomputable section
theorem PySem.W.Fast.te7405855372386220484:True:=trivial
def PySem.W.Fast.tw7405855372386220484:Nat:=0
theorem PySem.W.Fast.te3287288875426110661:True:=trivial
def PySem.W.Fast.tw3287288875426110661:Nat:=0
def PySem.W.Fast.tw17436554518292007653:PySem.Program:=PySem.Challenge.pw_treeasks_k59_flow_and_cut_by_the_rule
theorem PySem.W.Fast.te17436554518292007653:PySem.Challenge.pw_treeasks_k59_flow_and_cut_by_the_rule=PySem.W.Fast.tw17436554518292007653:=rfl
def PySem.W.Fast.tw10322020400101770816:PySem.Program:=({ PySem.Challenge.pw_treeasks_k59_flow_and_cut_by_the_rule with main:={ PySem.Challenge.pw_treeasks_k59_flow_and_cut_by_the_rule.main with body:=(PySem.Challenge.pw_treeasks_k59_flow_and_cut_by_the_rule.main.body.drop 1).take 4++(PySem.Challenge.pw_treeasks_k59_flow_and_cut_by_the_rule.main.body.drop 6).take 2++(PySem.Challenge.pw_treeasks_k59_flow_and_cut_by_the_rule.main.body.drop 9).take 7++(PySem.Challenge.pw_treeasks_k59_flow_and_cut_by_the_rule.main.body.drop 17).take 5++(PySem.Challenge.pw_treeasks_k59_flow_and_cut_by_the_rule.main.body.drop 23).take 6++(PySem.Challenge.pw_treeasks_k59_flow_and_cut_by_the_rule.main.body.drop 30).take 1++(PySem.Challenge.pw_treeasks_k59_flow_and_cut_by_the_rule.main.body.drop 32).take 5++(PySem.Challenge.pw_treeasks_k59_flow_and_cut_by_the_rule.main.body.drop 38).take 14 } }:PySem.Program)
theorem PySem.W.Fast.te10322020400101770816:({ PySem.Challenge.pw_treeasks_k59_flow_and_cut_by_the_rule with main:={ PySem.Challenge.pw_treeasks_k59_flow_and_cut_by_the_rule.main with body:=(PySem.Challenge.pw_treeasks_k59_flow_and_cut_by_the_rule.main.body.drop 1).take 4++(PySem.Challenge.pw_treeasks_k59_flow_and_cut_by_the_rule.main.body.drop 6).take 2++(PySem.Challenge.pw_treeasks_k59_flow_and_cut_by_the_rule.main.body.drop 9).take 7++(PySem.Challenge.pw_treeasks_k59_flow_and_cut_by_the_rule.main.body.drop 17).take 5++(PySem.Challenge.pw_treeasks_k59_flow_and_cut_by_the_rule.main.body.drop 23).take 6++(PySem.Challenge.pw_treeasks_k59_flow_and_cut_by_the_rule.main.body.drop 30).take 1++(PySem.Challenge.pw_treeasks_k59_flow_and_cut_by_the_rule.main.body.drop 32).take 5++(PySem.Challenge.pw_treeasks_k59_flow_and_cut_by_the_rule.main.body.drop 38).take 14 } }:PySem.Program)=PySem.W.Fast.tw10322020400101770816:=rfl
def PySem.W.Fast.tw4174933910315624809:List PySem.Stmt:=((PySem.Challenge.pw_treeasks_k59_flow_and_cut_by_the_rule.main.body.drop 3).take 1)
theorem PySem.W.Fast.te4174933910315624809:((PySem.Challenge.pw_treeasks_k59_flow_and_cut_by_the_rule.main.body.drop 3).take 1)=PySem.W.Fast.tw4174933910315624809:=rfl
def PySem.W.Fast.tw13241477804715825104:List PySem.Stmt:=((PySem.Challenge.pw_treeasks_k59_flow_and_cut_by_the_rule.main.body.drop 30).take 15)
theorem PySem.W.Fast.te13241477804715825104:((PySem.Challenge.pw_treeasks_k59_flow_and_cut_by_the_rule.main.body.drop 30).take 15)=PySem.W.Fast.tw13241477804715825104:=rfl
def PySem.W.Fast.tw491950173746726931:List PySem.Stmt:=((PySem.Challenge.pw_treeasks_k59_flow_and_cut_by_the_rule.main.body.drop 13).take 17)
theorem PySem.W.Fast.te491950173746726931:((PySem.Challenge.pw_treeasks_k59_flow_and_cut_by_the_rule.main.body.drop 13).take 17)=PySem.W.Fast.tw491950173746726931:=rfl
def PySem.W.Fast.tw18227315384098703960:List PySem.Stmt:=((PySem.Challenge.pw_treeasks_k59_flow_and_cut_by_the_rule.main.body.drop 4).take 9)
theorem PySem.W.Fast.te18227315384098703960:((PySem.Challenge.pw_treeasks_k59_flow_and_cut_by_the_rule.main.body.drop 4).take 9)=PySem.W.Fast.tw18227315384098703960:=rfl
def PySem.W.Fast.tw7229413137989114500:List PySem.Stmt:=((PySem.Challenge.pw_treeasks_k59_flow_and_cut_by_the_rule.main.body.drop 0).take 2)
theorem PySem.W.Fast.te7229413137989114500:((PySem.Challenge.pw_treeasks_k59_flow_and_cut_by_the_rule.main.body.drop 0).take 2)=PySem.W.Fast.tw7229413137989114500:=rfl
def PySem.W.Fast.tw1736356080145601059:List PySem.Stmt:=((PySem.Challenge.pw_treeasks_k59_flow_and_cut_by_the_rule.main.body.drop 45).take 7)
theorem PySem.W.Fast.te1736356080145601059:((PySem.Challenge.pw_treeasks_k59_flow_and_cut_by_the_rule.main.body.drop 45).take 7)=PySem.W.Fast.tw1736356080145601059:=rfl
def PySem.W.Fast.tw12088045990401808149:List PySem.Stmt:=((PySem.Challenge.pw_treeasks_k59_flow_and_cut_by_the_rule.main.body.drop 2).take 1)
theorem PySem.W.Fast.te12088045990401808149:((PySem.Challenge.pw_treeasks_k59_flow_and_cut_by_the_rule.main.body.drop 2).take 1)=PySem.W.Fast.tw12088045990401808149:=rfl
namespace Ob
noncomputable section
open PySem
open PySem.Str renaming ofString → S
open PySem.Value renaming str → v, ref → r, int → i, none → n
abbrev F := Params → Obj
noncomputable def d (P : Params) (s : Str) (t : Tok) (w : Value) : DictEntry := ⟨PyData.keyHash P s, .str s t, w⟩
noncomputable def g (k : Nat) (q : Str → Str) : FuncData := match PySem.Challenge.pw_treeasks_k59_flow_and_cut_by_the_rule.main.body[k % 1000]? with
  | some (.FunctionDef a b c _ _ _ s _ _ _) => ⟨a,q a,b,.stmts c,s,0,[],n,n,n,n,none,n,n,0⟩
  | some (.ClassDef _ _ _ l _ _ _ _ _ _ _) => (match l[k / 1000]? with
    | some (.FunctionDef a b c _ _ _ s _ _ _) => ⟨a,q a,b,.stmts c,s,0,[],n,n,n,n,none,n,n,0⟩
    | _ => default)
  | _ => default
noncomputable def x (k : Nat) : F := fun _ => ⟨n,none,.func (g k id),#[]⟩
noncomputable def X (k : Nat) (q : Str) : F := fun _ => ⟨n,none,.func (g k fun _ => q),#[]⟩
noncomputable def y (k : Nat) (m c : Value) : F := fun _ => ⟨.type "function",none,.func { g k id with globals := 3, pyModule := m, code := c },#[]⟩
noncomputable def Y (k : Nat) (q : Str) (m c : Value) : F := fun _ => ⟨.type "function",none,.func { g k (fun _ => q) with globals := 3, pyModule := m, code := c },#[]⟩
noncomputable def u (l : List Value) : F := fun _ => ⟨.type "tuple",none,.seq l.toArray 0,#[]⟩
noncomputable def z (l : List Value) : F := fun _ => ⟨n,none,.fields l.toArray,#[]⟩
noncomputable def V (s : String) (t : Tok) : Value := v (S s) t
noncomputable def q (s : String) (t1 t2 t3 : Tok) (l a b c e : Int) (r1 : Addr) (m : Int) (r2 r3 r4 r5 : Addr) (t : Int) (t4 : Tok) : F := fun _ => ⟨.type "code",none,.fields #[v (S s) t1,v (S s) t2,v (S "/claim/cut.py") t3,i l 0,i a 0,i b 0,i c 0,i e 0,r r1,.bool true,i m 0,r r2,n,r r3,r r4,r r5,i t 0,i l 0,v (S "/claim/cut.py") t4],#[]⟩
noncomputable def k (l : List Value) : F := fun _ => ⟨.type "code",none,.fields l.toArray,#[]⟩
noncomputable def w (f : F) (a b : Params → W.BT) : Params → W.BT := fun P => .node (f P) (a P) (b P)
noncomputable def e : Params → W.BT := fun _ => .nil
noncomputable def o (f : F) : Params → W.BT := w f e e
noncomputable def ha(p0:String)(p1:Nat)(p2:String)(p3:String):F:=u [(V p0 p1),(V p2 (p1+1)),(V p3 (p1+2))]
noncomputable def hb(p0:String)(p1:Nat)(p2:Int)(p3:Int)(p4:Nat)(p5:Int):F:=k [(V p0 p1),(V p0 (p1+1)),(V "/claim/cut.py" (p1+2)),(i p2 0),(i p3 0),(i 0 0),(i 0 0),(i 3 0),(r p4),(.bool .true),(i 181 0),(r (p4+1)),n,n,n,(r (p4+2)),(i p5 0),(i p2 0),(V "/claim/cut.py" (p1+4))]
noncomputable def hc(p0:String)(p1:Nat)(p2:Int)(p3:Nat)(p4:Int):F:=k [(V p0 p1),(V p0 (p1+1)),(V "/claim/cut.py" (p1+2)),(i p2 0),(i 0 0),(i 0 0),(i 0 0),(i 0 0),(r p3),(.bool .false),(i 181 0),(r (p3+1)),n,n,n,n,(i p4 0),(i p2 0),(V "/claim/cut.py" (p1+4))]
noncomputable def hd(p0:Nat)(p1:Nat)(p2:String)(p3:Nat):F:=fun P=>⟨(.type "frame"),none,.plain,#[(some (r p0)),(some (r 3)),(some (r p1)),none,(some (V p2 p3)),none,(some (r 0))]⟩
noncomputable def he(p0:Nat):F:=fun P=>⟨(.type "builtin_function_or_method"),none,(.fields #[(.builtin "object.__init_subclass__"),(r p0)]),#[]⟩
noncomputable def hf(p0:Nat):F:=fun P=>⟨(.type "super"),none,(.fields #[(r p0),(r p0),(r p0)]),#[]⟩
noncomputable def hg(p0:Nat)(p1:String)(p2:String)(p3:String)(p4:String):F:=u [(V "tree" p0),(V p1 (p0+1)),(V p2 (p0+2)),(V p3 (p0+3)),(V p4 (p0+4))]
noncomputable def hh(p0:Nat)(p1:Int)(p2:String)(p3:Nat)(p4:Nat)(p5:String)(p6:Nat)(p7:Nat)(p8:Nat):F:=fun P=>⟨(.type "dict"),none,(.dict #[(d P (S "__module__") p0 (v (S "treeasks.errors") 187)),(d P (S "__firstlineno__") (p0+4) (i p1 (p0+3))),(d P (S p2) p3 (r p4)),(d P (S p5) p6 (r p7)),(d P (S "__doc__") (p6+1) n)] p8),#[]⟩
noncomputable def hi(p0:String)(p1:Nat)(p2:Nat)(p3:Nat)(p4:Nat):F:=fun P=>⟨(.type "type"),none,(.cls ⟨(S p0),[(r 24)],[(r p1),(r 24),(.type "ValueError"),(.type "Exception"),(.type "BaseException"),(.type "object")],p2,(S p0),.true,[],[],.false,none,.false⟩),#[(some (r p3)),none,(some (V p0 p4)),(some (V p0 (p4+8))),(some (.builtin "ValueError.__new__")),(some (.bool .true))]⟩
noncomputable def hj(p0:Nat)(p1:String)(p2:Int)(p3:Nat):F:=fun P=>⟨(.type "dict"),none,(.dict #[(d P (S "__module__") p0 (v (S "treeasks.errors") 187)),(d P (S "__qualname__") (p0+2) (v (S p1) (p0+1))),(d P (S "__firstlineno__") (p0+4) (i p2 (p0+3))),(d P (S "__static_attributes__") (p0+5) (r p3))] 4),#[]⟩
noncomputable def hk(p0:Nat)(p1:String)(p2:Int)(p3:Int)(p4:Nat)(p5:Int)(p6:Nat):F:=k [(V "__init__" p0),(V p1 (p0+1)),(V "/claim/cut.py" (p0+2)),(i p2 0),(i p3 0),(i 0 0),(i 0 0),(i 3 0),(r p4),(.bool .true),(i 181 0),(r (p4+1)),n,(r (p4+2)),(r (p4+3)),(r (p4+4)),(i p5 0),(i p2 0),(V "/claim/cut.py" p6)]
noncomputable def hl(p0:Nat)(p1:String)(p2:Int)(p3:Nat)(p4:Nat)(p5:Nat):F:=fun P=>⟨(.type "dict"),none,(.dict #[(d P (S "__module__") p0 (v (S "treeasks.errors") 187)),(d P (S "__qualname__") (p0+2) (v (S p1) (p0+1))),(d P (S "__firstlineno__") (p0+4) (i p2 (p0+3))),(d P (S "__init__") p3 (r p4)),(d P (S "__static_attributes__") p5 (r (p4+1)))] 5),#[]⟩
noncomputable def zl:List (Nat×Nat×Nat)→List Value
  | []=>[]
  | (a,b,c)::t=>i (Int.ofNat a) 0::i (Int.ofNat b) 0::r c::zl t
def zz:List Value:=zl [(2,0,20),(4,0,33),(10,0,52),(15,0,71),(18,0,83),(20,0,90),(25,0,97),(32,0,104),(42,0,111),(48,0,118),(50,0,125),(56,0,132),(61,0,139),(69,0,146),(73,0,153),(80,0,160),(84,0,167),(86,0,172),(88,0,179),(93,0,184),(98,0,189),(100,0,194),(105,0,199),(113,0,204),(120,0,211),(126,0,218),(134,0,225),(141,0,232),(150,0,239),(157,0,244),(160,0,251),(163,0,258)]
def A64:F:=fun P=>⟨(.type "dict"),none,(.dict #[(d P (S "__name__") 165 (v (S "treeasks.errors") 187)),(d P (S "__doc__") 166 n),(d P (S "__package__") 167 n),(d P (S "__loader__") 168 (.builtin "__main__.__loader__#opaque")),(d P (S "__spec__") 169 n),(d P (S "__annotations__") 170 (r 6)),(d P (S "__builtins__") 171 (r 4)),(d P (S "__file__") 173 (v (S "/claim/cut.py") 172)),(d P (S "__cached__") 174 n),(d P (S "AskError") 206 (r 24)),(d P (S "NoTree") 233 (r 44))] 11),#[]⟩
def a0k:F:=fun P=>⟨(.type "type"),none,(.cls ⟨(S "AskError"),[(.type "ValueError")],[(r 24),(.type "ValueError"),(.type "Exception"),(.type "BaseException"),(.type "object")],23,(S "AskError"),.true,[],[(r 44)],.false,none,.false⟩),#[(some (r 15)),none,(some (V "AskError" 189)),(some (V "AskError" 197)),(some (.builtin "ValueError.__new__")),(some (.bool .true))]⟩
def a0m:F:=z [(i 2 0),(i 0 0),(r 20),(i 4 0),(i 0 0),(r 33)]
def A86:F:=fun P=>⟨(.type "dict"),none,(.dict #[(d P (S "__name__") 165 (v (S "treeasks.errors") 187)),(d P (S "__doc__") 166 n),(d P (S "__package__") 167 n),(d P (S "__loader__") 168 (.builtin "__main__.__loader__#opaque")),(d P (S "__spec__") 169 n),(d P (S "__annotations__") 170 (r 6)),(d P (S "__builtins__") 171 (r 4)),(d P (S "__file__") 173 (v (S "/claim/cut.py") 172)),(d P (S "__cached__") 174 n),(d P (S "AskError") 206 (r 24)),(d P (S "NoTree") 233 (r 44)),(d P (S "NoAsks") 258 (r 63))] 12),#[]⟩
def a1c:F:=fun P=>⟨(.type "type"),none,(.cls ⟨(S "AskError"),[(.type "ValueError")],[(r 24),(.type "ValueError"),(.type "Exception"),(.type "BaseException"),(.type "object")],23,(S "AskError"),.true,[],[(r 44),(r 63)],.false,none,.false⟩),#[(some (r 15)),none,(some (V "AskError" 189)),(some (V "AskError" 197)),(some (.builtin "ValueError.__new__")),(some (.bool .true))]⟩
def a1e:F:=z [(i 2 0),(i 0 0),(r 20),(i 4 0),(i 0 0),(r 33),(i 10 0),(i 0 0),(r 52)]
def A108:F:=fun P=>⟨(.type "dict"),none,(.dict #[(d P (S "__name__") 165 (v (S "treeasks.trees") 293)),(d P (S "__doc__") 166 n),(d P (S "__package__") 167 n),(d P (S "__loader__") 168 (.builtin "__main__.__loader__#opaque")),(d P (S "__spec__") 169 n),(d P (S "__annotations__") 170 (r 6)),(d P (S "__builtins__") 171 (r 4)),(d P (S "__file__") 173 (v (S "/claim/cut.py") 172)),(d P (S "__cached__") 174 n),(d P (S "AskError") 206 (r 24)),(d P (S "NoTree") 233 (r 44)),(d P (S "NoAsks") 258 (r 63)),(d P (S "NoPlace") 274 (r 75)),(d P (S "is_whole") 283 (r 84)),(d P (S "is_between") 292 (r 91)),(d P (S "MOST_TIES") 296 (i 23 295)),(d P (S "MOST_ROOM") 298 (i 1000000 297)),(d P (S "has_two_lists") 307 (r 98)),(d P (S "look_at_tree") 319 (r 105))] 19),#[]⟩
def a27:F:=fun P=>⟨(.type "type"),none,(.cls ⟨(S "AskError"),[(.type "ValueError")],[(r 24),(.type "ValueError"),(.type "Exception"),(.type "BaseException"),(.type "object")],23,(S "AskError"),.true,[],[(r 44),(r 63),(r 75)],.false,none,.false⟩),#[(some (r 15)),none,(some (V "AskError" 189)),(some (V "AskError" 197)),(some (.builtin "ValueError.__new__")),(some (.bool .true))]⟩
def a2b:F:=z [(i 2 0),(i 0 0),(r 20),(i 4 0),(i 0 0),(r 33),(i 10 0),(i 0 0),(r 52),(i 15 0),(i 0 0),(r 71),(i 18 0),(i 0 0),(r 83),(i 20 0),(i 0 0),(r 90),(i 25 0),(i 0 0),(r 97),(i 32 0),(i 0 0),(r 104)]
def A151:F:=fun P=>⟨(.type "dict"),none,(.dict #[(d P (S "__name__") 165 (v (S "treeasks.rules") 434)),(d P (S "__doc__") 166 n),(d P (S "__package__") 167 n),(d P (S "__loader__") 168 (.builtin "__main__.__loader__#opaque")),(d P (S "__spec__") 169 n),(d P (S "__annotations__") 170 (r 6)),(d P (S "__builtins__") 171 (r 4)),(d P (S "__file__") 173 (v (S "/claim/cut.py") 172)),(d P (S "__cached__") 174 n),(d P (S "AskError") 206 (r 24)),(d P (S "NoTree") 233 (r 44)),(d P (S "NoAsks") 258 (r 63)),(d P (S "NoPlace") 274 (r 75)),(d P (S "is_whole") 283 (r 84)),(d P (S "is_between") 292 (r 91)),(d P (S "MOST_TIES") 296 (i 23 295)),(d P (S "MOST_ROOM") 298 (i 1000000 297)),(d P (S "has_two_lists") 307 (r 98)),(d P (S "look_at_tree") 319 (r 105)),(d P (S "depths") 328 (r 112)),(d P (S "is_place") 336 (r 119)),(d P (S "are_ends") 345 (r 126)),(d P (S "MOST_ASKS") 349 (i 30 348)),(d P (S "MOST_SIZE") 351 (i 1000000 350)),(d P (S "MOST_WORTH") 353 (i 1000000000000 352)),(d P (S "is_ask") 365 (r 133)),(d P (S "look_at_asks") 375 (r 140)),(d P (S "look_at_ends") 386 (r 147)),(d P (S "climb") 397 (r 154)),(d P (S "way_between") 408 (r 161)),(d P (S "way_of") 416 (r 168)),(d P (S "ways_of") 422 (r 173)),(d P (S "meeting_of") 433 (r 180))] 33),#[]⟩
def a41:F:=z (zz.take 57)
def A228:F:=fun P=>⟨(.type "dict"),none,(.dict #[(d P (S "__name__") 165 (v (S "law_treeasks_k59_flow_and_cut_by_the_rule") 479)),(d P (S "__doc__") 166 n),(d P (S "__package__") 167 n),(d P (S "__loader__") 168 (.builtin "__main__.__loader__#opaque")),(d P (S "__spec__") 169 n),(d P (S "__annotations__") 170 (r 6)),(d P (S "__builtins__") 171 (r 4)),(d P (S "__file__") 173 (v (S "/claim/cut.py") 172)),(d P (S "__cached__") 174 n),(d P (S "AskError") 206 (r 24)),(d P (S "NoTree") 233 (r 44)),(d P (S "NoAsks") 258 (r 63)),(d P (S "NoPlace") 274 (r 75)),(d P (S "is_whole") 283 (r 84)),(d P (S "is_between") 292 (r 91)),(d P (S "MOST_TIES") 296 (i 23 295)),(d P (S "MOST_ROOM") 298 (i 1000000 297)),(d P (S "has_two_lists") 307 (r 98)),(d P (S "look_at_tree") 319 (r 105)),(d P (S "depths") 328 (r 112)),(d P (S "is_place") 336 (r 119)),(d P (S "are_ends") 345 (r 126)),(d P (S "MOST_ASKS") 349 (i 30 348)),(d P (S "MOST_SIZE") 351 (i 1000000 350)),(d P (S "MOST_WORTH") 353 (i 1000000000000 352)),(d P (S "is_ask") 365 (r 133)),(d P (S "look_at_asks") 375 (r 140)),(d P (S "look_at_ends") 386 (r 147)),(d P (S "climb") 397 (r 154)),(d P (S "way_between") 408 (r 161)),(d P (S "way_of") 416 (r 168)),(d P (S "ways_of") 422 (r 173)),(d P (S "meeting_of") 433 (r 180)),(d P (S "deepest_first") 441 (r 185)),(d P (S "parts_ways") 449 (r 190)),(d P (S "serve") 455 (r 195)),(d P (S "fill_ties") 461 (r 200)),(d P (S "thinned") 467 (r 205)),(d P (S "flow_and_cut") 478 (r 212)),(d P (S "_law_pool") 490 (r 219)),(d P (S "_law_take") 499 (r 226)),(d P (S "_law_number") 508 (r 233)),(d P (S "_law_parents") 520 (r 240)),(d P (S "_law_rooms") 526 (r 245)),(d P (S "_law_ends") 535 (r 252)),(d P (S "_law_up") 544 (r 259))] 46),#[]⟩
def a69:F:=z (zz.take 96)
lay_quick Ob.A64
noncomputable def od : List F → List F
  | a::_::l=>a::od l
  | l=>l
noncomputable def ev : List F → List F
  | _::b::l=>b::ev l
  | _=>[]
noncomputable def bt : Nat → List F → Params → W.BT
  | k+1,f::l=>w f (bt k (od l)) (bt k (ev l))
  | _,_=>e
open W in
def lL (Q P0 P1:F):List F:=[boot_o_0,boot_o_1,boot_o_2,Q,boot_o_4,boot_o_5,boot_o_6,boot_o_7,boot_o_8,boot_o_9,boot_o_10,u [],P0,hc "<module>" 182 1 11 185,hd 13 3 "__main__" 164,u [(.type "ValueError")],(fun P=>⟨(.type "builtin_function_or_method"),none,(.fields #[(.builtin "type.__prepare__"),(.type "type")]),#[]⟩),hj 196 "AskError" 2 22,u [],z [],hc "AskError" 191 2 18 194,hd 20 17 "treeasks.errors" 187,u [],hh 196 2 "__static_attributes__" 201 22 "__weakref__" 203 25 3,P1,(fun P=>⟨(.type "getset_descriptor"),none,(.fields #[(V "__weakref__" 202),(r 24),(.builtin "ExceptionGroup.__weakref__"),n]),#[]⟩),hf 24,he 24,u [(r 24)],(fun P=>⟨(.type "builtin_function_or_method"),none,(.fields #[(.builtin "type.__prepare__"),(.type "type")]),#[]⟩),hl 214 "NoTree" 4 227 41 230,u [],z [(i 6 0),(i 4 0),(r 40)],hc "NoTree" 209 4 31 212,hd 33 30 "treeasks.errors" 187,u [],z [],ha "self" 222 "part" "number",u [],X 2 (S "NoTree.__init__"),hk 219 "NoTree.__init__" 6 3 35 225 226,Y 2 (S "NoTree.__init__") (V "treeasks.errors" 187) (r 40),u [(V "number" 228),(V "part" 229)],hh 214 4 "__init__" 227 41 "__static_attributes__" 230 42 2,hi "NoTree" 44 43 28 207,hf 44,he 44,u [(r 24)],(fun P=>⟨(.type "builtin_function_or_method"),none,(.fields #[(.builtin "type.__prepare__"),(.type "type")]),#[]⟩),hl 241 "NoAsks" 10 253 60 255,u [],z [(i 12 0),(i 4 0),(r 59)],hc "NoAsks" 236 10 50 239,hd 52 49 "treeasks.errors" 187,u [],z [],u [(V "self" 249),(V "number" 250)],u [],X 3 (S "NoAsks.__init__"),hk 246 "NoAsks.__init__" 12 2 54 251 252,Y 3 (S "NoAsks.__init__") (V "treeasks.errors" 187) (r 59),u [(V "number" 254)],hh 241 10 "__init__" 253 60 "__static_attributes__" 255 61 2,hi "NoAsks" 63 62 47 234,hf 63,he 63,u [(r 24)],(fun P=>⟨(.type "builtin_function_or_method"),none,(.fields #[(.builtin "type.__prepare__"),(.type "type")]),#[]⟩),hj 266 "NoPlace" 15 73,u [],z [],hc "NoPlace" 261 15 69 264,hd 71 68 "treeasks.errors" 187,u [],(fun P=>⟨(.type "dict"),none,(.dict #[(d P (S "__module__") 266 (v (S "treeasks.errors") 187)),(d P (S "__firstlineno__") 270 (i 15 269)),(d P (S "__static_attributes__") 271 (r 73)),(d P (S "__doc__") 272 n)] 2),#[]⟩),hi "NoPlace" 75 74 66 259,hf 75,he 75,u [],z [],u [(V "thing" 280)],u [],x 6,q "is_whole" 277 278 279 18 1 0 0 3 78 181 79 80 81 82 281 282,y 6 (V "treeasks.numbers" 275) (r 83),u [],z [],ha "thing" 287 "least" "most",u [],x 7,q "is_between" 284 285 286 20 3 0 0 3 85 181 86 87 88 89 290 291,y 7 (V "treeasks.numbers" 275) (r 90),u [],z [],ha "thing" 302 "parents" "rooms",u [],x 11,q "has_two_lists" 299 300 301 25 1 0 0 3 92 181 93 94 95 96 305 306,y 11 (V "treeasks.trees" 293) (r 97),u [],z [],u [(V "thing" 311),(V "parents" 312),(V "rooms" 313),(V "number" 314),(V "parent" 315),(V "room" 316)],u [],x 12,q "look_at_tree" 308 309 310 32 1 0 0 3 99 181 100 101 102 103 317 318,y 12 (V "treeasks.trees" 293) (r 104),u [],z [],ha "tree" 323 "found" "parent",u [],x 13,q "depths" 320 321 322 42 1 0 0 3 106 181 107 108 109 110 326 327,y 13 (V "treeasks.trees" 293) (r 111),u [],z [],u [(V "tree" 332),(V "thing" 333)],u [],x 14,q "is_place" 329 330 331 48 2 0 0 3 113 181 114 115 116 117 334 335,y 14 (V "treeasks.trees" 293) (r 118),u [],z [],ha "tree" 340 "one" "other",u [],x 15,q "are_ends" 337 338 339 50 3 0 0 3 120 181 121 122 123 124 343 344,y 15 (V "treeasks.trees" 293) (r 125),u [],z [],u [(V "tree" 357),(V "thing" 358),(V "one" 359),(V "other" 360),(V "size" 361),(V "worth" 362)],u [],x 20,q "is_ask" 354 355 356 56 2 0 0 3 127 181 128 129 130 131 363 364,y 20 (V "treeasks.asks" 346) (r 132),u [],z [],u [(V "tree" 369),(V "thing" 370),(V "number" 371),(V "ask" 372)],u [],x 21,q "look_at_asks" 366 367 368 61 2 0 0 3 134 181 135 136 137 138 373 374,y 21 (V "treeasks.asks" 346) (r 139),u [],z [],ha "tree" 381 "one" "other",u [],x 23,q "look_at_ends" 378 379 380 69 3 0 0 3 141 181 142 143 144 145 384 385,y 23 (V "treeasks.ways" 376) (r 146),u [],z [],hg 390 "one" "other" "way" "low",u [],x 24,q "climb" 387 388 389 73 3 0 0 3 148 181 149 150 151 152 395 396,y 24 (V "treeasks.ways" 376) (r 153),u [],z [],hg 401 "one" "other" "way" "meeting",u [],x 25,q "way_between" 398 399 400 80 3 0 0 3 155 181 156 157 158 159 406 407,y 25 (V "treeasks.ways" 376) (r 160),u [],z [],u [(V "tree" 412),(V "ask" 413)],u [],x 26,q "way_of" 409 410 411 84 2 0 0 3 162 181 163 164 165 166 414 415,y 26 (V "treeasks.ways" 376) (r 167),u [],z [],x 27,hb "ways_of" 417 86 2 169 420,y 27 (V "treeasks.ways" 376) (r 172),u [],z [],hg 426 "one" "other" "way" "meeting",u [],x 28,q "meeting_of" 423 424 425 88 3 0 0 3 174 181 175 176 177 178 431 432,y 28 (V "treeasks.ways" 376) (r 179),u [],z [],x 30,hb "deepest_first" 436 93 2 181 439,y 30 (V "treeasks.rules" 434) (r 184),u [],z [],x 32,hb "parts_ways" 444 98 2 186 447,y 32 (V "treeasks.cuts" 442) (r 189),u [],z [],x 33,hb "serve" 450 100 2 191 453,y 33 (V "treeasks.cuts" 442) (r 194),u [],z [],x 34,hb "fill_ties" 456 105 3 196 459,y 34 (V "treeasks.cuts" 442) (r 199),u [],z [],x 35,hb "thinned" 462 113 2 201 465,y 35 (V "treeasks.cuts" 442) (r 204),u [],z [],hg 471 "asks" "ways" "flow" "row",u [],x 36,q "flow_and_cut" 468 469 470 120 2 0 0 3 206 181 207 208 209 210 476 477,y 36 (V "treeasks.cuts" 442) (r 211),u [],z [],u [(V "_law_script" 484),(V "_law_k" 485),(V "_law_cell" 486),(V "_law_seed" 487)],u [],x 38,q "_law_pool" 481 482 483 126 2 0 0 3 213 181 214 215 216 217 488 489,y 38 (V "law_treeasks_k59_flow_and_cut_by_the_rule" 479) (r 218),u [],z [],ha "_law_pool_here" 494 "_law_many" "_law_found",u [],x 39,q "_law_take" 491 492 493 134 2 0 0 3 220 181 221 222 223 224 497 498,y 39 (V "law_treeasks_k59_flow_and_cut_by_the_rule" 479) (r 225),u [],z [],ha "_law_pool_here" 503 "_law_most" "_law_way_here",u [],x 40,q "_law_number" 500 501 502 141 2 0 0 3 227 181 228 229 230 231 506 507,y 40 (V "law_treeasks_k59_flow_and_cut_by_the_rule" 479) (r 232),u [],z [],u [(V "_law_pool_here" 512),(V "_law_most" 513),(V "_law_shape" 514),(V "_law_parents_here" 515),(V "_law_place" 516),(V "_law_up_here" 517)],u [],x 41,q "_law_parents" 509 510 511 150 2 0 0 3 234 181 235 236 237 238 518 519,y 41 (V "law_treeasks_k59_flow_and_cut_by_the_rule" 479) (r 239),u [],z [],x 42,hb "_law_rooms" 521 157 3 241 524,y 42 (V "law_treeasks_k59_flow_and_cut_by_the_rule" 479) (r 244),u [],z [],ha "_law_pool_here" 530 "_law_many" "_law_one",u [],x 43,q "_law_ends" 527 528 529 160 2 0 0 3 246 181 247 248 249 250 533 534,y 43 (V "law_treeasks_k59_flow_and_cut_by_the_rule" 479) (r 251),u [],z [],ha "_law_parents_here" 539 "_law_place" "_law_found",u [],x 44,q "_law_up" 536 537 538 163 2 0 0 3 253 181 254 255 256 257 542 543,y 44 (V "law_treeasks_k59_flow_and_cut_by_the_rule" 479) (r 258)]
def Ttree_85 (Q : F) : Params → W.BT := bt 11 ((lL Q a0m a0k).take 47)
def _root_.PySem.W.Fast.tw10023655229156113220 : Params → W.BT := Ttree_85 PySem.W.Fast.tw6963075612888702905
theorem _root_.PySem.W.Fast.te10023655229156113220 : Ttree_85 Ob.A64 = PySem.W.Fast.tw10023655229156113220 := (congrArg Ttree_85 PySem.W.Fast.te6963075612888702905)
lay_quick Ob.A86
def Ttree_107 (Q : F) : Params → W.BT := bt 11 ((lL Q a1e a1c).take 66)
def _root_.PySem.W.Fast.tw10622898843480172690 : Params → W.BT := Ttree_107 PySem.W.Fast.tw11147188043990879120
theorem _root_.PySem.W.Fast.te10622898843480172690 : Ttree_107 Ob.A86 = PySem.W.Fast.tw10622898843480172690 := (congrArg Ttree_107 PySem.W.Fast.te11147188043990879120)
lay_quick Ob.A108
def Ttree_150 (Q : F) : Params → W.BT := bt 11 ((lL Q a2b a27).take 106)
def _root_.PySem.W.Fast.tw2533153180584851653 : Params → W.BT := Ttree_150 PySem.W.Fast.tw4549916873101738619
theorem _root_.PySem.W.Fast.te2533153180584851653 : Ttree_150 Ob.A108 = PySem.W.Fast.tw2533153180584851653 := (congrArg Ttree_150 PySem.W.Fast.te4549916873101738619)
lay_quick Ob.A151
def Ttree_227 (Q : F) : Params → W.BT := bt 11 ((lL Q a41 a27).take 181)
def _root_.PySem.W.Fast.tw16560007989141666669 : Params → W.BT := Ttree_227 PySem.W.Fast.tw6322598753939248023
theorem _root_.PySem.W.Fast.te16560007989141666669 : Ttree_227 Ob.A151 = PySem.W.Fast.tw16560007989141666669 := (congrArg Ttree_227 PySem.W.Fast.te6322598753939248023)
lay_quick Ob.A228
def Ttree_308 (Q : F) : Params → W.BT := bt 11 ((lL Q a69 a27).take 260)
def _root_.PySem.W.Fast.tw3630058348174419043 : Params → W.BT := Ttree_308 PySem.W.Fast.tw17994101207038046178
theorem _root_.PySem.W.Fast.te3630058348174419043 : Ttree_308 Ob.A228 = PySem.W.Fast.tw3630058348174419043 := (congrArg Ttree_308 PySem.W.Fast.te17994101207038046178)
end
end Ob
namespace L2
open PySem PySem.Spec PyProof.Rows
abbrev Key:=Sum Int Str
def qE:Key->Value->Bool
 | .inl k,v=>Value.isInt k v
 | .inr x,v=>Value.isStrOf x v
def keyH (w:World):Key->Int
 | .inl k=>hashInt k
 | .inr x=>hashStr w x
theorem bf:∀ {k:Key} {v:Value},qE k v=true->(∃ i t,k=Sum.inl i/\v=Value.int i t)\/(∃ x t,k=Sum.inr x/\v=Value.str x t)
 | .inl i,v,h=>by
  obtain ⟨t,e⟩:=Value.isInt_shape (k:=i) (v:=v) h
  exact .inl ⟨i,t,rfl,e⟩
 | .inr x,v,h=>by
  obtain ⟨t,e⟩:=Value.isStrOf_shape (x:=x) (v:=v) h
  exact .inr ⟨x,t,rfl,e⟩
theorem sC (a b:Int):decide ((Sum.inl a:Key)=Sum.inl b)=(a == b):=by
 by_cases e:a=b
 ·subst e; simp
 ·have h : ¬ (Sum.inl a:Key)=Sum.inl b:=λq=>e (Sum.inl.inj q)
  rw [decide_eq_false h]
  exact (beq_eq_false_iff_ne.mpr e).symm
theorem sS (a b:Str):decide ((Sum.inr a:Key)=Sum.inr b)=decide (a=b):=by
 by_cases e:a=b
 ·subst e; simp
 ·have h : ¬ (Sum.inr a:Key)=Sum.inr b:=λq=>e (Sum.inr.inj q)
  rw [decide_eq_false h,decide_eq_false e]
theorem sJ (a:Int) (b:Str):decide ((Sum.inl a:Key)=Sum.inr b)=false:=decide_eq_false (λq=>nomatch q)
theorem rV (a:Str) (b:Int):decide ((Sum.inr a:Key)=Sum.inl b)=false:=decide_eq_false (λq=>nomatch q)
def kY (prog:Program) (w:World):PySem.KeyKind prog w Key where
 is:=qE
 hash:=keyH w
 inj:=λv a b ha hb=>by
  rcases bf ha with ⟨i,t,rfl,rfl⟩ | ⟨x,t,rfl,rfl⟩
  ·rcases bf hb with ⟨j,u,rfl,e⟩ | ⟨y,u,rfl,e⟩
   ·injection e with e1 _; rw [e1]
   ·exact nomatch e
  ·rcases bf hb with ⟨j,u,rfl,e⟩ | ⟨y,u,rfl,e⟩
   ·exact nomatch e
   ·injection e with e1 _; rw [e1]
 byValue:=λk v h=>by
  rcases bf h with ⟨i,t,rfl,rfl⟩ | ⟨x,t,rfl,rfl⟩ <;> rfl
 pyHash:=λhv h=>by
  rcases bf hv with ⟨i,t,rfl,rfl⟩ | ⟨x,t,rfl,rfl⟩
  ·exact wpAny_pyHash_int h
  ·exact wpAny_pyHash_str h
 eqBool:=λhu hv h=>by
  rcases bf hu with ⟨i,t,rfl,rfl⟩ | ⟨x,t,rfl,rfl⟩
  ·rcases bf hv with ⟨j,u,rfl,rfl⟩ | ⟨y,u,rfl,rfl⟩
   ·rw [sC] at h; exact wpAny_eqBool_int h
   ·rw [sJ] at h; exact SeqAt.EqAt.int_str i t y u _ _ _ _ h
  ·rcases bf hv with ⟨j,u,rfl,rfl⟩ | ⟨y,u,rfl,rfl⟩
   ·rw [rV] at h; exact SeqAt.EqAt.str_int x t j u _ _ _ _ h
   ·rw [sS] at h; exact wpAny_eqBool_str h
 «strs»:=λk x t v h=>by
  rcases bf h with ⟨i,u,rfl,e⟩ | ⟨y,u,rfl,e⟩
  ·exact nomatch e
  ·injection e with e1 _
   subst e1
   cases v <;> rfl
inductive V where
 | non | bl (b:Bool) | int (i:Int) | str (x:Str) | byt (b:Array UInt8) | flt (b:UInt64) | ref (a:Addr) | ty (n:String)
 deriving DecidableEq
def aW:V->Value->Prop
 | .non,u=>u=Value.none
 | .bl b,u=>u=Value.bool b
 | .int i,u=>∃ t,u=Value.int i t
 | .str x,u=>∃ t,u=Value.str x t
 | .byt b,u=>∃ t,u=Value.bytes b t
 | .flt b,u=>∃ t,u=Value.float b t
 | .ref a,u=>u=Value.ref a
 | .ty n,u=>u=Value.type n
abbrev aH:List V->List Value->Prop:=Paired aW
theorem aH.length {xs:List V} {us:List Value} (r:aH xs us):xs.length=us.length:=Paired.length r
theorem aH.get:∀ {xs:List V} {us:List Value} {i:Nat} {x:V},aH xs us->xs[i]? = some x->∃ u,us[i]? = some u/\aW x u
 | _,_,_,_,.nil,e=>by simp at e
 | _,_,0,_,.cons r _,e=>by simp at e; subst e; exact ⟨_,rfl,r⟩
 | _,_,i + 1,x,.cons _ t,e=>by
  obtain ⟨u,h1,h2⟩:=aH.get (i:=i) (x:=x) t (by simpa using e)
  exact ⟨u,by simpa using h1,h2⟩
theorem aH.set {x:V} {u:Value} (r:aW x u):∀ {xs:List V} {us:List Value} (i:Nat),aH xs us->aH (xs.set i x) (us.set i u)
 | _,_,_,.nil=>.nil
 | _,_,0,.cons _ t=>.cons r t
 | _,_,i + 1,.cons q t=>.cons q (aH.set r i t)
theorem aH.append:∀ {xs ys:List V} {us ws:List Value},aH xs us->aH ys ws->aH (xs++ys) (us++ws)
 | _,_,_,_,.nil,s=>s
 | _,_,_,_,.cons r t,s=>.cons r (aH.append t s)
theorem aH.take:∀ {xs:List V} {us:List Value} (n:Nat),aH xs us->aH (xs.take n) (us.take n)
 | _,_,0,_=>.nil
 | _,_,_ + 1,.nil=>.nil
 | _,_,n + 1,.cons r t=>.cons r (aH.take n t)
theorem aH.drop:∀ {xs:List V} {us:List Value} (n:Nat),aH xs us->aH (xs.drop n) (us.drop n)
 | _,_,0,r=>r
 | _,_,_ + 1,.nil=>.nil
 | _,_,n + 1,.cons _ t=>aH.drop n t
def RelO:Option V->Option Value->Prop
 | some v,some u=>aW v u
 | none,none=>True
 | _,_=>False
def KV {κ:Type}:List (κ×V)->List (κ×Value)->Prop:=Paired λ(p : κ×V) (q : κ×Value)=>p.1=q.1/\aW p.2 q.2
def kV:Key->V
 | .inl i=>.int i
 | .inr x=>.str x
inductive HO where

 | lst (xs:List V)

 | tup (xs:List V)

 | dK (kvs:List (Key×V)) | dT (kvs:List (List Key×V))

 | set (S:Int->Bool) (n:Nat)

 | ins (C dx:Addr) (fs:List (Str×V))

 | own (x:Addr)

 | xd (fs:List (Str×V))

 | met (f x:Addr)

 | rng (lo hi:Int)

 | frz (o:Obj) (u:HO)

 | tbl (ps:Array Value) (q:Str)

 | ext (φ:Heap->Prop)
abbrev Hp:=Addr->Option HO
def upd (H:Hp) (a:Addr) (o:HO):Hp:=λb=>if b=a then some o else H b
theorem ay {H:Hp} {a:Addr} {o:HO}:upd H a o a=some o:=by unfold upd; rw [if_pos rfl]
theorem ah {H:Hp} {a b:Addr} {o:HO} (h:b≠a):upd H a o b=H b:=by unfold upd; rw [if_neg h]
theorem av {H:Hp} {a b:Addr} {o:HO} (h:H a=some o) (h':H b=none):a≠b:=by
 intro e; subst e; rw [h] at h'; cases h'
def TbV (H:Hp) (ps:Array Value) (q:Str):Prop:=TriplesOk ps.toList/\∀ pos cv,codeAmong pos ps.toList=some cv->∃ c o vs t,cv = .ref c/\H c=some (.frz o (.own 0))/\o.data = .fields vs/\vs[1]? = some (.str q t)
theorem TbV.mono {H H':Hp} {ps:Array Value} {q:Str} (h:TbV H ps q) (hf:∀ b o u,H b=some (.frz o u)->H' b=some (.frz o u)):TbV H' ps q:=⟨h.1,λpos cv e=>let ⟨c,o,vs,t,a,b,r⟩:=h.2 pos cv e; ⟨c,o,vs,t,a,hf _ _ _ b,r⟩⟩
section
variable (P:Program) (w:World)
def bn (H:Hp) (h:Heap) (a:Addr):HO->Prop
 | .lst xs=>xs.length<=sizeLine/\∃ (its:List Value) (n:Nat),aH xs its/\h.get? a=some { cls:=.type "list",data:=.seq its.toArray n }
 | .tup xs=>xs.length<=sizeLine/\∃ its:List Value,aH xs its/\IsTup h a its.toArray
 | .dK kvs=>kvs.length<=sizeLine/\(a == sysModules)=false/\∃ vs,KV kvs vs/\h.DictOf (kY P w) a vs
 | .dT kvs=>kvs.length<=sizeLine/\(a == sysModules)=false/\∃ xs:List (List Key×Addr×Value),
  Paired (λ(p:List Key×V) (q:List Key×Addr×Value)=>p.1=q.1/\H q.2.1=some (.tup (p.1.map kV))/\aW p.2 q.2.2) kvs xs /\
  ∃ o es ep,h.get? a=some o/\o.ExactDict/\o.data = .dict es ep/\es.toList=xs.map (entryOfKey (tupleKind (kY P w)))/\(xs.map (·.1)).Nodup
 | .set S n=>h.SetOf (intKind P w) a S n
 | .ins C dx fs=>H dx=some (.own a)/\fs.length<=1000/\dx≠a/\h.get? a=some (PySem.W.instObj C dx) /\
  ∃ mA,h.Ns1 dx mA/\(∀ f,RelO (fs.lookup f) (mA f))/\PySem.Within mA (fs.map (·.1))
 | .own _=>∃ o,h.get? a=some o
 | .xd fs=>∃ mA,h.Ns1 a mA/\∀ f,RelO (fs.lookup f) (mA f)
 | .rng lo hi=>∃ t u v,h.get? a=some { cls:=.type "range",data:=.fields #[.int lo t,.int hi u,.int 1 v] }
 | .frz o u=>h.get? a=some o/\bn H h a u
 | .tbl ps q=>h.get? a=some { cls:=.none,data:=.fields ps }/\TbV H ps q
 | .met f x=>h.get? a=some (PySem.W.methodObj (.ref f) (.ref x))
 | .ext φ=>φ h/\(∃ o,h.get? a=some o)/\∀ h1 h2:Heap,φ h1->(∀ o,h1.get? a=some o->h2.get? a=some o)->φ h2
def HOk (H:Hp) (h:Heap):Prop:=∀ a o,H a=some o->bn P w H h a o
end
section
variable {P:Program} {w:World} {H H':Hp} {h h':Heap} {a:Addr} {o:HO}
theorem bn.lt (x:bn P w H h a o):a<h.objs.size:=by
 cases o with
 | lst xs=>obtain ⟨_,_,_,_,e⟩:=x; exact Heap.lt_size e
 | tup xs=>obtain ⟨_,_,_,p⟩:=x; exact p.lt
 | dK kvs=>obtain ⟨_,_,_,_,o,_,_,e,_⟩:=x; exact Heap.lt_size e
 | dT kvs=>obtain ⟨_,_,_,_,o,_,_,e,_⟩:=x; exact Heap.lt_size e
 | set S n=>obtain ⟨o,_,_,_,e,_⟩:=x; exact Heap.lt_size e
 | ins C dx fs=>obtain ⟨_,_,_,e,_⟩:=x; exact Heap.lt_size e
 | own y=>obtain ⟨_,e⟩:=x; exact Heap.lt_size e
 | xd fs=>obtain ⟨_,⟨_,_,_,e,_⟩,_⟩:=x; exact Heap.lt_size e
 | rng lo hi=>obtain ⟨_,_,_,e⟩:=x; exact Heap.lt_size e
 | frz ob u=>obtain ⟨e,_⟩:=x; exact Heap.lt_size e
 | tbl ps q=>obtain ⟨e,_⟩:=x; exact Heap.lt_size e
 | met f y=>exact Heap.lt_size (show h.get? a=some _ from x)
 | ext φ=>obtain ⟨_,⟨_,e⟩,_⟩:=x; exact Heap.lt_size e
theorem Paired.mapP {α β:Type} {F G : α->β->Prop}:∀ {l₁:List α} {l₂:List β},Paired F l₁ l₂->(∀ a b,F a b->G a b)->Paired G l₁ l₂
 | _,_,.nil,_=>.nil
 | _,_,.cons r t,f=>.cons (f _ _ r) (Paired.mapP t f)
theorem bn.stay (x:bn P w H h a o) (k:∀ b u,(b=a\/H b=some (.own a))->h.get? b=some u->h'.get? b=some u)
 (ho:∀ b,H b=some (.own a)->H' b=some (.own a)) (ht:∀ b xs,H b=some (.tup xs)->H' b=some (.tup xs)) (hf:∀ b o u,H b=some (.frz o u)->H' b=some (.frz o u)):bn P w H' h' a o:=by
 induction o with
 | lst xs=>obtain ⟨z,its,n,r,e⟩:=x; exact ⟨z,its,n,r,k _ _ (.inl rfl) e⟩
 | tup xs=>obtain ⟨z,its,r,ob,e,c⟩:=x; exact ⟨z,its,r,ob,k _ _ (.inl rfl) e,c⟩
 | dK kvs=>obtain ⟨z,y,vs,r,ob,es,ep,e,c⟩:=x; exact ⟨z,y,vs,r,ob,es,ep,k _ _ (.inl rfl) e,c⟩
 | dT kvs =>
  obtain ⟨z,y,xs,r,ob,es,ep,e,c⟩:=x
  exact ⟨z,y,xs,Paired.mapP r λp q z=>⟨z.1,ht _ _ z.2.1,z.2.2⟩,ob,es,ep,k _ _ (.inl rfl) e,c⟩
 | set S n=>obtain ⟨ob,es,ep,t,e,c⟩:=x; exact ⟨ob,es,ep,t,k _ _ (.inl rfl) e,c⟩
 | ins C dx fs =>
  obtain ⟨d,z,ne,e,mA,⟨od,es,ep,e2,c⟩,r⟩:=x
  exact ⟨ho _ d,z,ne,k _ _ (.inl rfl) e,mA,⟨od,es,ep,k _ _ (.inr d) e2,c⟩,r⟩
 | own y=>obtain ⟨ob,e⟩:=x; exact ⟨ob,k _ _ (.inl rfl) e⟩
 | xd fs=>obtain ⟨mA,⟨od,es,ep,e,c⟩,r⟩:=x; exact ⟨mA,⟨od,es,ep,k _ _ (.inl rfl) e,c⟩,r⟩
 | rng lo hi=>obtain ⟨t,u,v,e⟩:=x; exact ⟨t,u,v,k _ _ (.inl rfl) e⟩
 | frz ob u ih=>obtain ⟨e,q⟩:=x; exact ⟨k _ _ (.inl rfl) e,ih q⟩
 | tbl ps q=>obtain ⟨e,v⟩:=x; exact ⟨k a _ (.inl rfl) e,v.mono hf⟩
 | met f y =>
  have e:h.get? a=some (PySem.W.methodObj (.ref f) (.ref y)):=x
  show h'.get? a=some (PySem.W.methodObj (.ref f) (.ref y))
  exact k a _ (.inl rfl) e
 | ext φ=>obtain ⟨p,⟨o,e⟩,st⟩:=x; exact ⟨st _ _ p λo q=>k _ _ (.inl rfl) q,⟨o,k _ _ (.inl rfl) e⟩,st⟩
theorem HOk.lt (x:HOk P w H h) (e:H a=some o):a<h.objs.size:=(x a o e).lt
theorem HOk.fresh (x:HOk P w H h) (e:h.objs.size<=a):H a=none:=by
 cases q:H a with
 | none=>rfl
 | some u=>exact absurd (Nat.lt_of_lt_of_le (x.lt q) e) (Nat.lt_irrefl _)
theorem HOk.kept (x:HOk P w H h) (k:∀ b u,h.get? b=some u->h'.get? b=some u):HOk P w H h':=λa o e =>
 (x a o e).stay (λb u _ q=>k b u q) (λ_ q=>q) (λ_ _ q=>q) λ_ _ _ q=>q
theorem HOk.laid (x:HOk P w H h) (k:∀ b u,h.get? b=some u->h'.get? b=some u) (hp:h.objs.size<=a) (new:bn P w (upd H a o) h' a o):HOk P w (upd H a o) h':=λb u e=>by
 have hn:=x.fresh hp
 by_cases hb:b=a
 ·subst hb; rw [ay] at e; cases e; exact new
 ·rw [ah hb] at e
  exact (x b u e).stay (λc v _ q=>k c v q) (λc q=>by rw [ah (av q hn)]; exact q) (λc xs q=>by rw [ah (av q hn)]; exact q) λc ob u q=>by rw [ah (av q hn)]; exact q
end
def Rd (H:Hp) (a:Addr) (u:HO):Prop:=H a=some u\/∃ o,H a=some (.frz o u)
theorem Rd.ok {P:Program} {w:World} {H:Hp} {h:Heap} {a:Addr} {u:HO} (r:Rd H a u) (x:HOk P w H h):bn P w H h a u:=by
 rcases r with r | ⟨o,r⟩
 ·exact x a u r
 ·obtain ⟨_,q⟩:=x a _ r
  exact q
def Mut:Option HO->Prop
 | some (.lst _)=>True
 | some (.dK _)=>True
 | some (.dT _)=>True
 | some (.set _ _)=>True
 | some (.ins _ _ _)=>True
 | some (.ext _)=>True
 | _=>False
section
variable {P:Program} {w:World} {H:Hp} {h h':Heap} {x e:Addr} {o':HO}
theorem HOk.write (ok:HOk P w H h) (mu:Mut (H x)) (he:e=x\/H e=some (.own x)) (k:∀ b u,b≠e->h.get? b=some u->h'.get? b=some u) (heo:∃ u,h'.get? e=some u)
 (new:bn P w (upd H x o') h' x o'):HOk P w (upd H x o') h':=λb u q=>by
 have nown:∀ c y,H c=some (.own y)->c≠x:=λc y r z=>by subst z; rw [r] at mu; exact mu
 have ntup:∀ c xs,H c=some (.tup xs)->c≠x:=λc xs r z=>by subst z; rw [r] at mu; exact mu
 have nfrz:∀ c ob u,H c=some (.frz ob u)->c≠x:=λc ob u r z=>by subst z; rw [r] at mu; exact mu
 by_cases hb:b=x
 ·subst hb; rw [ay] at q; cases q; exact new
 ·rw [ah hb] at q
  by_cases hbe:b=e
  ·have q':H b=some (.own x):=by
    rcases he with z | z
    ·exact absurd (hbe.trans z) hb
    ·rw [hbe]; exact z
   rw [q] at q'; cases q'
   obtain ⟨v,hv⟩:=heo
   exact ⟨v,by rw [hbe]; exact hv⟩
  ·refine (ok b u q).stay (λc v hc r=>k c v ?_ r) (λc r=>by rw [ah (nown c b r)]; exact r) (λc xs r=>by rw [ah (ntup c xs r)]; exact r) λc ob u r=>by rw [ah (nfrz c ob u r)]; exact r
   rcases hc with rfl | hc
   ·exact hbe
   ·rintro rfl
    rcases he with z | z
    ·exact nown c b hc z
    ·rw [hc] at z; cases z; exact hb rfl
end
structure Un (fs ex:List Addr) (H H':Hp) (h h':Heap):Prop where
 keep:∀ b o,h.get? b=some o->H b=none->b ∉ fs->b ∉ ex->h'.get? b=some o
 slot:∀ b o,h.get? b=some o->H b=none->b∈fs->b ∉ ex->∃ sl,h'.get? b=some { o with slots:=sl }
 free:∀ b o,h.get? b=some o->H b=none->b ∉ ex->H' b=none
 there:∀ b o,h.get? b=some o->b ∉ ex->∃ o',h'.get? b=some o'
 tups:∀ b xs,H b=some (.tup xs)->H' b=some (.tup xs)
 frzs:∀ b o u,H b=some (.frz o u)->H' b=some (.frz o u)
 tbls:∀ b ps q,H b=some (.tbl ps q)->∃ more,H' b=some (.tbl (ps++more) q)
section
variable {fs fs' ex ex':List Addr} {H H1 H2:Hp} {h h1 h2 h':Heap} {a x e:Addr} {o:HO}
theorem Un.any (u:Un fs ex H H1 h h1) {b:Addr} {ob:Obj} (q:h.get? b=some ob) (n:H b=none) (hx:b ∉ ex):∃ sl,h1.get? b=some { ob with slots:=sl }:=by
 by_cases hb:b∈fs
 ·exact u.slot b ob q n hb hx
 ·exact ⟨ob.slots,u.keep b ob q n hb hx⟩
theorem Un.kept (k:∀ b u,h.get? b=some u->h'.get? b=some u):Un fs ex H H h h' :=
 ⟨λb ob q _ _ _=>k b ob q,λb ob q _ _ _=>⟨ob.slots,k b ob q⟩,λ_ _ _ n _=>n,λb ob q _=>⟨ob,k b ob q⟩,λ_ _ q=>q,λ_ _ _ q=>q,λ_ ps _ q=>⟨#[],by rw [q]; simp⟩⟩
theorem Un.refl:Un fs ex H H h h:=Un.kept λ_ _ q=>q
theorem Un.laid (k:∀ b u,h.get? b=some u->h'.get? b=some u) (hp:h.objs.size<=a) (hn:H a=none):Un fs ex H (upd H a o) h h' where
 keep:=λb u q _ _ _=>k b u q
 slot:=λb u q _ _ _=>⟨u.slots,k b u q⟩
 free:=λb u q n _=>by rw [ah (Nat.ne_of_lt (Nat.lt_of_lt_of_le (Heap.lt_size q) hp))]; exact n
 there:=λb u q _=>⟨u,k b u q⟩
 tups:=λb xs q=>by rw [ah (av q hn)]; exact q
 frzs:=λb u xs q=>by rw [ah (av q hn)]; exact q
 tbls:=λb ps _ q=>⟨#[],by rw [ah (av q hn),q]; simp⟩
theorem Un.write (mu:Mut (H x)) (he:e=x\/H e=some (.own x)) (k:∀ b u,b≠e->h.get? b=some u->h'.get? b=some u) (heo:∃ u,h'.get? e=some u):Un fs ex H (upd H x o) h h':=by
 have hx:∀ b,H b=none->b≠x:=λb n z=>by subst z; rw [n] at mu; exact mu
 have hb:∀ b,H b=none->b≠e:=λb n z=>by
  subst z
  rcases he with r | r
  ·exact hx b n r
  ·rw [n] at r; cases r
 have hm:∀ b u,H b=some u->¬ Mut (some u)->b≠x:=λb u q nm z=>by subst z; rw [q] at mu; exact nm mu
 refine ⟨λb u q n _ _=>k b u (hb b n) q,λb u q n _ _=>⟨u.slots,k b u (hb b n) q⟩,λb u q n _=>by rw [ah (hx b n)]; exact n,λb u q _=>?_,
  λb xs q=>by rw [ah (hm b _ q λz=>z)]; exact q,λb u xs q=>by rw [ah (hm b _ q λz=>z)]; exact q,λb ps _ q=>⟨#[],by rw [ah (hm b _ q λz=>z),q]; simp⟩⟩
 by_cases hbe:b=e
 ·subst hbe; exact heo
 ·exact ⟨u,k b u hbe q⟩
end
def l5 (v:Value):Obj:=⟨v,none,.freed,#[]⟩
def jy (h:Heap) (H:Hp) (i:Addr):Obj:=match H i with
 | some (.tbl _ q)=>l5 (.str q 0)
 | some _=>l5 .none
 | none=>match h.get? i with
  | some o=>o
  | none=>l5 .none
def cS (h:Heap) (H:Hp):Heap:=⟨Array.ofFn (n:=h.objs.size) λi=>jy h H i,h.life⟩
theorem et (h:Heap) (H:Hp):(cS h H).objs.size=h.objs.size:=by simp [cS]
theorem jl {h:Heap} {H:Hp} {b:Addr} {o:Obj} (e:(cS h H).objs[b]? = some o):b<h.objs.size/\o=jy h H b:=by
 obtain ⟨hb,e⟩:=Array.getElem?_eq_some_iff.mp e
 rw [et] at hb
 refine ⟨hb,?_⟩
 rw [<- e]; simp [cS]
theorem nofree {h:Heap} {b:Addr} {o:Obj} (e:h.get? b=some o):h.objs[b]? = some o/\o.data≠.freed:=by
 unfold Heap.get? at e
 split at e
 ·cases e
 ·rename_i hn
  refine ⟨e,λz=>?_⟩
  obtain ⟨c,d,da,sl⟩:=o
  have z:da = .freed:=z
  subst z
  exact hn c d sl e
theorem ql {h:Heap} {b:Addr} {o:Obj} (e:h.objs[b]? = some o) (n:o.data≠.freed):h.get? b=some o:=by
 unfold Heap.get?
 split
 ·rename_i c d sl e'
  rw [e] at e'; cases e'
  exact absurd rfl n
 ·exact e
theorem nO {h:Heap} {H:Hp} {b:Addr} {o:Obj} (e:h.get? b=some o) (n:H b=none):(cS h H).get? b=some o:=by
 have hb:b<(cS h H).objs.size:=by rw [et]; exact Heap.lt_size e
 refine ql ?_ (nofree e).2
 rw [Array.getElem?_eq_getElem hb]
 have:(cS h H).objs[b]=jy h H b:=by simp [cS]
 rw [this]; unfold jy; rw [n,e]
theorem qw {h:Heap} {H:Hp} {b:Addr} {o:Obj} (e:(cS h H).get? b=some o):h.get? b=some o/\H b=none:=by
 obtain ⟨e1,nf⟩:=nofree e
 obtain ⟨_,e2⟩:=jl e1
 unfold jy at e2
 split at e2
 ·rw [e2] at nf; exact absurd rfl nf
 ·rw [e2] at nf; exact absurd rfl nf
 ·rename_i hn
  split at e2
  ·rename_i o' e3
   exact ⟨e3.trans (by rw [e2]),hn⟩
  ·rw [e2] at nf; exact absurd rfl nf
def TMk (base:Heap) (P:Addr) (q:Str):Prop:=base.objs[P]? = some (l5 (.str q 0))
def TbM (base:Heap) (H:Hp):Prop:=∀ P q,TMk base P q->∃ ps,H P=some (.tbl ps q)
theorem TbM.un {base h h':Heap} {H H':Hp} {fs ex:List Addr} (x:TbM base H) (u:Un fs ex H H' h h'):TbM base H':=λP q m=>let ⟨ps,z⟩:=x P q m; let ⟨more,y⟩:=u.tbls P ps q z; ⟨_,y⟩
theorem TbM.hid {h:Heap} {H:Hp}:TbM (cS h H) H:=λP q m=>by
 obtain ⟨_,e⟩:=jl m
 unfold jy at e
 split at e
 ·rename_i ps q' hq
  have e:l5 (.str q 0)=l5 (.str q' 0):=e
  cases e; exact ⟨ps,hq⟩
 ·cases e
 ·split at e
  ·rename_i o e3
   have:=(nofree e3).2
   rw [<- e] at this; exact absurd rfl this
  ·cases e
theorem TMk.hid {h:Heap} {H:Hp} {P:Addr} {ps:Array Value} {q:Str} (hP:P<h.objs.size) (e:H P=some (.tbl ps q)):TMk (cS h H) P q:=by
 have hb:P<(cS h H).objs.size:=by rw [et]; exact hP
 unfold TMk
 rw [Array.getElem?_eq_getElem hb]
 have:(cS h H).objs[P]=jy h H P:=by simp [cS]
 rw [this]; unfold jy; rw [e]
structure Mod (K:PySem.W.Frag) (mg:Str->Option Value) (base:Heap):Prop where
 kin:K.In base
 glob:base.Ns mainGlobals mg
 blt:∃ mb,base.Ns builtinsNs mb/\∀ x:Str,x ≠ "__name__" -> mb x=bootBuiltins x
 nolimit:base.NoLimit
structure Cx where
 prog:Program
 w:World
 K:PySem.W.Frag
 mg:Str->Option Value
 base:Heap
 A:Around
 N:List Str
 s₀:Shared
 H₀:Hp
 env:Env
 outer:List Env
 stack:List Env
 ex:List Addr
 fn:Str->Bool
 calm:Bool
 pn:List (Addr×Obj)
 xe:Value->Shared->Prop
def frs (l:List Env):List Addr:=l.filterMap (·.frame)
abbrev Cx.fs (X:Cx):List Addr:=frs X.outer
def Vis (sc:Scope) (x:Str):Prop:=sc.names.lookup x=some .local\/sc.names.lookup x=some .cell\/sc.names.lookup x=some .free
def Loc (sc:Scope) (x:Str):Prop:=sc.names.lookup x=some .local\/sc.names.lookup x=some .cell
def Look (env:Env) (h:Heap) (m:Str->Option Value) (x:Str) (u:Value):Prop :=
 (env.kindOf x=some .local/\m x=some u)\/((env.kindOf x=some .cell\/env.kindOf x=some .free)/\∃ c,env.cells.lookup x=some c/\h.IsCell c (some u))
structure Cx.Ok (X:Cx):Prop where
 mod:Mod X.K X.mg X.base
 kind:X.env.scope.kind = .function
 glob:X.env.globals=mainGlobals
 blt:X.env.builtins=builtinsNs
 above:X.s₀.heap.objs.size<=X.env.locals
 inj:∀ x y c,X.env.cells.lookup x=some c->X.env.cells.lookup y=some c->x=y
 has:∀ x,(X.env.kindOf x=some .cell\/X.env.kindOf x=some .free)->∃ c,X.env.cells.lookup x=some c
 cab:∀ x c,X.fn x=true->X.env.cells.lookup x=some c->X.s₀.heap.objs.size<=c
 hd:X.calm=true->X.A.handled=none
 frames:X.A.frames=some X.stack
 stk:X.stack=X.outer\/(X.stack=X.env :: X.outer/\X.env.frame=some X.env.locals)
 exf:∀ b∈X.ex,b≠X.env.locals/\∀ x c,X.env.cells.lookup x=some c->c≠b
 bs:∀ b o,X.base.get? b=some o->X.s₀.heap.get? b=some o/\X.H₀ b=none
 bsz:X.base.objs.size<=X.s₀.heap.objs.size
 noex:∀ b o,X.base.get? b=some o->b ∉ X.ex
 exfs:∀ b∈X.ex,b ∉ X.fs
 funs:X.s₀.heap.FunFrames X.base X.outer
 frf:∀ b∈X.fs,X.H₀ b=none
 tb:TbM X.base X.H₀
structure Inv (X:Cx) (pins:List (Addr×Obj)) (σ:List (Option V)) (H:Hp) (s:Shared):Prop where
 ok:X.Ok
 os:s.os=X.s₀.os
 bare:AllBare s.gens
 base:Un X.fs X.ex X.H₀ H X.s₀.heap s.heap
 loc:∃ m,s.heap.Ns X.env.locals m/\∀ (i:Nat) (x:Str) (v:V),X.N[i]? = some x->σ[i]? = some (some v)->Vis X.env.scope x->∃ u,aW v u/\Look X.env s.heap m x u
 cell:∀ x c,X.env.cells.lookup x=some c->∃ v,s.heap.IsCell c v
 free:H X.env.locals=none
 freeC:∀ x c,X.env.cells.lookup x=some c->H c=none
 pin:∀ p∈X.pn++pins,s.heap.get? p.1=some p.2/\H p.1=none/\p.1≠X.env.locals/\p.1 ∉ X.fs/\∀ v,p.2.data≠.cell v
 hok:HOk X.prog X.w H s.heap
 len : σ.length=X.N.length
section
variable {X:Cx} {pins:List (Addr×Obj)} {σ:List (Option V)} {H H':Hp} {s:Shared} {h':Heap}
theorem Cx.Ok.nofr (ok:X.Ok) {b:Addr} {o:Obj} (e:X.base.get? b=some o):b ∉ X.fs:=λhb=>by
 have:=(ok.funs.mem hb).1
 rw [e] at this; cases this
theorem Inv.bs (I:Inv X pins σ H s):∀ b o,X.base.get? b=some o->s.heap.get? b=some o/\H b=none:=λb o e =>
 ⟨I.base.keep b o (I.ok.bs b o e).1 (I.ok.bs b o e).2 (I.ok.nofr e) (I.ok.noex b o e),I.base.free b o (I.ok.bs b o e).1 (I.ok.bs b o e).2 (I.ok.noex b o e)⟩
theorem Inv.bk (I:Inv X pins σ H s):∀ b o,X.base.get? b=some o->s.heap.get? b=some o:=λb o e=>(I.bs b o e).1
theorem Inv.mod (I:Inv X pins σ H s):Mod X.K X.mg X.base:=I.ok.mod
theorem Inv.kIn (I:Inv X pins σ H s):X.K.In s.heap:=I.ok.mod.kin.keeps I.bk
theorem Inv.nolimit (I:Inv X pins σ H s):s.heap.NoLimit:=I.ok.mod.nolimit.keeps I.bk
theorem Inv.fr (I:Inv X pins σ H s):∃ m,Fr X.base X.env.locals s.heap m :=
 let ⟨m,hn,_⟩:=I.loc
 ⟨m,hn,I.bk,Nat.le_trans I.ok.bsz I.ok.above⟩
theorem Inv.lt (I:Inv X pins σ H s):X.env.locals<s.heap.objs.size:=let ⟨_,hn,_⟩:=I.loc; hn.lt
theorem Inv.sz (I:Inv X pins σ H s):X.s₀.heap.objs.size<=s.heap.objs.size:=Nat.le_trans I.ok.above (Nat.le_of_lt I.lt)
theorem Inv.nofs (I:Inv X pins σ H s) {a:Addr} (h:s.heap.objs.size<=a):a ∉ X.fs:=λhb=>by
 obtain ⟨_,o,ho,_⟩:=I.ok.funs.mem hb
 exact absurd (Nat.lt_of_lt_of_le (Heap.lt_size ho) (Nat.le_trans I.sz h)) (Nat.lt_irrefl _)
theorem Inv.cne (I:Inv X pins σ H s):∀ x c,X.env.cells.lookup x=some c->c≠X.env.locals:=λx c e z=>by
 obtain ⟨v,o,ho,hd⟩:=I.cell x c e
 obtain ⟨m,⟨o',es,ep,ho',hd',_⟩,_⟩:=I.loc
 rw [z,ho'] at ho; cases ho; rw [hd'] at hd; cases hd
theorem Inv.funs (I:Inv X pins σ H s):s.heap.FunFrames X.base X.outer:=by
 have all:∀ (l:List Env),(∀ b∈frs l,b∈X.fs)->X.s₀.heap.FunFrames X.base l->s.heap.FunFrames X.base l:=by
  intro l
  induction l with
  | nil=>intro _ _; trivial
  | cons env r ih =>
   intro hs hl
   obtain ⟨hk,⟨L,o,hf,hn,ho,hd⟩,hr⟩:=hl
   have hL:L∈X.fs:=hs L (by unfold frs; rw [List.filterMap_cons,hf]; exact List.mem_cons_self)
   obtain ⟨sl,e⟩:=I.base.slot L o ho (I.ok.frf L hL) hL λz=>I.ok.exfs L z hL
   exact ⟨hk,⟨L,_,hf,hn,e,hd⟩,ih (λb hb=>hs b (by unfold frs; rw [List.filterMap_cons,hf]; exact List.mem_cons_of_mem _ hb)) hr⟩
 exact all X.outer (λ_ hb=>hb) I.ok.funs
theorem Inv.stack (I:Inv X pins σ H s):s.heap.FunFrames X.base X.stack:=by
 rcases I.ok.stk with e | ⟨e,hf⟩
 ·rw [e]; exact I.funs
 ·rw [e]
  obtain ⟨m,hn,_⟩:=I.loc
  refine .cons (by rw [I.ok.kind]; decide) hf hn ?_ I.funs
  exact Heap.get?_none_of_le (Nat.le_trans I.ok.bsz I.ok.above)
theorem Inv.stkSub (I:Inv X pins σ H s):∀ b∈frs X.stack,b∈X.env.locals :: X.fs:=λb hb=>by
 rcases I.ok.stk with e | ⟨e,hf⟩
 ·rw [e] at hb; exact List.mem_cons_of_mem _ hb
 ·rw [e] at hb
  unfold frs at hb
  rw [List.filterMap_cons,hf] at hb
  exact hb
theorem Inv.stkFree (I:Inv X pins σ H s):∀ b∈frs X.stack,H b=none:=λb hb=>by
 rcases List.mem_cons.mp (I.stkSub b hb) with e | hb
 ·rw [e]; exact I.free
 ·obtain ⟨_,o,ho,_⟩:=I.ok.funs.mem hb
  exact I.base.free b o ho (I.ok.frf b hb) λz=>I.ok.exfs b z hb
theorem Inv.step {g':Array GenState} {t':Nat} {d':Drawn} {ch:List Addr} (I:Inv X pins σ H s)
 (hch:∀ b∈ch,(b∈X.ex\/X.s₀.heap.objs.size<=b)/\b≠X.env.locals/\(∀ x c,X.env.cells.lookup x=some c->c≠b)/\∀ p∈X.pn++pins,p.1≠b)
 (keep:∀ b o,b≠X.env.locals->b ∉ X.fs->b ∉ ch->s.heap.get? b=some o->H b=none->h'.get? b=some o)
 (slot:∀ b o,b≠X.env.locals->b∈X.fs->b ∉ ch->s.heap.get? b=some o->H b=none->∃ sl,h'.get? b=some { o with slots:=sl }) (free:∀ b o,b ∉ ch->s.heap.get? b=some o->H b=none->H' b=none)
 (there:∀ b o,b ∉ ch->s.heap.get? b=some o->∃ o',h'.get? b=some o')
 (tups:∀ b xs,H b=some (.tup xs)->H' b=some (.tup xs)) (frzs:∀ b o u,H b=some (.frz o u)->H' b=some (.frz o u)) (tbls:∀ b ps q,H b=some (.tbl ps q)->∃ more,H' b=some (.tbl (ps++more) q))
 (ns:∀ m,s.heap.Ns X.env.locals m->h'.Ns X.env.locals m) (hok:HOk X.prog X.w H' h') (hg:AllBare g') :
 Inv X pins σ H' { s with heap:=h',gens:=g',drawn:=d',toks:=t' }:=by
 have neL:∀ b o,X.s₀.heap.get? b=some o->b≠X.env.locals:=λb o e=>Nat.ne_of_lt (Nat.lt_of_lt_of_le (Heap.lt_size e) I.ok.above)
 have neC:∀ b o,X.s₀.heap.get? b=some o->b ∉ X.ex->b ∉ ch:=λb o e hx hb=>by
  rcases (hch b hb).1 with z | z
  ·exact hx z
  ·exact absurd (Nat.lt_of_lt_of_le (Heap.lt_size e) z) (Nat.lt_irrefl _)
 have cellK:∀ x c,X.env.cells.lookup x=some c->∀ v,s.heap.IsCell c v->h'.IsCell c v:=λx c e v ⟨o,ho,hd⟩=>by
  have nch:c ∉ ch:=λz=>(hch c z).2.2.1 x c e rfl
  by_cases hc:c∈X.fs
  ·obtain ⟨sl,q⟩:=slot c o (I.cne x c e) hc nch ho (I.freeC x c e)
   exact ⟨_,q,hd⟩
  ·exact ⟨o,keep c o (I.cne x c e) hc nch ho (I.freeC x c e),hd⟩
 refine ⟨I.ok,I.os,hg,⟨λb o e n hb hx=>?_,λb o e n hb hx=>?_,λb o e n hx=>?_,λb o e hx=>?_,λb xs e=>tups b xs (I.base.tups b xs e),λb o xs e=>frzs b o xs (I.base.frzs b o xs e),λb ps q e=>?_⟩,?_,λx c e=>?_,?_,λx c e=>?_,λp hp=>?_,hok,I.len⟩
 ·exact keep b o (neL b o e) hb (neC b o e hx) (I.base.keep b o e n hb hx) (I.base.free b o e n hx)
 ·obtain ⟨sl,e1⟩:=I.base.slot b o e n hb hx
  obtain ⟨sl',e2⟩:=slot b _ (neL b o e) hb (neC b o e hx) e1 (I.base.free b o e n hx)
  exact ⟨sl',e2⟩
 ·obtain ⟨o',e1⟩:=I.base.there b o e hx
  exact free b o' (neC b o e hx) e1 (I.base.free b o e n hx)
 ·obtain ⟨o',e1⟩:=I.base.there b o e hx
  exact there b o' (neC b o e hx) e1
 ·obtain ⟨m1,e1⟩:=I.base.tbls b ps q e
  obtain ⟨m2,e2⟩:=tbls b _ q e1
  exact ⟨m1++m2,by rw [e2,Array.append_assoc]⟩
 ·obtain ⟨m,hn,hl⟩:=I.loc
  refine ⟨m,ns m hn,λi x v e1 e2 e3=>?_⟩
  obtain ⟨u,r,l⟩:=hl i x v e1 e2 e3
  refine ⟨u,r,?_⟩
  rcases l with l | ⟨k,c,e,z⟩
  ·exact .inl l
  ·exact .inr ⟨k,c,e,cellK x c e _ z⟩
 ·obtain ⟨v,z⟩:=I.cell x c e
  exact ⟨v,cellK x c e v z⟩
 ·obtain ⟨m,⟨o,_,_,ho,_⟩,_⟩:=I.loc
  exact free _ o (λz=>(hch _ z).2.1 rfl) ho I.free
 ·obtain ⟨v,o,ho,hd⟩:=I.cell x c e
  exact free c o (λz=>(hch c z).2.2.1 x c e rfl) ho (I.freeC x c e)
 ·obtain ⟨e,n,ne,nf,d⟩:=I.pin p hp
  have nch:p.1 ∉ ch:=λz=>(hch p.1 z).2.2.2 p hp rfl
  exact ⟨keep p.1 p.2 ne nf nch e n,free p.1 p.2 nch e n,ne,nf,d⟩
theorem Inv.un {t':Nat} (I:Inv X pins σ H s) (u:Un X.fs [] H H' s.heap h') (hok:HOk X.prog X.w H' h'):Inv X pins σ H' { s with heap:=h',toks:=t' }:=by
 obtain ⟨m,⟨o,es,ep,ho,r⟩,_⟩:=id I.loc
 obtain ⟨sl,hL⟩:=u.any ho I.free (by simp)
 exact I.step (g':=s.gens) (d':=s.drawn) (ch:=[]) (λ_ z=>nomatch z) (λb o _ hb _ e n=>u.keep b o e n hb (by simp)) (λb o _ hb _ e n=>u.slot b o e n hb (by simp)) (λb o _ e n=>u.free b o e n (by simp)) (λb o _ e=>u.there b o e (by simp)) u.tups u.frzs u.tbls (λm' hm=>by
  obtain ⟨o',es',ep',ho',r'⟩:=hm
  rw [ho] at ho'; cases ho'
  exact ⟨_,es',ep',hL,r'⟩) hok I.bare
theorem Inv.call {g':Array GenState} {t':Nat} {d':Drawn} {ch:List Addr} (I:Inv X pins σ H s) (u:Un (frs X.stack) ch H H' s.heap h') (hok:HOk X.prog X.w H' h') (hg:AllBare g')
 (hch:∀ b∈ch,(b∈X.ex\/X.s₀.heap.objs.size<=b)/\b≠X.env.locals/\(∀ x c,X.env.cells.lookup x=some c->c≠b)/\∀ p∈X.pn++pins,p.1≠b) :
 Inv X pins σ H' { s with heap:=h',gens:=g',drawn:=d',toks:=t' }:=by
 obtain ⟨m,⟨o,es,ep,ho,r⟩,_⟩:=id I.loc
 obtain ⟨sl,hL⟩:=u.any ho I.free λz=>(hch _ z).2.1 rfl
 exact I.step (ch:=ch) hch (λb o hL hb hc e n=>u.keep b o e n (λz=>(List.mem_cons.mp (I.stkSub b z)).elim hL hb) hc) (λb o _ _ hc e n=>u.any e n hc) (λb o hc e n=>u.free b o e n hc) (λb o hc e=>u.there b o e hc) u.tups u.frzs u.tbls (λm' hm=>by
  obtain ⟨o',es',ep',ho',r'⟩:=hm
  rw [ho] at ho'; cases ho'
  exact ⟨_,es',ep',hL,r'⟩) hok hg
theorem Inv.turned {t':Nat} {it:Addr} (I:Inv X pins σ H s) (k:∀ b o,b≠it->s.heap.get? b=some o->h'.get? b=some o) (hn:H it=none) (hL:it≠X.env.locals)
 (h1:it∈X.ex\/X.s₀.heap.objs.size<=it) (h2:∀ x c,X.env.cells.lookup x=some c->c≠it) (h3:∀ p∈X.pn++pins,p.1≠it):Inv X pins σ H { s with heap:=h',toks:=t' }:=by
 have nit:∀ b u,H b=some u->b≠it:=λb u e z=>by rw [z,hn] at e; cases e
 refine I.step (g':=s.gens) (d':=s.drawn) (ch:=[it]) (λb hb=>?_) (λb o _ _ hc e _=>k b o (λz=>hc (by simp [z])) e) (λb o _ _ hc e _=>⟨o.slots,k b o (λz=>hc (by simp [z])) e⟩) (λ_ _ _ _ n=>n)
  (λb o hc e=>⟨o,k b o (λz=>hc (by simp [z])) e⟩) (λ_ _ e=>e) (λ_ _ _ e=>e) (λb ps _ e=>⟨#[],by rw [e]; simp⟩) (λm hm=>?_) (λb u e=>?_) I.bare
 ·have e:b=it:=by simpa using hb
  subst e
  exact ⟨h1,hL,h2,h3⟩
 ·obtain ⟨o,es,ep,ho,r⟩:=hm
  exact ⟨o,es,ep,k _ o (Ne.symm hL) ho,r⟩
 ·refine (I.hok b u e).stay (λc v hc q=>k c v ?_ q) (λ_ q=>q) (λ_ _ q=>q) λ_ _ _ q=>q
  rcases hc with z | z
  ·rw [z]; exact nit b u e
  ·exact nit c _ z
theorem Inv.tok (I:Inv X pins σ H s) (t:Nat):Inv X pins σ H { s with toks:=t }:=I.un (h':=s.heap) (t':=t) Un.refl I.hok
theorem Inv.kept {t':Nat} (I:Inv X pins σ H s) (k:∀ b u,s.heap.get? b=some u->h'.get? b=some u):Inv X pins σ H { s with heap:=h',toks:=t' }:=I.un (Un.kept k) (I.hok.kept k)
theorem Inv.laid {a:Addr} {o:HO} {t':Nat} (I:Inv X pins σ H s) (k:∀ b u,s.heap.get? b=some u->h'.get? b=some u) (hp:s.heap.objs.size<=a) (new:bn X.prog X.w (upd H a o) h' a o) :
 Inv X pins σ (upd H a o) { s with heap:=h',toks:=t' }:=I.un (Un.laid k hp (I.hok.fresh hp)) (I.hok.laid k hp new)
theorem Inv.write {x e:Addr} {o:HO} {t':Nat} (I:Inv X pins σ H s) (mu:Mut (H x)) (he:e=x\/H e=some (.own x)) (k:∀ b u,b≠e->s.heap.get? b=some u->h'.get? b=some u) (heo:∃ u,h'.get? e=some u)
 (new:bn X.prog X.w (upd H x o) h' x o):Inv X pins σ (upd H x o) { s with heap:=h',toks:=t' }:=I.un (Un.write mu he k heo) (I.hok.write mu he k heo new)
theorem Inv.weak {σ':List (Option V)} (I:Inv X pins σ H s) (hl : σ'.length=σ.length) (w:∀ (i:Nat) v,σ'[i]? = some (some v)->σ[i]? = some (some v)):Inv X pins σ' H s :=
 ⟨I.ok,I.os,I.bare,I.base,let ⟨m,hn,hl'⟩:=I.loc; ⟨m,hn,λi x v e1 e2 e3=>hl' i x v e1 (w i v e2) e3⟩,I.cell,I.free,I.freeC,I.pin,I.hok,hl.trans I.len⟩
theorem Inv.pins_of {pins':List (Addr×Obj)} (I:Inv X pins σ H s) (h:∀ p∈pins',s.heap.get? p.1=some p.2/\H p.1=none/\p.1≠X.env.locals/\p.1 ∉ X.fs/\∀ v,p.2.data≠.cell v):Inv X pins' σ H s :=
 ⟨I.ok,I.os,I.bare,I.base,I.loc,I.cell,I.free,I.freeC,λp hp=>(List.mem_append.mp hp).elim (λz=>I.pin p (List.mem_append_left _ z)) (h p),I.hok,I.len⟩
theorem jt {N:List Str} (hN:N.Nodup) {i j:Nat} {x:Str} (a:N[i]? = some x) (b:N[j]? = some x):i=j:=by
 obtain ⟨h1,e1⟩:=List.getElem?_eq_some_iff.mp a
 obtain ⟨h2,e2⟩:=List.getElem?_eq_some_iff.mp b
 exact (List.getElem_inj hN).mp (e1.trans e2.symm)
theorem hX {M:Model} {A:Around} {E:Value->Shared->Prop} {i:Nat} {x:Str} {v:V} {u:Value} {Q:Unit->Shared->Prop} (I:Inv X pins σ H s) (hN:X.N.Nodup) (hi:X.N[i]? = some x) (hx:Loc X.env.scope x) (r:aW v u)
 (h:∀ s',Inv X pins (σ.set i (some v)) H s'->(∃ a,Heap.SameBut a s.heap s'.heap/\(a=X.env.locals\/X.env.cells.lookup x=some a))->Q () s') (hf:X.fn x=true\/X.env.scope.names.lookup x=some .local:=by first | exact .inl rfl | exact .inr rfl | assumption):wpAny M A (storeName X.env x u) Q E s:=by
 obtain ⟨m,hn,hl⟩:=id I.loc
 have hcls:(X.env.scope.kind == .class||(X.env.scope.kind == .module&&X.env.locals != X.env.globals))=false:=by rw [I.ok.kind]; rfl
 have hiσ:i<σ.length:=by rw [I.len]; exact (List.getElem?_eq_some_iff.mp hi).1
 have cne:=I.cne
 have tracked:∀ {a:Addr} {h':Heap},(∃ o,s.heap.get? a=some o/\H a=none)->Heap.SameBut a s.heap h'->HOk X.prog X.w H h':=λ{a h'} ha hs b ob e=>by
  obtain ⟨_,_,hfree⟩:=ha
  refine (I.hok b ob e).stay (λc w' hc q=>(hs.2 c ?_).trans q) (λ_ q=>q) (λ_ _ q=>q) λ_ _ _ q=>q
  rintro rfl
  rcases hc with rfl | hc
  ·rw [hfree] at e; cases e
  ·rw [hfree] at hc; cases hc
 rcases hx with hk | hk
 ·refine wpAny_storeName_local hk hn (λh' hn' hs=>?_) hcls
  obtain ⟨oL,_,_,hoL,_⟩:=id hn
  refine h _ ⟨I.ok,I.os,I.bare,⟨λb o e n hb hx=>?_,λb o e n hb hx=>?_,I.base.free,λb o e hx=>?_,I.base.tups,I.base.frzs,I.base.tbls⟩,⟨_,hn',λj y v' e1 e2 e3=>?_⟩,λy c e=>?_,I.free,I.freeC,λp hp=>?_,tracked ⟨oL,hoL,I.free⟩ hs,by simpa using I.len⟩ ⟨_,hs,.inl rfl⟩
  ·exact (hs.2 b (Nat.ne_of_lt (Nat.lt_of_lt_of_le (Heap.lt_size e) I.ok.above))).trans (I.base.keep b o e n hb hx)
  ·obtain ⟨sl,e1⟩:=I.base.slot b o e n hb hx
   exact ⟨sl,(hs.2 b (Nat.ne_of_lt (Nat.lt_of_lt_of_le (Heap.lt_size e) I.ok.above))).trans e1⟩
  ·obtain ⟨o',e1⟩:=I.base.there b o e hx
   exact ⟨o',(hs.2 b (Nat.ne_of_lt (Nat.lt_of_lt_of_le (Heap.lt_size e) I.ok.above))).trans e1⟩
  ·by_cases hj:j=i
   ·subst hj
    rw [hi] at e1; cases e1
    rw [List.getElem?_set_self hiσ] at e2
    cases e2
    exact ⟨u,r,.inl ⟨hk,by simp⟩⟩
   ·rw [List.getElem?_set_ne (Ne.symm hj)] at e2
    obtain ⟨u',r',q⟩:=hl j y v' e1 e2 e3
    refine ⟨u',r',?_⟩
    rcases q with ⟨k,e⟩ | ⟨k,c,e,z⟩
    ·refine .inl ⟨k,?_⟩
     have:y≠x:=λe=>hj (jt hN e1 (e ▸ hi))
     simp [this,e]
    ·exact .inr ⟨k,c,e,z.sameBut hs (cne y c e)⟩
  ·obtain ⟨w',z⟩:=I.cell y c e
   exact ⟨w',z.sameBut hs (cne y c e)⟩
  ·obtain ⟨e,n,ne,nf,d⟩:=I.pin p hp
   exact ⟨(hs.2 p.1 ne).trans e,n,ne,nf,d⟩
 ·have hfn:X.fn x=true:=by
   rcases hf with z | z
   ·exact z
   ·rw [z] at hk; cases hk
  obtain ⟨c,hc⟩:=I.ok.has x (.inl hk)
  obtain ⟨w',z⟩:=I.cell x c hc
  refine wpAny_storeName_cell I.ok.kind hk hc z (λh' hc' hs=>?_)
  obtain ⟨oc,hoc,hocd⟩:=id z
  refine h { s with heap:=h' } ⟨I.ok,I.os,I.bare,⟨λb o e n hb hx=>?_,λb o e n hb hx=>?_,I.base.free,λb o e hx=>?_,I.base.tups,I.base.frzs,I.base.tbls⟩,⟨m,hn.sameBut hs (Ne.symm (cne x c hc)),λj y v' e1 e2 e3=>?_⟩,λy c' e=>?_,I.free,I.freeC,λp hp=>?_,tracked ⟨oc,hoc,I.freeC x c hc⟩ hs,by simpa using I.len⟩ ⟨c,hs,.inr hc⟩
  ·exact (hs.2 b (Nat.ne_of_lt (Nat.lt_of_lt_of_le (Heap.lt_size e) (I.ok.cab x c hfn hc)))).trans (I.base.keep b o e n hb hx)
  ·obtain ⟨sl,e1⟩:=I.base.slot b o e n hb hx
   exact ⟨sl,(hs.2 b (Nat.ne_of_lt (Nat.lt_of_lt_of_le (Heap.lt_size e) (I.ok.cab x c hfn hc)))).trans e1⟩
  ·obtain ⟨o',e1⟩:=I.base.there b o e hx
   exact ⟨o',(hs.2 b (Nat.ne_of_lt (Nat.lt_of_lt_of_le (Heap.lt_size e) (I.ok.cab x c hfn hc)))).trans e1⟩
  ·by_cases hj:j=i
   ·subst hj
    rw [hi] at e1; cases e1
    rw [List.getElem?_set_self hiσ] at e2
    cases e2
    exact ⟨u,r,.inr ⟨.inl hk,c,hc,hc'⟩⟩
   ·rw [List.getElem?_set_ne (Ne.symm hj)] at e2
    obtain ⟨u',r',q⟩:=hl j y v' e1 e2 e3
    refine ⟨u',r',?_⟩
    rcases q with q | ⟨k,c',e,z'⟩
    ·exact .inl q
    ·refine .inr ⟨k,c',e,z'.sameBut hs ?_⟩
     rintro rfl
     exact hj (jt hN e1 (I.ok.inj _ _ _ e hc ▸ hi))
  ·by_cases hcc:c'=c
   ·subst hcc; exact ⟨_,hc'⟩
   ·obtain ⟨w2,z2⟩:=I.cell y c' e
    exact ⟨w2,z2.sameBut hs hcc⟩
  ·obtain ⟨e,n,ne,nf,d⟩:=I.pin p hp
   refine ⟨(hs.2 p.1 ?_).trans e,n,ne,nf,d⟩
   intro q
   rw [q,hoc] at e
   have q':oc=p.2:=Option.some.inj e
   exact d w' (by rw [<- q']; exact hocd)
theorem e_ {M:Model} {A:Around} {E:Value->Shared->Prop} {i:Nat} {x:Str} {v:V} {u:Value} {Q:Unit->Shared->Prop} (I:Inv X pins σ H s) (hN:X.N.Nodup) (hi:X.N[i]? = some x) (hx:Loc X.env.scope x) (r:aW v u)
 (h:∀ s',Inv X pins (σ.set i (some v)) H s'->Q () s') (hf:X.fn x=true\/X.env.scope.names.lookup x=some .local:=by first | exact .inl rfl | exact .inr rfl | assumption):wpAny M A (storeName X.env x u) Q E s :=
 hX I hN hi hx r (λs' I' _=>h s' I') hf
theorem Inv.call' {s':Shared} {ch:List Addr} (I:Inv X pins σ H s) (ho:s'.os=s.os) (u:Un (frs X.stack) ch H H' s.heap s'.heap) (hok:HOk X.prog X.w H' s'.heap) (hg:AllBare s'.gens)
 (hch:∀ b∈ch,(b∈X.ex\/X.s₀.heap.objs.size<=b)/\b≠X.env.locals/\(∀ x c,X.env.cells.lookup x=some c->c≠b)/\∀ p∈X.pn++pins,p.1≠b):Inv X pins σ H' s':=by
 obtain ⟨h',g',d',t',o'⟩:=s'
 have e:o'=s.os:=ho
 subst e
 exact I.call (g':=g') (t':=t') (d':=d') u hok hg hch
end
abbrev XK:=Value->Option Addr->Hp->Prop
abbrev St:=List (Option V)
abbrev VK:=V->Hp->Prop
abbrev TE:=St->Hp->VK->Prop
abbrev TT:=St->Hp->(Bool->Hp->Prop)->Prop
abbrev TA:=St->Hp->(List V->Hp->Prop)->Prop
structure Ends where
 nx:St->Hp->Prop
 rt:VK
 bk:St->Hp->Prop:=λ_ _=>False
 ct:St->Hp->Prop:=λ_ _=>False
abbrev TS:=Ends->St->Hp->Prop
def EP (X:Cx) (pins:List (Addr×Obj)) (σ:St) (Q:VK) (u:Value) (s':Shared):Prop:=∃ v H',Inv X pins σ H' s'/\aW v u/\Q v H'
def TP (X:Cx) (pins:List (Addr×Obj)) (σ:St) (Q:Bool->Hp->Prop) (b:Bool) (s':Shared):Prop:=∃ H',Inv X pins σ H' s'/\Q b H'
def AP (X:Cx) (pins:List (Addr×Obj)) (σ:St) (Q:List V->Hp->Prop) (us:List Value) (s':Shared):Prop:=∃ vs H',Inv X pins σ H' s'/\aH vs us/\Q vs H'
def SP (X:Cx) (pins:List (Addr×Obj)) (D:Ends) (f:Flow) (s':Shared):Prop :=
 match f with
 | .next=>∃ σ' H',Inv X pins σ' H' s'/\D.nx σ' H'
 | .brk=>∃ σ' H',Inv X pins σ' H' s'/\D.bk σ' H'
 | .cont=>∃ σ' H',Inv X pins σ' H' s'/\D.ct σ' H'
 | .ret u=>∃ v σ' H',Inv X pins σ' H' s'/\aW v u/\D.rt v H'
structure PE (X:Cx) (e:Expr) (t:TE):Prop where
 go:∀ (pins:List (Addr×Obj)) (s:Shared) (σ:St) (H:Hp) (Q:VK),Inv X pins σ H s->t σ H Q->wpAny (model X.prog X.w) X.A (eval e X.env) (EP X pins σ Q) X.xe s
instance {X:Cx} {e:Expr} {t:TE}:CoeFun (PE X e t) λ_=>∀ (pins:List (Addr×Obj)) (s:Shared) (σ:St) (H:Hp) (Q:VK),Inv X pins σ H s->t σ H Q->wpAny (model X.prog X.w) X.A (eval e X.env) (EP X pins σ Q) X.xe s:=⟨λh=>h.go⟩
structure PT (X:Cx) (e:Expr) (t:TT):Prop where
 go:∀ (pins:List (Addr×Obj)) (s:Shared) (σ:St) (H:Hp) (Q:Bool->Hp->Prop),Inv X pins σ H s->t σ H Q->wpAny (model X.prog X.w) X.A (isTrue e X.env (eval e X.env)) (TP X pins σ Q) X.xe s
instance {X:Cx} {e:Expr} {t:TT}:CoeFun (PT X e t) λ_=>∀ (pins:List (Addr×Obj)) (s:Shared) (σ:St) (H:Hp) (Q:Bool->Hp->Prop),Inv X pins σ H s->t σ H Q->wpAny (model X.prog X.w) X.A (isTrue e X.env (eval e X.env)) (TP X pins σ Q) X.xe s:=⟨λh=>h.go⟩
structure PW (X:Cx) (e:Expr) (t:TT):Prop where
 go:∀ (whole:Sem Value) (pins:List (Addr×Obj)) (s:Shared) (σ:St) (H:Hp) (Q:Bool->Hp->Prop),Inv X pins σ H s->t σ H Q->wpAny (model X.prog X.w) X.A (isTrue e X.env whole) (TP X pins σ Q) X.xe s
instance {X:Cx} {e:Expr} {t:TT}:CoeFun (PW X e t) λ_=>∀ (whole:Sem Value) (pins:List (Addr×Obj)) (s:Shared) (σ:St) (H:Hp) (Q:Bool->Hp->Prop),Inv X pins σ H s->t σ H Q->wpAny (model X.prog X.w) X.A (isTrue e X.env whole) (TP X pins σ Q) X.xe s:=⟨λh=>h.go⟩
theorem PW.pt {X:Cx} {e:Expr} {t:TT} (h:PW X e t):PT X e t:=⟨h.go _⟩
structure PA (X:Cx) (es:List Expr) (t:TA):Prop where
 go:∀ (pos:Pos) (pins:List (Addr×Obj)) (s:Shared) (σ:St) (H:Hp) (Q:List V->Hp->Prop),Inv X pins σ H s->t σ H Q->wpAny (model X.prog X.w) X.A (spliced (backTo pos (starEach es X.env))) (AP X pins σ Q) X.xe s
instance {X:Cx} {es:List Expr} {t:TA}:CoeFun (PA X es t) λ_=>∀ (pos:Pos) (pins:List (Addr×Obj)) (s:Shared) (σ:St) (H:Hp) (Q:List V->Hp->Prop),Inv X pins σ H s->t σ H Q->wpAny (model X.prog X.w) X.A (spliced (backTo pos (starEach es X.env))) (AP X pins σ Q) X.xe s:=⟨λh=>h.go⟩
structure PS (X:Cx) (st:Stmt) (t:TS):Prop where
 go:∀ (pins:List (Addr×Obj)) (s:Shared) (σ:St) (H:Hp) (D:Ends),Inv X pins σ H s->t D σ H->wpAny (model X.prog X.w) X.A (exec st X.env) (SP X pins D) X.xe s
instance {X:Cx} {st:Stmt} {t:TS}:CoeFun (PS X st t) λ_=>∀ (pins:List (Addr×Obj)) (s:Shared) (σ:St) (H:Hp) (D:Ends),Inv X pins σ H s->t D σ H->wpAny (model X.prog X.w) X.A (exec st X.env) (SP X pins D) X.xe s:=⟨λh=>h.go⟩
structure PSs (X:Cx) (st:List Stmt) (t:TS):Prop where
 go:∀ (pins:List (Addr×Obj)) (s:Shared) (σ:St) (H:Hp) (D:Ends),Inv X pins σ H s->t D σ H->wpAny (model X.prog X.w) X.A (execs st X.env) (SP X pins D) X.xe s
instance {X:Cx} {st:List Stmt} {t:TS}:CoeFun (PSs X st t) λ_=>∀ (pins:List (Addr×Obj)) (s:Shared) (σ:St) (H:Hp) (D:Ends),Inv X pins σ H s->t D σ H->wpAny (model X.prog X.w) X.A (execs st X.env) (SP X pins D) X.xe s:=⟨λh=>h.go⟩
theorem thn {α:Type} {t:Sem α} {Q Q' : α->Shared->Prop} {M:Model} {A:Around} {E:Value->Shared->Prop} {s:Shared} (h:wpAny M A t Q E s) (hQ:∀ a s,Q a s->Q' a s):wpAny M A t Q' E s:=wpAny_mono h hQ λ_ _ x=>x
section
variable {X:Cx}
theorem bin {a b:Expr} {ta tb:TE} (ha:PE X a ta) (hb:PE X b tb) {pins:List (Addr×Obj)} {s:Shared} {σ:St} {H:Hp} {R:V->V->Hp->Prop} (I:Inv X pins σ H s) (h:ta σ H λx H1=>tb σ H1 λy H2=>R x y H2)
 {α:Type} {Q : α->Shared->Prop} {f:Value->Value->Sem α}
 (hf:∀ v u s2 x y H2,Inv X pins σ H2 s2->aW x v->aW y u->R x y H2->wpAny (model X.prog X.w) X.A (f v u) Q X.xe s2) :
 wpAny (model X.prog X.w) X.A (eval a X.env) (λv s₁=>wpAny (model X.prog X.w) X.A (eval b X.env) (λu s₂=>wpAny (model X.prog X.w) X.A (f v u) Q X.xe s₂) X.xe s₁) X.xe s:=by
 refine thn (ha pins s σ H _ I h) λv s1 ⟨x,H1,I1,r1,q1⟩=>?_
 refine thn (hb pins s1 σ H1 _ I1 q1) λu s2 ⟨y,H2,I2,r2,q2⟩=>?_
 exact hf v u s2 x y H2 I2 r1 r2 q2
def tVar (i:Nat):TE:=λσ H Q=>∃ v,σ[i]? = some (some v)/\Q v H
def tC (v:V):TE:=λ_ H Q=>Q v H
theorem cF {i:Nat} {x:Str} {pos:Pos} (hN:X.N[i]? = some x) (hv:Vis X.env.scope x) (hd:(x == ("__debug__":Str))=false:=by decide) (hcd:(x == ("__classdict__":Str))=false:=by decide):PE X (.Name x pos) (tVar i):=by
 (try refine ⟨?_⟩); intro pins s σ H Q I h
 obtain ⟨v,e,h⟩:=h
 obtain ⟨m,hn,hl⟩:=I.loc
 obtain ⟨u,r,l⟩:=hl i x v hN e hv
 have fin:EP X pins σ Q u s:=⟨v,H,I,r,h⟩
 rcases l with ⟨hk,hm⟩ | ⟨hk,c,hc,hcell⟩
 ·exact wpAny_Name (wpAny_loadName_local I.ok.kind hk hn hm fin) hd
 ·rcases hk with hk | hk
  ·exact wpAny_Name (wpAny_loadName_cell I.ok.kind hk hc hcell fin) hd
  ·exact wpAny_Name (wpAny_loadName_free I.ok.kind hk hc hcell fin hcd) hd
theorem iE {i j pos}:PE X (.Constant (.int i) j pos) (tC (.int i)):=⟨λ_ _ _ H _ I h=>wpAny_Constant_int ⟨.int i,H,I.tok _,⟨_,rfl⟩,h⟩⟩
theorem pe_bl {b j pos}:PE X (.Constant (.bool b) j pos) (tC (.bl b)):=⟨λ_ _ _ H _ I h=>Constant_bool ⟨.bl b,H,I,rfl,h⟩⟩
def Gl (X:Cx) (x:Str):Prop:=X.env.kindOf x=some .globalImplicit
theorem kU {E:Value->Shared->Prop} {pins:List (Addr×Obj)} {s:Shared} {σ:St} {H:Hp} {x:Str} {u:Value} {pos:Pos} {Q:Value->Shared->Prop} (I:Inv X pins σ H s) (hg:Gl X x) (hm:X.mg x=some u) (h:Q u s)
 (hd:(x == ("__debug__":Str))=false:=by decide):wpAny (model X.prog X.w) X.A (eval (.Name x pos) X.env) Q E s :=
 Calls.Name_function_global I.ok.kind hg (Calls.loadGlobal_global (by rw [I.ok.glob]; exact I.mod.glob.keeps I.bk) hm h) hd
theorem cG {E:Value->Shared->Prop} {pins:List (Addr×Obj)} {s:Shared} {σ:St} {H:Hp} {x:Str} {u:Value} {pos:Pos} {Q:Value->Shared->Prop} (I:Inv X pins σ H s) (hg:Gl X x) (hm:X.mg x=none) (hv:bootBuiltins x=some u) (h:Q u s)
 (hn:x ≠ "__name__":=by decide) (hd:(x == ("__debug__":Str))=false:=by decide):wpAny (model X.prog X.w) X.A (eval (.Name x pos) X.env) Q E s:=by
 obtain ⟨mb,h1,h2⟩:=I.mod.blt
 exact Calls.Name_function_global I.ok.kind hg (Calls.loadGlobal_builtin (by rw [I.ok.glob]; exact I.mod.glob.keeps I.bk) hm (by rw [I.ok.blt]; exact h1.keeps I.bk) ((h2 x hn).trans hv) h) hd
theorem p6 {x:Str} {v:V} {u:Value} {pos:Pos} (hg:Gl X x) (hm:X.mg x=some u) (r:aW v u) (hd:(x == ("__debug__":Str))=false:=by decide):PE X (.Name x pos) (tC v):=⟨λ_ _ _ H _ I h=>kU I hg hm ⟨v,H,I,r,h⟩ hd⟩
theorem bW {x:Str} {v:V} {u:Value} {pos:Pos} (hg:Gl X x) (hm:X.mg x=none) (hv:bootBuiltins x=some u) (r:aW v u) (hn:x ≠ "__name__":=by decide) (hd:(x == ("__debug__":Str))=false:=by decide):PE X (.Name x pos) (tC v):=⟨λ_ _ _ H _ I h=>cG I hg hm hv ⟨v,H,I,r,h⟩ hn hd⟩
variable {a b:Expr} {ta tb:TE} {pos:Pos}
def tB (t:TE):TT:=λσ H Q=>t σ H λx H1=>∃ c,x = .bl c/\Q c H1
theorem sm {e:Expr} {t:TE} (h:PE X e t) (he:∀ whole,isTrue e X.env whole=(do let v <- whole; standAt e.pos; holding [v] (truthy v)):=by intro _; rfl):PT X e (tB t):=by
 (try refine ⟨?_⟩); intro pins s σ H Q I hw
 refine isTrue_plain (thn (h pins s σ H _ I hw) λv s1 ⟨x,H1,I1,r1,q1⟩=>?_) (he _)
 obtain ⟨d,rfl,q⟩:=q1
 cases r1
 exact wpAny_truthy_bool ⟨H1,I1,q⟩
variable {tA tB':TT} {rest:List Expr}
def tAnd (t u:TT):TT:=λσ H Q=>t σ H λc H1=>if c=true then u σ H1 Q else Q false H1
def tOr (t u:TT):TT:=λσ H Q=>t σ H λc H1=>if c=true then Q true H1 else u σ H1 Q
def tNot (t:TT):TT:=λσ H Q=>t σ H λc H1=>Q (!c) H1
theorem qc (ha:PT X a tA):PW X (.BoolOp .And [a] pos) tA:=by
 (try refine ⟨?_⟩); intro wh pins s σ H Q I h
 refine isTrue_and (thn (ha pins s σ H Q I h) λc s1 e=>?_)
 cases c with
 | true=>exact isTrue_and_nil e
 | false=>exact e
theorem tV (ha:PT X a tA):PW X (.BoolOp .Or [a] pos) tA:=by
 (try refine ⟨?_⟩); intro wh pins s σ H Q I h
 refine isTrue_or (thn (ha pins s σ H Q I h) λc s1 e=>?_)
 cases c with
 | false=>exact isTrue_or_nil e
 | true=>exact e
theorem tu (ha:PT X a tA) (hb:PW X (.BoolOp .And (b :: rest) pos) tB'):PW X (.BoolOp .And (a :: b :: rest) pos) (tAnd tA tB'):=by
 (try refine ⟨?_⟩); intro wh pins s σ H Q I h
 refine isTrue_and (thn (ha pins s σ H _ I h) λc s1 ⟨H1,I1,q1⟩=>?_)
 cases c with
 | true=>exact hb wh pins s1 σ H1 Q I1 q1
 | false=>exact ⟨H1,I1,q1⟩
theorem pw_or (ha:PT X a tA) (hb:PW X (.BoolOp .Or (b :: rest) pos) tB'):PW X (.BoolOp .Or (a :: b :: rest) pos) (tOr tA tB'):=by
 (try refine ⟨?_⟩); intro wh pins s σ H Q I h
 refine isTrue_or (thn (ha pins s σ H _ I h) λc s1 ⟨H1,I1,q1⟩=>?_)
 cases c with
 | true=>exact ⟨H1,I1,q1⟩
 | false=>exact hb wh pins s1 σ H1 Q I1 q1
theorem so (ha:PT X a tA):PT X (.UnaryOp .Not a pos) (tNot tA):=by
 (try refine ⟨?_⟩); intro pins s σ H Q I h
 exact isTrue_not (ha pins s σ H (λc H1=>Q (!c) H1) I h)
def tAndV (ta tb:TE):TE:=λσ H Q=>ta σ H λx H1=>∃ c,x = .bl c/\if c=true then tb σ H1 Q else Q (.bl false) H1
def tNotV (ta:TE):TE:=λσ H Q=>ta σ H λx H1=>∃ c,x = .bl c/\Q (.bl (!c)) H1
theorem sD {op} {t:TE} (h:PE X a t):PE X (.BoolOp op [a] pos) t:=⟨λpins s σ H Q I hw=>BoolOp_one (h pins s σ H Q I hw)⟩
theorem tJ (ha:PE X a ta) (hb:PE X (.BoolOp .And (b :: rest) pos) tb):PE X (.BoolOp .And (a :: b :: rest) pos) (tAndV ta tb):=by
 (try refine ⟨?_⟩); intro pins s σ H Q I h
 refine BoolOp_and (thn (ha pins s σ H _ I h) λv s1 ⟨x,H1,I1,r1,q1⟩=>?_)
 obtain ⟨c,rfl,q1⟩:=q1
 cases r1
 refine wpAny_truthy_bool ?_
 cases c with
 | true=>exact hb pins s1 σ H1 Q I1 q1
 | false=>exact ⟨.bl false,H1,I1,rfl,q1⟩
theorem tw (ha:PE X a ta):PE X (.UnaryOp .Not a pos) (tNotV ta):=by
 (try refine ⟨?_⟩); intro pins s σ H Q I h
 refine UnaryOp_ (thn (ha pins s σ H _ I h) λv s1 ⟨x,H1,I1,r1,q1⟩=>?_)
 obtain ⟨c,rfl,q1⟩:=q1
 cases r1
 exact not_of (wpAny_truthy_bool ⟨.bl (!c),H1,I1,rfl,q1⟩)
end
def SqL (K:PySem.W.Frag) (H:Hp) (a:Addr) (xs:List V):Prop :=
 Rd H a (.lst xs) \/
  ∃ (o:Obj) (its:Array Value) (n:Nat),K.lookup a=some o/\o.cls = .type "list" /\ o.dict=none/\o.data = .seq its n/\its.size<=sizeLine/\aH xs its.toList
def SqT (K:PySem.W.Frag) (H:Hp) (a:Addr) (xs:List V):Prop :=
 Rd H a (.tup xs) \/
  ∃ (o:Obj) (its:Array Value) (n:Nat),K.lookup a=some o/\o.cls = .type "tuple" /\ o.data = .seq its n/\its.size<=sizeLine/\aH xs its.toList
def absV:Value->Option V
 | .none=>some .non
 | .bool b=>some (.bl b)
 | .int i _=>some (.int i)
 | .str x _=>some (.str x)
 | .bytes b _=>some (.byt b)
 | .float b _=>some (.flt b)
 | .ref a=>some (.ref a)
 | .type n=>some (.ty n)
 | _=>none
theorem aW.abs {x:V} {u:Value} (r:aW x u):absV u=some x:=by
 cases x with
 | non=>cases r; rfl
 | bl _=>cases r; rfl
 | int _=>obtain ⟨t,rfl⟩:=r; rfl
 | str _=>obtain ⟨t,rfl⟩:=r; rfl
 | byt _=>obtain ⟨t,rfl⟩:=r; rfl
 | flt _=>obtain ⟨t,rfl⟩:=r; rfl
 | ref _=>cases r; rfl
 | ty _=>cases r; rfl
theorem aW.inj {x y:V} {u:Value} (r:aW x u) (q:aW y u):x=y:=Option.some.inj (r.abs.symm.trans q.abs)
theorem aH.inj:∀ {xs ys:List V} {us:List Value},aH xs us->aH ys us->xs=ys
 | _,_,_,.nil,.nil=>rfl
 | _,_,_,.cons r t,.cons r' t'=>by rw [r.inj r',aH.inj t t']
section
variable {X:Cx} {pins:List (Addr×Obj)} {σ:St} {H:Hp} {s:Shared} {a:Addr} {xs ys:List V}
theorem SqL.of {K:PySem.W.Frag} (h:H a=some (.lst xs)):SqL K H a xs:=.inl (.inl h)
theorem SqT.of {K:PySem.W.Frag} (h:H a=some (.tup xs)):SqT K H a xs:=.inl (.inl h)
theorem Inv.list (I:Inv X pins σ H s) (h:SqL X.K H a xs):∃ its:List Value,aH xs its/\PlainL s.heap a its.toArray/\xs.length<=sizeLine:=by
 rcases h with h | ⟨o,its,n,hk,hc,hd,hs,hz,r⟩
 ·obtain ⟨z,its,n,r,e⟩:=h.ok I.hok
  exact ⟨its,r,⟨_,n,e,rfl,rfl,rfl⟩,z⟩
 ·refine ⟨its.toList,r,⟨o,n,I.kIn a o hk,hc,hd,by simpa using hs⟩,?_⟩
  have e:=r.length
  simp only [Array.length_toList] at e
  omega
theorem Inv.tuple (I:Inv X pins σ H s) (h:SqT X.K H a xs):∃ its:List Value,aH xs its/\IsTup s.heap a its.toArray/\xs.length<=sizeLine:=by
 rcases h with h | ⟨o,its,n,hk,hc,hs,hz,r⟩
 ·obtain ⟨z,its,r,p⟩:=h.ok I.hok
  exact ⟨its,r,p,z⟩
 ·refine ⟨its.toList,r,⟨o,I.kIn a o hk,hc,n,by simpa using hs⟩,?_⟩
  have e:=r.length
  simp only [Array.length_toList] at e
  omega
theorem Inv.list_inj (I:Inv X pins σ H s) (h:SqL X.K H a xs) (h':SqL X.K H a ys):xs=ys:=by
 obtain ⟨its,r,⟨o,n,e,_,_,d⟩,_⟩:=I.list h
 obtain ⟨its',r',⟨o',n',e',_,_,d'⟩,_⟩:=I.list h'
 rw [e] at e'; cases e'
 rw [d] at d'
 injection d' with d1 _
 have:its=its':=by simpa using congrArg Array.toList d1
 subst this
 exact r.inj r'
end
abbrev Cx.wish (X:Cx) (E:Value->Shared->Prop):Cx:={ X with xe:=E }
abbrev Cx.nox (X:Cx):Cx:=X.wish λ_ _=>False
theorem Cx.Ok.wish {X:Cx} (ok:X.Ok) (E:Value->Shared->Prop):(X.wish E).Ok :=
 ⟨ok.mod,ok.kind,ok.glob,ok.blt,ok.above,ok.inj,ok.has,ok.cab,ok.hd,ok.frames,ok.stk,ok.exf,ok.bs,ok.bsz,ok.noex,ok.exfs,ok.funs,ok.frf,ok.tb⟩
theorem Cx.Ok.unwish {X:Cx} {E:Value->Shared->Prop} (ok:(X.wish E).Ok):X.Ok :=
 ⟨ok.mod,ok.kind,ok.glob,ok.blt,ok.above,ok.inj,ok.has,ok.cab,ok.hd,ok.frames,ok.stk,ok.exf,ok.bs,ok.bsz,ok.noex,ok.exfs,ok.funs,ok.frf,ok.tb⟩
section
variable {X:Cx} {pins:List (Addr×Obj)} {σ:St} {H:Hp} {s:Shared} {E:Value->Shared->Prop}
theorem Inv.wish (I:Inv X pins σ H s) (E:Value->Shared->Prop):Inv (X.wish E) pins σ H s:=⟨I.ok.wish E,I.os,I.bare,I.base,I.loc,I.cell,I.free,I.freeC,I.pin,I.hok,I.len⟩
theorem Inv.unwish (I:Inv (X.wish E) pins σ H s):Inv X pins σ H s:=⟨I.ok.unwish,I.os,I.bare,I.base,I.loc,I.cell,I.free,I.freeC,I.pin,I.hok,I.len⟩
theorem SP.unwish {D:Ends} {f:Flow} {s':Shared} (h:SP (X.wish E) pins D f s'):SP X pins D f s':=by
 cases f with
 | next=>obtain ⟨σ',H',I,q⟩:=h; exact ⟨σ',H',I.unwish,q⟩
 | brk=>obtain ⟨σ',H',I,q⟩:=h; exact ⟨σ',H',I.unwish,q⟩
 | cont=>obtain ⟨σ',H',I,q⟩:=h; exact ⟨σ',H',I.unwish,q⟩
 | ret u=>obtain ⟨v,σ',H',I,r,q⟩:=h; exact ⟨v,σ',H',I.unwish,r,q⟩
theorem PSs.nox {st:List Stmt} {t:TS} (h:PSs X.nox st t):PSs X st t:=⟨λpins s σ H D I hw =>
 wpAny_mono (h pins s σ H D (I.wish _) hw) (λ_ _ q=>q.unwish) λ_ _ z=>False.elim z⟩
end
section
variable {X:Cx} {st:Stmt} {rest:List Stmt} {t u:TS} {e:Expr} {te:TE} {pos:Pos}
def tNext:TS:=λD σ H=>D.nx σ H
def tSeq (t u:TS):TS:=λD σ H=>t { D with nx:=u D } σ H
theorem p8:PSs X [] tNext:=⟨λ_ _ σ H _ I h=>wpAny_execs_nil ⟨σ,H,I,h⟩⟩
theorem mO (h1:PS X st t) (h2:PSs X rest u):PSs X (st :: rest) (tSeq t u):=by
 (try refine ⟨?_⟩); intro pins s σ H D I h
 refine wpAny_execs_cons (thn (h1 pins s σ H { D with nx:=u D } I h) λf s1 q=>?_)
 cases f with
 | next =>
  obtain ⟨σ',H',I',q⟩:=q
  exact h2 pins s1 σ' H' D I' q
 | ret v=>exact q
 | brk=>exact q
 | cont=>exact q
theorem pD (h1:PS X st t):PSs X [st] t:=by
 (try refine ⟨?_⟩); intro pins s σ H D I h
 refine wpAny_execs_cons (thn (h1 pins s σ H D I h) λf s1 q=>?_)
 cases f with
 | next=>exact wpAny_execs_nil q
 | ret v=>exact q
 | brk=>exact q
 | cont=>exact q
theorem Inv.quiet {pins:List (Addr×Obj)} {σ:St} {H:Hp} {s:Shared} (I:Inv X pins σ H s):interactive X.env=false:=by simp [interactive,I.ok.kind]
def tDrop (te:TE):TS:=λD σ H=>te σ H λ_ H1=>D.nx σ H1
theorem dz (he:PE X e te) (hs:swapsWith e none pos.line X.env=pure false:=by rfl):PS X (.Expr e pos) (tDrop te):=by
 (try refine ⟨?_⟩); intro pins s σ H D I h
 exact wpAny_Expr_any (thn (he pins s σ H _ I h) λv s1 ⟨x,H1,I1,r1,q1⟩=>⟨σ,H1,I1,q1⟩) I.quiet hs
def tRet (te:TE):TS:=λD σ H=>te σ H D.rt
theorem nR (he:PE X e te):PS X (.Return (some e) pos) (tRet te):=by
 (try refine ⟨?_⟩); intro pins s σ H D I h
 exact wpAny_Return_some (thn (he pins s σ H _ I h) λv s1 ⟨x,H1,I1,r1,q1⟩=>⟨x,σ,H1,I1,r1,q1⟩)
def tIfS (c:TT) (t u:TS):TS:=λD σ H=>c σ H λb H1=>if b=true then t D σ H1 else u D σ H1
theorem ps_if {c:Expr} {a b:List Stmt} {tc:TT} (hc:PT X c tc) (ha:PSs X a t) (hb:PSs X b u):PS X (.If c a b pos) (tIfS tc t u):=by
 (try refine ⟨?_⟩); intro pins s σ H D I h
 refine wpAny_If (thn (hc pins s σ H _ I h) λd s1 ⟨H1,I1,q1⟩=>?_)
 cases d with
 | true=>exact ha pins s1 σ H1 D I1 q1
 | false=>exact hb pins s1 σ H1 D I1 q1
def r_:TS:=λ_ _ _=>False
theorem mE:PS X st r_:=⟨λ_ _ _ _ _ _ h=>h.elim⟩
end
abbrev TG:=V->St->Hp->(St->Hp->Prop)->Prop
abbrev TGs:=List V->St->Hp->(St->Hp->Prop)->Prop
structure PG (X:Cx) (target:Expr) (t:TG):Prop where
 go:∀ (pins:List (Addr×Obj)) (s:Shared) (σ:St) (H:Hp) (v:V) (u:Value) (Q:St->Hp->Prop),Inv X pins σ H s->aW v u->t v σ H Q ->
  wpAny (model X.prog X.w) X.A (assign target X.env u) (λ_ s'=>∃ σ' H',Inv X pins σ' H' s'/\Q σ' H') X.xe s
instance {X:Cx} {target:Expr} {t:TG}:CoeFun (PG X target t) λ_=>∀ (pins:List (Addr×Obj)) (s:Shared) (σ:St) (H:Hp) (v:V) (u:Value) (Q:St->Hp->Prop),Inv X pins σ H s->aW v u->t v σ H Q ->
 wpAny (model X.prog X.w) X.A (assign target X.env u) (λ_ s'=>∃ σ' H',Inv X pins σ' H' s'/\Q σ' H') X.xe s:=⟨λh=>h.go⟩
structure PGs (X:Cx) (ts:List Expr) (t:TGs):Prop where
 go:∀ (pins:List (Addr×Obj)) (s:Shared) (σ:St) (H:Hp) (vs:List V) (us:List Value) (Q:St->Hp->Prop),Inv X pins σ H s->aH vs us->t vs σ H Q ->
  wpAny (model X.prog X.w) X.A (assignInOrder ((assignEach ts X.env).map (·.2)) us) (λ_ s'=>∃ σ' H',Inv X pins σ' H' s'/\Q σ' H') X.xe s
instance {X:Cx} {ts:List Expr} {t:TGs}:CoeFun (PGs X ts t) λ_=>∀ (pins:List (Addr×Obj)) (s:Shared) (σ:St) (H:Hp) (vs:List V) (us:List Value) (Q:St->Hp->Prop),Inv X pins σ H s->aH vs us->t vs σ H Q ->
 wpAny (model X.prog X.w) X.A (assignInOrder ((assignEach ts X.env).map (·.2)) us) (λ_ s'=>∃ σ' H',Inv X pins σ' H' s'/\Q σ' H') X.xe s:=⟨λh=>h.go⟩
abbrev nI:=V->V->V->Hp->(Hp->Prop)->Prop
def PSet (X:Cx) (t:nI):Prop :=
 ∀ (pins:List (Addr×Obj)) (s:Shared) (σ:St) (H:Hp) (o i v:V) (ov iv u:Value) (Q:Hp->Prop),Inv X pins σ H s->aW o ov->aW i iv->aW v u->t o i v H Q ->
  wpAny (model X.prog X.w) X.A (setItem ov iv u) (λ_ s'=>∃ H',Inv X pins σ H' s'/\Q H') X.xe s
abbrev TIp:=V->V->Hp->VK->Prop
def PIp (X:Cx) (op:Operator) (t:TIp):Prop :=
 ∀ (pins:List (Addr×Obj)) (s:Shared) (σ:St) (H:Hp) (x y:V) (v u:Value) (Q:VK),Inv X pins σ H s->aW x v->aW y u->t x y H Q ->
  wpAny (model X.prog X.w) X.A (inplaceOp op v u) (EP X pins σ Q) X.xe s
section
variable {X:Cx} {pos:Pos}
def gU (i:Nat):TG:=λv σ H Q=>Q (σ.set i (some v)) H
theorem aO {i:Nat} {x:Str} (hN:X.N.Nodup) (hi:X.N[i]? = some x) (hx:Loc X.env.scope x) (hf:X.fn x=true\/X.env.scope.names.lookup x=some .local:=by first | exact .inl rfl | exact .inr rfl | assumption):PG X (.Name x pos) (gU i):=by
 (try refine ⟨?_⟩); intro pins s σ H v u Q I r h
 exact wpAny_assign_Name (e_ I hN hi hx r (λs' I'=>⟨_,H,I',h⟩) hf)
def gNil:TGs:=λvs σ H Q=>vs=[]/\Q σ H
def qV (t:TG) (u:TGs):TGs:=λvs σ H Q=>∃ v r,vs=v :: r/\t v σ H λσ' H'=>u r σ' H' Q
theorem iC:PGs X [] gNil:=by
 (try refine ⟨?_⟩); intro pins s σ H vs us Q I r h
 obtain ⟨e,h⟩:=h
 subst e
 cases r
 exact assignInOrder_nil ⟨σ,H,I,h⟩
theorem cM {e:Expr} {es:List Expr} {t:TG} {u:TGs} (h1:PG X e t) (h2:PGs X es u)
 (hs:(assignEach (e :: es) X.env).map (·.2)=assign e X.env :: (assignEach es X.env).map (·.2):=by rfl):PGs X (e :: es) (qV t u):=by
 (try refine ⟨?_⟩); intro pins s σ H vs us Q I r h
 obtain ⟨v,vr,e1,h⟩:=h
 subst e1
 cases r with
 | cons r rr =>
  rw [hs]
  refine assignInOrder_cons (thn (h1 pins s σ H _ _ _ I r h) λ_ s1 ⟨σ1,H1,I1,q1⟩=>?_)
  exact h2 pins s1 σ1 H1 _ _ Q I1 rr q1
def gTup (K:PySem.W.Frag) (n:Nat) (t:TGs):TG:=λv σ H Q=>∃ a xs,v = .ref a/\SqT K H a xs/\xs.length=n/\t xs σ H Q
theorem jV {es:List Expr} {k:Nat} {t:TGs} {n:Nat} (hc:X.calm=true) (h:PGs X es t)
 (hn:(assignEach es X.env).length=n:=by rfl) (hst:(assignEach es X.env).findIdx? (·.1)=none:=by rfl):PG X (.Tuple es k pos) (gTup X.K n t):=by
 (try refine ⟨?_⟩); intro pins s σ H v u Q I r hw
 obtain ⟨a,xs,e1,hq,hl,hw⟩:=hw
 subst e1
 cases r
 obtain ⟨its,rv,ht,hz⟩:=I.tuple hq
 refine assign_Tuple_tuple (I.ok.hd hc) ht (by simp [hn,<- hl,rv.length]) hst λh' hx=>?_
 have I1:Inv X pins σ H { s with heap:=h' }:=I.kept (t':=s.toks) λb o e=>hx b o (Nat.ne_of_lt (Heap.lt_size e)) e
 exact h pins _ σ H xs _ Q I1 (by simpa using rv) hw
def gSub (to ti:TE) (t:nI):TG:=λv σ H Q=>to σ H λo H1=>ti σ H1 λi H2=>t o i v H2 λH3=>Q σ H3
theorem nH {o i:Expr} {to ti:TE} {t:nI} (ho:PE X o to) (hi:PE X i ti) (hs:PSet X t)
 (ha:∀ v,assign (.Subscript o i pos) X.env v=(do
  let ov <- holding [v] (eval o X.env)
  let iv <- holding [v,ov] (eval i X.env)
  standAt pos
  holding [v,ov,iv] (setItem ov iv v)
  release [v,ov,iv] []):=by intro _; rfl):PG X (.Subscript o i pos) (gSub to ti t):=by
 (try refine ⟨?_⟩); intro pins s σ H v u Q I r h
 rw [ha]
 refine wpAny_bind (wpAny_holding (thn (ho pins s σ H _ I h) λov s1 ⟨x,H1,I1,r1,q1⟩=>?_))
 refine wpAny_bind (wpAny_holding (thn (hi pins s1 σ H1 _ I1 q1) λiv s2 ⟨y,H2,I2,r2,q2⟩=>?_))
 refine wpAny_bind (wpAny_standAt (wpAny_bind (wpAny_holding (thn (hs pins s2 σ H2 x y v ov iv u _ I2 r1 r2 r q2) λ_ s3 ⟨H3,I3,q3⟩=>?_))))
 exact wpAny_release ⟨σ,H3,I3,q3⟩
def oO (te:TE) (g:TG):TS:=λD σ H=>te σ H λx H1=>g x σ H1 D.nx
theorem iA {tg e:Expr} {te:TE} {g:TG} (he:PE X e te) (hg:PG X tg g) (hs:swapsWithSole [tg] e pos.line X.env=pure false:=by rfl) (hw:swappedStores [tg] e X.env=pure none:=by rfl)
 (h1:(assignEach [tg] X.env).map (·.2)=[assign tg X.env]:=by rfl):PS X (.Assign [tg] e pos) (oO te g):=by
 (try refine ⟨?_⟩); intro pins s σ H D I h
 refine wpAny_Assign_stores (thn (he pins s σ H _ I h) λv s1 ⟨x,H1,I1,r1,q1⟩=>?_) hs hw
 rw [h1]
 exact thn (hg pins s1 σ H1 x v _ I1 r1 q1) λ_ s2 q=>q
theorem j7 {i:Nat} {x:Str} {e:Expr} {te:TE} {pos':Pos} (hN:X.N.Nodup) (hi:X.N[i]? = some x) (hx:Loc X.env.scope x) (he:PE X e te) (hs:swapsWith e (some (.Name x pos')) pos.line X.env=pure false:=by rfl) (hf:X.fn x=true\/X.env.scope.names.lookup x=some .local:=by first | exact .inl rfl | exact .inr rfl | assumption) :
 PS X (.Assign [.Name x pos'] e pos) (oO te (gU i)):=by
 (try refine ⟨?_⟩); intro pins s σ H D I h
 refine wpAny_Assign_Name (thn (he pins s σ H _ I h) λv s1 ⟨y,H1,I1,r1,q1⟩=>?_) hs
 exact e_ I1 hN hi hx r1 (λs2 I2=>⟨_,H1,I2,q1⟩) hf
def tPar (i j:Nat) (ta:TA):TS:=λD σ H=>ta σ H λvs H1=>∃ v w,vs=[v,w]/\D.nx ((σ.set i (some v)).set j (some w)) H1
theorem sO {i j:Nat} {x y:Str} {a b:Expr} {ta:TA} {px py pt:Pos} {kt k2 pt2} (hc:X.calm=true) (hN:X.N.Nodup) (hi:X.N[i]? = some x) (hj:X.N[j]? = some y) (hij:i≠j)
 (hx:X.env.scope.names.lookup x=some .local) (hy:X.env.scope.names.lookup y=some .local) (ha:PA X [a,b] ta)
 (hw:swappedStores [.Tuple [.Name x px,.Name y py] kt pt] (.Tuple [a,b] k2 pt2) X.env=pure (some [x,y]))
 (hs:swapsWithSole [.Tuple [.Name x px,.Name y py] kt pt] (.Tuple [a,b] k2 pt2) pos.line X.env=pure false:=by rfl) :
 PS X (.Assign [.Tuple [.Name x px,.Name y py] kt pt] (.Tuple [a,b] k2 pt2) pos) (tPar i j ta):=by
 (try refine ⟨?_⟩); intro pins s σ H D I h
 rw [exec_Assign_arm]
 refine wpAny_bind (wpAny_standAt ?_)
 rw [hs]
 refine wpAny_bind (wpAny_pure ?_)
 rw [if_neg (by decide)]
 refine wpAny_bind (Tuple_ (thn (ha _ pins s σ H _ I h) λus s1 ⟨vs,H1,I1,r1,q1⟩=>?_))
 obtain ⟨v,w,e1,q1⟩:=q1
 subst e1
 obtain ⟨u1,u2,rfl,rv,rw'⟩:∃ u1 u2,us=[u1,u2]/\aW v u1/\aW w u2:=by
  cases r1 with
  | cons p q =>
   cases q with
   | cons p' q' =>
    cases q'
    exact ⟨_,_,rfl,p,p'⟩
 refine wpAny_newObj_type ?_ (by show 2<=sizeLine; decide)
 have I2:Inv X pins σ H1 { s1 with heap:=s1.heap.push { cls:=.type "tuple",data:=.seq [u1,u2].toArray } }:=I1.kept (t':=s1.toks) λb o e=>Heap.get?_push_of_some _ e
 rw [hw]
 refine wpAny_bind (wpAny_pure ?_)
 show wpAny (model X.prog X.w) X.A (do rule "assign.swapped-stores"; let items <- unpackItems (.ref s1.heap.objs.size) 2 none; assignInOrder [λv=>bindName X.env y v,λv=>bindName X.env x v] items.reverse; pure Flow.next) _ _ _
 refine wpAny_bind (wpAny_rule (wpAny_bind (unpackItems_tuple (items:=#[u1,u2]) (I.ok.hd hc) (IsTup.new s1.heap _) λh' hx'=>?_)))
 have I3:=I2.kept (h':=h') (t':=s1.toks) λb o e=>hx' b o (Nat.ne_of_lt (Heap.lt_size e)) e
 show wpAny _ _ (assignInOrder [λv=>bindName X.env y v,λv=>bindName X.env x v] [u2,u1] >>= λ_=>pure Flow.next) _ _ _
 refine wpAny_bind (assignInOrder_cons (wpAny_bindName (e_ I3 hN hj (.inl hy) rw' (λs2 I4=>?_) (.inr hy))))
 refine assignInOrder_cons (wpAny_bindName (e_ I4 hN hi (.inl hx) rv (λs3 I5=>assignInOrder_nil (wpAny_pure ?_)) (.inr hx)))
 rw [List.set_comm _ _ (Ne.symm hij)] at I5
 exact ⟨_,H1,I5,q1⟩
def tAugS (to ti te:TE) (tget:V->V->Hp->VK->Prop) (tip:TIp) (tset:nI):TS:=λD σ H=>to σ H λo H1=>ti σ H1 λi H2=>tget o i H2 λx H3=>te σ H3 λy H4=>tip x y H4 λz H5=>tset o i z H5 λH6=>D.nx σ H6
def PGet (X:Cx) (t:V->V->Hp->VK->Prop):Prop :=
 ∀ (pins:List (Addr×Obj)) (s:Shared) (σ:St) (H:Hp) (o i:V) (ov iv:Value) (Q:VK),Inv X pins σ H s->aW o ov->aW i iv->t o i H Q ->
  wpAny (model X.prog X.w) X.A (getItem ov iv) (EP X pins σ Q) X.xe s
theorem p9 {o i e:Expr} {to ti te:TE} {tget:V->V->Hp->VK->Prop} {tip:TIp} {tset:nI} {op:Operator} {tpos:Pos} (ho:PE X o to) (hi:PE X i ti) (hg:PGet X tget) (he:PE X e te) (hp:PIp X op tip) (hs:PSet X tset)
 (ha:∀ ov iv new,augStore i ov iv new=(do holding [new,ov,iv] (setItem ov iv new); release [new,ov,iv] []; pure .next):=by intros; rfl):PS X (.AugAssign (.Subscript o i tpos) op e pos) (tAugS to ti te tget tip tset):=by
 (try refine ⟨?_⟩); intro pins s σ H D I h
 refine wpAny_AugAssign_SubscriptAny (thn (ho pins s σ H _ I h) λov s1 ⟨x1,H1,I1,r1,q1⟩=>?_) ha
 refine thn (hi pins s1 σ H1 _ I1 q1) λiv s2 ⟨x2,H2,I2,r2,q2⟩=>?_
 refine thn (hg pins s2 σ H2 x1 x2 ov iv _ I2 r1 r2 q2) λold s3 ⟨x3,H3,I3,r3,q3⟩=>?_
 refine thn (he pins s3 σ H3 _ I3 q3) λv s4 ⟨x4,H4,I4,r4,q4⟩=>?_
 refine thn (hp pins s4 σ H4 x3 x4 old v _ I4 r3 r4 q4) λnew s5 ⟨x5,H5,I5,r5,q5⟩=>?_
 exact thn (hs pins s5 σ H5 x1 x2 x5 ov iv new _ I5 r1 r2 r5 q5) λ_ s6 ⟨H6,I6,q6⟩=>⟨σ,H6,I6,q6⟩
def ipI (f:Int->Int->Int):TIp:=λx y H Q=>∃ i j,x = .int i/\y = .int j/\Q (.int (f i j)) H
theorem rp:PIp X .Sub (ipI λi j=>i - j):=by
 (try refine ⟨?_⟩); intro pins s σ H x y v u Q I r1 r2 h
 obtain ⟨i,j,e1,e2,q⟩:=h
 subst e1; subst e2
 obtain ⟨t,rfl⟩:=r1
 obtain ⟨t',rfl⟩:=r2
 exact isub_int ⟨.int _,H,I.tok _,⟨_,rfl⟩,q⟩
end
section
variable {X:Cx} {pos:Pos}
def rH (c:TT) (tb:TS):TS:=λD σ H=>∃ W:Nat->St->Hp->Prop,(∃ m,W m σ H)/\∀ m σ H,W m σ H ->
 c σ H λb H1=>if b=true then ∃ N:St->Hp->Prop,(∀ σ' H',N σ' H'->∃ m',m'<m/\W m' σ' H')/\tb { D with nx:=N,ct:=N,bk:=D.nx } σ H1 else D.nx σ H1
theorem nB {c:Expr} {body:List Stmt} {tc:TT} {tb:TS} (hp:PassesOwn (model X.prog X.w) X.A X.env X.xe) (hc:PT X c tc) (hb:PSs X body tb):PS X (.While c body [] pos) (rH tc tb):=by
 (try refine ⟨?_⟩); intro pins s σ H D I h
 obtain ⟨W,⟨m0,w0⟩,turn⟩:=h
 refine wpAny_While (codeAny_whileLoop (λn s'=>∃ σ' H',Inv X pins σ' H' s'/\W n σ' H') ?_ m0 ⟨σ,H,I,w0⟩)
 rintro n s1 ⟨σ1,H1,I1,w1⟩
 refine wpAny_passesOwn hp (thn (hc pins s1 σ1 H1 _ I1 (turn n σ1 H1 w1)) λb s2 ⟨H2,I2,q2⟩=>?_)
 cases b with
 | true =>
  obtain ⟨N,hN,q2⟩:=q2
  rw [if_pos rfl]
  refine wpAny_passesOwn hp (thn (hb pins s2 σ1 H2 _ I2 q2) λf s3 q3=>?_)
  cases f with
  | next =>
   obtain ⟨σ3,H3,I3,n3⟩:=q3
   obtain ⟨m',hm,w3⟩:=hN σ3 H3 n3
   exact ⟨m',hm,σ3,H3,I3,w3⟩
  | cont =>
   obtain ⟨σ3,H3,I3,n3⟩:=q3
   obtain ⟨m',hm,w3⟩:=hN σ3 H3 n3
   exact ⟨m',hm,σ3,H3,I3,w3⟩
  | brk=>exact q3
  | ret v=>exact q3
 | false =>
  rw [if_neg Bool.false_ne_true]
  exact wpAny_execs_nil ⟨σ1,H2,I2,q2⟩
end
structure It where
 go:Nat->Hp->Prop
 yld:Nat->Hp->V->Hp->Prop
 stop:Nat->Hp->Prop
def f_ (X:Cx) (pins:List (Addr×Obj)) (H:Hp) (b:Addr):Prop :=
 H b=none/\b≠X.env.locals/\b ∉ X.fs/\(b∈X.ex\/X.s₀.heap.objs.size<=b)/\(∀ x c,X.env.cells.lookup x=some c->c≠b)/\∀ p∈X.pn++pins,p.1≠b
theorem Inv.fpOk {X:Cx} {pins:List (Addr×Obj)} {σ:St} {H H':Hp} {s:Shared} {b:Addr} (I:Inv X pins σ H s) (hb:s.heap.objs.size<=b) (hn:H' b=none):f_ X pins H' b:=by
 refine ⟨hn,Nat.ne_of_gt (Nat.lt_of_lt_of_le I.lt hb),I.nofs hb,.inr (Nat.le_trans I.sz hb),λx c e z=>?_,λp hp z=>?_⟩
 ·obtain ⟨v,q⟩:=I.cell x c e
  exact absurd (Nat.lt_of_lt_of_le q.lt (by rw [z]; exact hb)) (Nat.lt_irrefl _)
 ·exact absurd (Nat.lt_of_lt_of_le (Heap.lt_size (I.pin p hp).1) (by rw [z]; exact hb)) (Nat.lt_irrefl _)
structure Turn (P:Program) (w:World) (K:PySem.W.Frag) (tg:Expr) (J:It) (fp:List Addr) (it:Addr) (tn:Nat->Heap->Prop):Prop where
 mem:it∈fp
 obj:∀ i h,tn i h->∀ b∈fp,∃ o,h.get? b=some o/\∀ v,o.data≠.cell v
 keep:∀ i h h',tn i h->(∀ b∈fp,∀ o,h.get? b=some o->h'.get? b=some o)->tn i h'
 item:∀ (X:Cx),X.prog=P->X.w=w->X.K=K->X.calm=true->∀ (i:Nat) (pins:List (Addr×Obj)) (s:Shared) (σ:St) (H:Hp) (E:Value->Shared->Prop),Inv X pins σ H s->(∀ b∈fp,f_ X pins H b)->tn i s.heap->J.go i H ->
  wpAny (model P w) X.A (pyNext (.ref it)) (λr s1=>∃ u,r=some u /\
   wpAny (model P w) X.A (letOwnedTupleGo tg (.ref it) u) (λ_ s2=>∃ x H',Inv X pins σ H' s2/\aW x u/\J.yld i H x H'/\tn (i + 1) s2.heap/\∀ b∈fp,H' b=none) E s1) E s
 done:∀ (X:Cx),X.prog=P->X.w=w->X.K=K->X.calm=true->∀ (i:Nat) (pins:List (Addr×Obj)) (s:Shared) (σ:St) (H:Hp) (E:Value->Shared->Prop),Inv X pins σ H s->(∀ b∈fp,f_ X pins H b)->tn i s.heap->J.stop i H ->
  wpAny (model P w) X.A (pyNext (.ref it)) (λr s1=>r=none/\Inv X pins σ H s1) E s
 self:∀ (A:Around) (i:Nat) (s:Shared) (Q:Value->Shared->Prop) (E:Value->Shared->Prop),tn i s.heap->Q (.ref it) s->wpAny (model P w) A (pyIter (.ref it)) Q E s
abbrev TI:=St->Hp->(It->Hp->Prop)->Prop
def PIE (X:Cx) (pins:List (Addr×Obj)) (σ:St) (tg:Expr) (R:It->Hp->Prop) (itv:Value) (s2:Shared):Prop :=
 ∃ (it:Addr) (fp:List Addr) (tn:Nat->Heap->Prop) (J:It) (H':Hp),itv = .ref it/\Inv X pins σ H' s2/\Turn X.prog X.w X.K tg J fp it tn/\tn 0 s2.heap/\(∀ b∈fp,f_ X pins H' b)/\R J H'
structure PI (X:Cx) (tg iter:Expr) (wi:TI):Prop where
 go:∀ (pins:List (Addr×Obj)) (s:Shared) (σ:St) (H:Hp) (R:It->Hp->Prop),Inv X pins σ H s->wi σ H R ->
  wpAny (model X.prog X.w) X.A (eval iter X.env) (λv s1=>wpAny (model X.prog X.w) X.A (pyIter v) (PIE X pins σ tg R) X.xe s1) X.xe s
instance {X:Cx} {tg iter:Expr} {wi:TI}:CoeFun (PI X tg iter wi) λ_=>∀ (pins:List (Addr×Obj)) (s:Shared) (σ:St) (H:Hp) (R:It->Hp->Prop),Inv X pins σ H s->wi σ H R ->
 wpAny (model X.prog X.w) X.A (eval iter X.env) (λv s1=>wpAny (model X.prog X.w) X.A (pyIter v) (PIE X pins σ tg R) X.xe s1) X.xe s:=⟨λh=>h.go⟩
theorem n9 {M:Model} {A:Around} {E:Value->Shared->Prop} {s:Shared} {tg:Expr} {it:Addr} {u:Value} {o:Obj} {n:String} {vs:Array Value} {Q:Unit->Shared->Prop} (ho:s.heap.get? it=some o) (hc:o.cls = .type n) (hd:o.data = .fields vs)
 (hn : ["enumerate","zip","dict_itemiterator","dict_reverseitemiterator","odict_iterator","itertools.zip_longest","itertools.pairwise"].contains n=false) (hQ:Q () s):wpAny M A (letOwnedTupleGo tg (.ref it) u) Q E s:=by
 unfold letOwnedTupleGo
 cases tg <;> first
  | exact wpAny_pure hQ
  | (cases u <;> first
   | exact wpAny_pure hQ
   | (refine wpAny_bind (wpAny_load ho ?_)
      rw [hc,hd]
      show wpAny M A (if (["enumerate","zip","dict_itemiterator","dict_reverseitemiterator","odict_iterator","itertools.zip_longest","itertools.pairwise"].contains n&&vs[0]? == some (rawInt _))=true then _ else _) Q E s
      rw [if_neg (by intro h; rw [hn,Bool.false_and] at h; cases h)]
      exact wpAny_pure hQ))
def Itl (K:PySem.W.Frag) (a:Addr):It :=
 ⟨λi H=>∃ xs x,SqL K H a xs/\xs[i]? = some x,λi H x H'=>H'=H/\∀ xs,SqL K H a xs->xs[i]? = some x,λi H=>∃ xs,SqL K H a xs/\xs.length<=i⟩
def Itr (lo:Int) (n:Nat):It:=⟨λi _=>i<n,λi H x H'=>H'=H/\x = .int (lo + i),λi _=>n<=i⟩
theorem lB {P:Program} {w:World} {K:PySem.W.Frag} {tg:Expr} (a it:Addr):Turn P w K tg (Itl K a) [it] it (λi h=>h.IsListIter it a i) where
 mem:=by simp
 obj:=λi h st b hb=>by
  have e:b=it:=by simpa using hb
  subst e
  obtain ⟨o,e,c,d⟩:=st
  exact ⟨o,e,λv z=>by rw [d] at z; cases z⟩
 keep:=λi h h' st k=>st.at λo e=>k it (by simp) o e
 item:=by
  intro X hP hw hK hc i pins s σ H E I hf st hg
  subst hP hw hK
  obtain ⟨xs,x,hq,hx⟩:=hg
  obtain ⟨its,rv,p,hz⟩:=I.list hq
  obtain ⟨u,hu,ru⟩:=rv.get hx
  obtain ⟨f0,f1,f2,f3,f4,f5⟩:=hf it (by simp)
  refine wpAny_pyNext_list_item st p.isList (x:=u) (by simpa using hu) λh' st' sb=>?_
  have I1:Inv X pins σ H { s with heap:=h' }:=I.turned (t':=s.toks) (λb o hb e=>(sb.2 b hb).trans e) f0 f1 f3 f4 f5
  obtain ⟨o,e,c,d⟩:=id st'
  exact ⟨u,rfl,n9 (s:={ s with heap:=h' }) e c d (by decide) ⟨x,H,I1,ru,⟨rfl,λys hy=>by rw [I.list_inj hy hq]; exact hx⟩,st',λb hb=>(hf b hb).1⟩⟩
 done:=by
  intro X hP hw hK hc i pins s σ H E I hf st hg
  subst hP hw hK
  obtain ⟨xs,hq,hx⟩:=hg
  obtain ⟨its,rv,p,hz⟩:=I.list hq
  obtain ⟨f0,f1,f2,f3,f4,f5⟩:=hf it (by simp)
  have hl:=rv.length
  exact wpAny_pyNext_list_end (I.ok.hd hc) st p.isList (by simp; omega) λh' eb=>⟨rfl,I.turned (t':=s.toks) (λb o hb e=>eb b o hb e) f0 f1 f3 f4 f5⟩
 self:=λ_ _ _ _ _ st h=>wpAny_pyIter_listiter st h
theorem jS {P:Program} {w:World} {K:PySem.W.Frag} {tg:Expr} (it:Addr) (lo:Int) (n:Nat):Turn P w K tg (Itr lo n) [it] it (λi h=>IsRangeIter h it (lo + (i:Nat) * 1) ((n:Int) - (i:Nat)) 1) where
 mem:=by simp
 obj:=λi h st b hb=>by
  have e:b=it:=by simpa using hb
  subst e
  exact ⟨_,st,λv z=>by
   have z':Data.fields _=Data.cell v:=z
   cases z'⟩
 keep:=λi h h' st k=>k it (by simp) _ st
 item:=by
  intro X hP hw hK hc i pins s σ H E I hf st hg
  subst hP hw hK
  obtain ⟨f0,f1,f2,f3,f4,f5⟩:=hf it (by simp)
  have W:=Walks.range (prog:=X.prog) (w:=X.w) (I.ok.hd hc) it lo 1 n
  refine W.item i s _ _ hg st λv h' tk hv st' kk=>?_
  obtain ⟨t,rfl⟩:=hv
  have I1:Inv X pins σ H { s with heap:=h',toks:=tk }:=I.turned (λb o hb e=>kk b o (by simpa using hb) e) f0 f1 f3 f4 f5
  refine ⟨_,rfl,n9 (s:={ s with heap:=h',toks:=tk }) (n:="range_iterator") st' rfl rfl (by decide) ⟨.int (lo + i),H,I1,⟨t,?_⟩,⟨rfl,rfl⟩,st',λb hb=>(hf b hb).1⟩⟩
  rw [Int.mul_one]
 done:=by
  intro X hP hw hK hc i pins s σ H E I hf st hg
  subst hP hw hK
  obtain ⟨f0,f1,f2,f3,f4,f5⟩:=hf it (by simp)
  exact wpAny_pyNext_range_end (I.ok.hd hc) st (by have:n<=i:=hg; omega) λh' eb=>⟨rfl,I.turned (t':=s.toks) (λb o hb e=>eb b o hb e) f0 f1 f3 f4 f5⟩
 self:=λ_ _ _ _ _ st h=>wpAny_pyIter_rangeiter st h
section
variable {X:Cx} {tg:Expr}
def iList (K:PySem.W.Frag) (tl:TE):TI:=λσ H R=>tl σ H λx H1=>∃ a,x = .ref a/\(∃ xs,SqL K H1 a xs)/\R (Itl K a) H1
theorem ky {l:Expr} {tl:TE} (hl:PE X l tl):PI X tg l (iList X.K tl):=by
 (try refine ⟨?_⟩); intro pins s σ H R I h
 refine thn (hl pins s σ H _ I h) λv s1 ⟨x,H1,I1,r1,q1⟩=>?_
 obtain ⟨a,e,⟨xs,hq⟩,q⟩:=q1
 subst e
 cases r1
 obtain ⟨its,rv,p,hz⟩:=I1.list hq
 refine wpAny_pyIter_list p.isList ?_
 refine ⟨s1.heap.objs.size,[s1.heap.objs.size],_,_,H1,rfl,I1.kept (t':=s1.toks) λb o e=>Heap.get?_push_of_some _ e,lB a _,⟨_,Heap.get?_push_size _ rfl,rfl,rfl⟩,λb hb=>?_,q⟩
 have e:b=s1.heap.objs.size:=by simpa using hb
 subst e
 exact I1.fpOk (Nat.le_refl _) (I1.hok.fresh (Nat.le_refl _))
theorem i_ {pins:List (Addr×Obj)} {σ:St} {H:Hp} {s:Shared} {R:It->Hp->Prop} {E:Value->Shared->Prop} {lo hi:Int} {t u v:Tok} {tk:Nat} (I:Inv X pins σ H s) (h1 : -(2 ^ 62)<=lo) (h2:lo<2 ^ 62) (h3 : -(2 ^ 62)<=hi) (h4:hi<2 ^ 62)
 (q:R (Itr lo (hi - lo).toNat) H):wpAny (model X.prog X.w) X.A (pyIter (.ref s.heap.objs.size)) (PIE X pins σ tg R) E { s with heap:=s.heap.push { cls:=.type "range",data:=.fields #[.int lo t,.int hi u,.int 1 v] },toks:=tk }:=by
 refine wpAny_pyIter_range (IsRange.new ..) (small_one h1 h2 h3 h4) ?_
 have I1:Inv X pins σ H { s with heap:=s.heap.push { cls:=.type "range",data:=.fields #[.int lo t,.int hi u,.int 1 v] },toks:=tk }:=I.kept λb o e=>Heap.get?_push_of_some _ e
 refine ⟨(s.heap.push { cls:=.type "range",data:=.fields #[.int lo t,.int hi u,.int 1 v] }).objs.size,[(s.heap.push { cls:=.type "range",data:=.fields #[.int lo t,.int hi u,.int 1 v] }).objs.size],_,_,H,rfl,
  I1.kept (t':=tk) λb o e=>Heap.get?_push_of_some _ e,jS _ lo (hi - lo).toNat,?_,λb hb=>?_,q⟩
 ·have e1:lo + ((0:Nat):Int) * 1=lo:=by simp
  have e2:(((hi - lo).toNat:Nat):Int) - ((0:Nat):Int)=Builtin.Range.rangeSize lo hi 1:=by rw [rangeSize_one]; split <;> omega
  show IsRangeIter _ _ (lo + ((0:Nat):Int) * 1) ((((hi - lo).toNat:Nat):Int) - ((0:Nat):Int)) 1
  rw [e1,e2]
  exact Heap.get?_push_size _ rfl
 ·have e:b=(s.heap.push { cls:=.type "range",data:=.fields #[.int lo t,.int hi u,.int 1 v] }).objs.size:=by simpa using hb
  subst e
  exact I1.fpOk (Nat.le_refl _) (I1.hok.fresh (Nat.le_refl _))
def iRng1 (ta:TA):TI:=λσ H R=>ta σ H λvs H1=>∃ j:Int,vs=[.int j]/\-(2 ^ 62)<=j/\j<2 ^ 62/\R (Itr 0 j.toNat) H1
def iRng2 (ta:TA):TI:=λσ H R=>ta σ H λvs H1=>∃ i j:Int,vs=[.int i,.int j]/\(-(2 ^ 62)<=i/\i<2 ^ 62/\-(2 ^ 62)<=j/\j<2 ^ 62)/\R (Itr i (j - i).toNat) H1
theorem l4 {a:Expr} {ta:TA} {p pos:Pos} (hg:Gl X "range") (hm:X.mg "range" = none) (ha:PA X [a] ta) (hs:starEach [a] X.env=[(false,eval a X.env)]:=by rfl):PI X tg (.Call (.Name "range" p) [a] [] pos) (iRng1 ta):=by
 (try refine ⟨?_⟩); intro pins s σ H R I h
 refine Call_ (cG I hg hm boot_range (PyProof.Rows.callWith_type1 (thn (ha pos pins s σ H _ I h) λus s1 ⟨vs,H1,I1,r1,q1⟩=>?_) hs rfl))
 obtain ⟨j,e,q1,q2,q⟩:=q1
 subst e
 cases r1 with
 | cons r rr =>
  cases rr
  obtain ⟨t,rfl⟩:=r
  exact call_range_1 (i_ I1 (by omega) (by omega) q1 q2 (by simpa using q))
theorem lR {a b:Expr} {ta:TA} {p pos:Pos} (hg:Gl X "range") (hm:X.mg "range" = none) (ha:PA X [a,b] ta) (hs:starEach [a,b] X.env=[(false,eval a X.env),(false,eval b X.env)]:=by rfl) (hs2:starEach [b] X.env=[(false,eval b X.env)]:=by rfl) :
 PI X tg (.Call (.Name "range" p) [a,b] [] pos) (iRng2 ta):=by
 (try refine ⟨?_⟩); intro pins s σ H R I h
 refine Call_ (cG I hg hm boot_range (PyProof.Rows.callWith_type1 (thn (ha pos pins s σ H _ I h) λus s1 ⟨vs,H1,I1,r1,q1⟩=>?_) (by rw [hs,hs2]) (by rw [hs2]; rfl)))
 obtain ⟨i,j,e,⟨q1,q2,q3,q4⟩,q⟩:=q1
 subst e
 cases r1 with
 | cons r rr =>
  cases rr with
  | cons r' rr =>
   cases rr
   obtain ⟨t,rfl⟩:=r
   obtain ⟨t',rfl⟩:=r'
   exact call_range_2 (i_ I1 q1 q2 q3 q4 q)
def tFor (wi:TI) (g:TG) (tb:TS):TS:=λD σ H=>wi σ H λJ H1=>∃ W:Nat->Nat->St->Hp->Prop,(∃ m,W 0 m σ H1)/\∀ i m σ H,W i m σ H ->
 (J.stop i H/\D.nx σ H)\/(J.go i H/\∃ N:St->Hp->Prop,(∀ σ' H',N σ' H'->∃ m',m'<m/\W (i + 1) m' σ' H')/\∀ x H',J.yld i H x H'->g x σ H' λσ2 H2=>tb { D with nx:=N,ct:=N,bk:=D.nx } σ2 H2)
def gS (fp:List Addr) (h:Heap):List (Addr×Obj):=fp.filterMap λb=>(h.get? b).map λo=>(b,o)
theorem b_ {fp:List Addr} {h:Heap} {b:Addr} {o:Obj} (hb:b∈fp) (e:h.get? b=some o):(b,o)∈gS fp h:=List.mem_filterMap.mpr ⟨b,hb,by rw [e]; rfl⟩
theorem io {fp:List Addr} {h:Heap} {p:Addr×Obj} (hp:p∈gS fp h):p.1∈fp/\h.get? p.1=some p.2:=by
 obtain ⟨b,hb,e⟩:=List.mem_filterMap.mp hp
 cases q:h.get? b with
 | none=>rw [q] at e; cases e
 | some o =>
  rw [q] at e
  have e':(b,o)=p:=Option.some.inj e
  subst e'
  exact ⟨hb,q⟩
theorem Inv.pinned {pins:List (Addr×Obj)} {σ:St} {H:Hp} {s:Shared} {fp:List Addr} (I:Inv X pins σ H s) (hf:∀ b∈fp,f_ X pins H b) (ho:∀ b∈fp,∃ o,s.heap.get? b=some o/\∀ v,o.data≠.cell v):Inv X (pins++gS fp s.heap) σ H s :=
 I.pins_of λp hp=>(List.mem_append.mp hp).elim (λz=>I.pin p (List.mem_append_right _ z)) λz=>by
  obtain ⟨hb,e⟩:=io z
  obtain ⟨f0,f1,f2,_⟩:=hf p.1 hb
  obtain ⟨o,e',d⟩:=ho p.1 hb
  rw [e] at e'; cases e'
  exact ⟨e,f0,f1,f2,d⟩
theorem Inv.unpinned {pins pl:List (Addr×Obj)} {σ:St} {H:Hp} {s:Shared} (I:Inv X (pins++pl) σ H s):Inv X pins σ H s:=I.pins_of λp hp=>I.pin p (List.mem_append_right _ (List.mem_append_left _ hp))
theorem mL {iter:Expr} {body:List Stmt} {wi:TI} {g:TG} {tb:TS} {pos:Pos} (hp:PassesOwn (model X.prog X.w) X.A X.env X.xe) (hc:X.calm=true) (hi:PI X tg iter wi) (hg:PG X tg g) (hb:PSs X body tb)
 (hs:∀ x,foldedSetIterable iter X.env x=pure x:=by intro _; rfl):PS X (.For tg iter body [] pos) (tFor wi g tb):=by
 (try refine ⟨?_⟩); intro pins s σ H D I h
 refine wpAny_For (thn (hi pins s σ H _ I h) λv s1 h1=>thn h1 λitv s2 h2=>?_) hs
 obtain ⟨it,fp,tn,J,H2,e,I2,T,st2,f2,W,⟨m0,w0⟩,turn⟩:=h2
 subst e
 -- what stays true of the iterator's objects through the loop
 have stat:∀ {H':Hp},(∀ b∈fp,H' b=none)->∀ b∈fp,f_ X pins H' b:=λhn b hb=>⟨hn b hb,(f2 b hb).2⟩
 refine codeAny_forLoop_any (λn s'=>∃ i σ' H',Inv X pins σ' H' s'/\tn i s'.heap/\(∀ b∈fp,H' b=none)/\W i n σ' H') ?_ m0 ⟨0,σ,H2,I2,st2,λb hb=>(f2 b hb).1,w0⟩
 rintro n s3 ⟨i,σ3,H3,I3,st3,fr3,w3⟩
 rcases turn i n σ3 H3 w3 with ⟨stop,qn⟩ | ⟨go,N,hN,step⟩
 ·refine wpAny_passesOwn hp (thn (T.done X rfl rfl rfl hc i pins s3 σ3 H3 X.xe I3 (stat fr3) st3 stop) λr s4 ⟨hr,I4⟩=>?_)
  subst hr
  exact wpAny_execs_nil ⟨σ3,H3,I4,qn⟩
 ·refine wpAny_passesOwn hp (thn (T.item X rfl rfl rfl hc i pins s3 σ3 H3 X.xe I3 (stat fr3) st3 go) λr s4 ⟨u,hr,h4⟩=>?_)
  subst hr
  refine wpAny_passesOwn hp (thn h4 λ_ s5 ⟨x,H5,I5,r5,y5,st5,fr5⟩=>?_)
  have I5':=I5.pinned (stat fr5) (T.obj _ _ st5)
  refine wpAny_passesOwn hp (thn (hg _ s5 σ3 H5 x u _ I5' r5 (step x H5 y5)) λ_ s6 ⟨σ6,H6,I6,q6⟩=>?_)
  refine wpAny_passesOwn hp (thn (hb _ s6 σ6 H6 _ I6 q6) λf s7 q7=>?_)
  have again:∀ {σ7:St} {H7:Hp},Inv X (pins++gS fp s5.heap) σ7 H7 s7->N σ7 H7->∃ m,m<n/\∃ i σ' H',Inv X pins σ' H' s7/\tn i s7.heap/\(∀ b∈fp,H' b=none)/\W i m σ' H':=λ{σ7 H7} I7 n7=>by
   obtain ⟨m',hm,w7⟩:=hN σ7 H7 n7
   refine ⟨m',hm,i + 1,σ7,H7,I7.unpinned,T.keep _ _ _ st5 λb hb o e=>(I7.pin (b,o) (List.mem_append_right _ (List.mem_append_right _ (b_ hb e)))).1,λb hb=>?_,w7⟩
   obtain ⟨o,e,d⟩:=T.obj _ _ st5 b hb
   exact (I7.pin (b,o) (List.mem_append_right _ (List.mem_append_right _ (b_ hb e)))).2.1
  cases f with
  | next=>obtain ⟨σ7,H7,I7,n7⟩:=q7; exact again I7 n7
  | cont=>obtain ⟨σ7,H7,I7,n7⟩:=q7; exact again I7 n7
  | brk=>obtain ⟨σ7,H7,I7,q7⟩:=q7; exact ⟨σ7,H7,I7.unpinned,q7⟩
  | ret v=>obtain ⟨x7,σ7,H7,I7,r7,q7⟩:=q7; exact ⟨x7,σ7,H7,I7.unpinned,r7,q7⟩
end
abbrev R2:=V->V->Hp->VK->Prop
def OpR (X:Cx) (f:Value->Value->Sem Value) (r:R2):Prop :=
 ∀ (pins:List (Addr×Obj)) (s:Shared) (σ:St) (H:Hp) (x y:V) (v u:Value) (Q:VK),Inv X pins σ H s->aW x v->aW y u->r x y H Q ->
  wpAny (model X.prog X.w) X.A (f v u) (EP X pins σ Q) X.xe s
def UnR (X:Cx) (f:Value->Sem Value) (r:V->Hp->VK->Prop):Prop :=
 ∀ (pins:List (Addr×Obj)) (s:Shared) (σ:St) (H:Hp) (x:V) (v:Value) (Q:VK),Inv X pins σ H s->aW x v->r x H Q ->
  wpAny (model X.prog X.w) X.A (f v) (EP X pins σ Q) X.xe s
def cL (X:Cx) (f:Value) (r:List V->Hp->VK->Prop):Prop :=
 ∀ (pins:List (Addr×Obj)) (s:Shared) (σ:St) (H:Hp) (xs:List V) (us:List Value) (Q:VK),Inv X pins σ H s->aH xs us->r xs H Q ->
  wpAny (model X.prog X.w) X.A (call f us) (EP X pins σ Q) X.xe s
def tOp (r:R2) (ta tb:TE):TE:=λσ H Q=>ta σ H λx H1=>tb σ H1 λy H2=>r x y H2 Q
def tUn (r:V->Hp->VK->Prop) (ta:TE):TE:=λσ H Q=>ta σ H λx H1=>r x H1 Q
def rI (C:Int->Int->Prop) (g:Int->Int->V):R2:=λx y H Q=>∃ i j,x = .int i/\y = .int j/\C i j/\Q (g i j) H
def rI0 (g:Int->Int->V):R2:=λx y H Q=>∃ i j,x = .int i/\y = .int j/\Q (g i j) H
def rU (g:Int->V):V->Hp->VK->Prop:=λx H Q=>∃ i,x = .int i/\Q (g i) H
section
variable {X:Cx} {a b c:Expr} {ta tb tc:TE} {pos:Pos}
theorem binT (ha:PE X a ta) (hb:PE X b tb) {pins:List (Addr×Obj)} {s:Shared} {σ:St} {H:Hp} {R:V->V->Hp->Prop} (I:Inv X pins σ H s)
 (h:ta σ H λx H1=>tb σ H1 λy H2=>R x y H2) {Q:Value->Shared->Prop} {f:Value->Value->Sem Value}
 (hf:∀ v u s2 x y H2,Inv X pins σ H2 s2->aW x v->aW y u->R x y H2->wpAny (model X.prog X.w) X.A (f v u) Q X.xe s2) :
 wpAny (model X.prog X.w) X.A (eval a X.env) (λv s₁=>wpAny (model X.prog X.w) X.A (eval b X.env) (λu s₂=>wpAny (model X.prog X.w) X.A (f v u) Q X.xe s₂) X.xe s₁) X.xe s:=by
 refine thn (ha pins s σ H _ I h) λv s1 ⟨x,H1,I1,r1,q1⟩=>?_
 refine thn (hb pins s1 σ H1 _ I1 q1) λu s2 ⟨y,H2,I2,r2,q2⟩=>?_
 exact hf v u s2 x y H2 I2 r1 r2 q2
theorem kR {op:Operator} {r:R2} (ho:OpR X (binaryOp op) r) (ha:PE X a ta) (hb:PE X b tb):PE X (.BinOp a op b pos) (tOp r ta tb):=by
 (try refine ⟨?_⟩); intro pins s σ H Q I h
 exact wpAny_BinOp (binT ha hb I h λv u s2 x y H2 I2 rx ry q=>ho pins s2 σ H2 x y v u Q I2 rx ry q)
theorem qG {op:UnaryOp} {r:V->Hp->VK->Prop} (ho:UnR X (unaryOp op) r) (ha:PE X a ta):PE X (.UnaryOp op a pos) (tUn r ta):=by
 (try refine ⟨?_⟩); intro pins s σ H Q I h
 exact UnaryOp_ (thn (ha pins s σ H _ I h) λv s1 ⟨x,H1,I1,r1,q1⟩=>ho pins s1 σ H1 x v Q I1 r1 q1)
theorem opI {f:Value->Value->Sem Value} {C:Int->Int->Prop} {g:Int->Int->Int}
 (rule:∀ (i j:Int) (t u:Tok) (s:Shared) (Q:Value->Shared->Prop) (E:Value->Shared->Prop),C i j->Q (.int (g i j) s.toks) { s with toks:=s.toks + 1 }->wpAny (model X.prog X.w) X.A (f (.int i t) (.int j u)) Q E s) :
 OpR X f (rI C λi j=>.int (g i j)):=by
 (try refine ⟨?_⟩); intro pins s σ H x y v u Q I rx ry h
 obtain ⟨i,j,rfl,rfl,hc,q⟩:=h
 obtain ⟨t,rfl⟩:=rx
 obtain ⟨t',rfl⟩:=ry
 exact rule i j t t' s _ _ hc ⟨.int (g i j),H,I.tok _,⟨_,rfl⟩,q⟩
theorem opI0 {f:Value->Value->Sem Value} {g:Int->Int->Int}
 (rule:∀ (i j:Int) (t u:Tok) (s:Shared) (Q:Value->Shared->Prop) (E:Value->Shared->Prop),Q (.int (g i j) s.toks) { s with toks:=s.toks + 1 }->wpAny (model X.prog X.w) X.A (f (.int i t) (.int j u)) Q E s) :
 OpR X f (rI0 λi j=>.int (g i j)):=by
 (try refine ⟨?_⟩); intro pins s σ H x y v u Q I rx ry h
 obtain ⟨i,j,rfl,rfl,q⟩:=h
 obtain ⟨t,rfl⟩:=rx
 obtain ⟨t',rfl⟩:=ry
 exact rule i j t t' s _ _ ⟨.int (g i j),H,I.tok _,⟨_,rfl⟩,q⟩
theorem opB0 {f:Value->Value->Sem Value} {g:Int->Int->Bool}
 (rule:∀ (i j:Int) (t u:Tok) (s:Shared) (Q:Value->Shared->Prop) (E:Value->Shared->Prop),Q (.bool (g i j)) s->wpAny (model X.prog X.w) X.A (f (.int i t) (.int j u)) Q E s) :
 OpR X f (rI0 λi j=>.bl (g i j)):=by
 (try refine ⟨?_⟩); intro pins s σ H x y v u Q I rx ry h
 obtain ⟨i,j,rfl,rfl,q⟩:=h
 obtain ⟨t,rfl⟩:=rx
 obtain ⟨t',rfl⟩:=ry
 exact rule i j t t' s _ _ ⟨.bl (g i j),H,I,rfl,q⟩
def CDiv (i j:Int):Prop:=0<j/\j<1073741824
def CPow (i j:Int):Prop:=0<=j/\j<=1000000/\i.natAbs<2 ^ 64
def CMul (i j:Int):Prop:=(-(2 ^ 64)<i/\i<2 ^ 64)\/(-(2 ^ 64)<j/\j<2 ^ 64)
theorem CMul.ok {i j:Int} (h:CMul i j):IntMulOk i j:=by
 rcases h with ⟨h1,h2⟩ | ⟨h1,h2⟩
 ·exact .of_left (intBits_le_64 h1 h2)
 ·exact .of_right (intBits_le_64 h1 h2)
theorem bJ:OpR X (binaryOp .Add) (rI0 λi j=>.int (i + j)):=opI0 λ_ _ _ _ _ _ _ q=>add_int q
theorem bH:OpR X (binaryOp .Sub) (rI0 λi j=>.int (i - j)):=opI0 λ_ _ _ _ _ _ _ q=>sub_int q
theorem fL:OpR X (binaryOp .Mult) (rI CMul λi j=>.int (i * j)):=opI λ_ _ _ _ _ _ _ hc q=>mul_int q hc.ok
theorem pM:OpR X (binaryOp .FloorDiv) (rI CDiv λi j=>.int (i / j)):=opI λi j _ _ _ _ _ hc q=>by
 have h1:(0:Int)<j:=hc.1
 have h2:j<1073741824:=hc.2
 exact floordiv_int (by omega) (by rw [Int.fdiv_eq_ediv_of_nonneg i (by omega)]; exact q) (.inl (PyProof.noPylong_small (by omega)))
theorem cT:OpR X (binaryOp .Mod) (rI (λ_ j=>0<j) λi j=>.int (i % j)):=opI λi j _ _ _ _ _ hc q=>by
 have h1:(0:Int)<j:=hc
 exact mod_int' (by omega) (by rw [Int.fmod_eq_emod_of_nonneg i (by omega)]; exact q)
theorem eP:OpR X (binaryOp .Pow) (rI CPow λi j=>.int (i ^ j.toNat)):=opI λ_ _ _ _ _ _ _ hc q=>pow_int_small hc.1 hc.2.1 hc.2.2 q
theorem unI {f:Value->Sem Value} {g:Int->Int}
 (rule:∀ (i:Int) (t:Tok) (s:Shared) (Q:Value->Shared->Prop) (E:Value->Shared->Prop),Q (.int (g i) s.toks) { s with toks:=s.toks + 1 }->wpAny (model X.prog X.w) X.A (f (.int i t)) Q E s) :
 UnR X f (rU λi=>.int (g i)):=by
 (try refine ⟨?_⟩); intro pins s σ H x v Q I rx h
 obtain ⟨i,rfl,q⟩:=h
 obtain ⟨t,rfl⟩:=rx
 exact rule i t s _ _ ⟨.int (g i),H,I.tok _,⟨_,rfl⟩,q⟩
theorem mM:UnR X (unaryOp .USub) (rU λi=>.int (-i)):=unI λ_ _ _ _ _ q=>neg_int q
end
section
variable {X:Cx} {a b c:Expr} {ta tb tc:TE} {pos:Pos}
theorem qY:OpR X (compareOp .Lt) (rI0 λi j=>.bl (decide (i<j))):=opB0 λ_ _ _ _ _ _ _ q=>lt_int q
theorem kZ:OpR X (compareOp .LtE) (rI0 λi j=>.bl (decide (i<=j))):=opB0 λ_ _ _ _ _ _ _ q=>le_int q
theorem k8:OpR X (compareOp .Gt) (rI0 λi j=>.bl (decide (j<i))):=opB0 λ_ _ _ _ _ _ _ q=>gt_int q
theorem a5 (b:Expr) {op:CmpOp} (h:op≠.In:=by decide) (h2:op≠.NotIn:=by decide):behindInMarks op b=false:=by
 have e1:(op == CmpOp.In)=false:=by cases op <;> first | rfl | exact absurd rfl h
 have e2:(op == CmpOp.NotIn)=false:=by cases op <;> first | rfl | exact absurd rfl h2
 cases b <;> simp [behindInMarks,e1,e2]
theorem pA {op:CmpOp} {r:R2} (ho:OpR X (compareOp op) r) (ha:PE X a ta) (hb:PE X b tb) (hm:behindInMarks op b=false):PE X (.Compare a [op] [b] pos) (tOp r ta tb):=by
 (try refine ⟨?_⟩); intro pins s σ H Q I h
 exact wpAny_Compare1 (binT ha hb I h λv u s2 x y H2 I2 rx ry q=>ho pins s2 σ H2 x y v u Q I2 rx ry q) hm
def qK (t:TE):TT:=λσ H Q=>t σ H λx H'=>∃ k,x = .bl k/\Q k H'
theorem pC {op:CmpOp} {r:R2} (ho:OpR X (compareOp op) r) (ha:PE X a ta) (hb:PE X b tb) (hm:behindInMarks op b=false):PT X (.Compare a [op] [b] pos) (qK (tOp r ta tb)):=by
 (try refine ⟨?_⟩); intro pins s σ H Q I h
 refine wpAny_isTrue_Compare1 (thn (ha pins s σ H _ I h) λv s1 ⟨x,H1,I1,r1,q1⟩=>thn (hb pins s1 σ H1 _ I1 q1) λu s2 ⟨y,H2,I2,r2,q2⟩ =>
  thn (ho pins s2 σ H2 x y v u _ I2 r1 r2 q2) λc s3 ⟨z,H3,I3,r3,k,e,q3⟩=>?_) hm
 subst e
 cases r3
 exact wpAny_truthy_bool ⟨H3,I3,q3⟩
def ny (r r':R2) (ta tb tc:TE):TE:=λσ H Q=>ta σ H λx H1=>tb σ H1 λy H2=>r x y H2 λz H3=>∃ k,z = .bl k /\
 (if k=true then tc σ H3 λw' H4=>r' y w' H4 Q else Q (.bl false) H3)
theorem pk {op op':CmpOp} {r r':R2} (ho:OpR X (compareOp op) r) (ho':OpR X (compareOp op') r') (ha:PE X a ta) (hb:PE X b tb) (hc:PE X c tc)
 (hm:lastMarks [op,op'] [b,c]=false:=by with_unfolding_all rfl):PE X (.Compare a [op,op'] [b,c] pos) (ny r r' ta tb tc):=by
 (try refine ⟨?_⟩); intro pins s σ H Q I h
 refine Compare_chain (thn (ha pins s σ H _ I h) λv s1 ⟨x,H1,I1,r1,q1⟩=>chain_link (thn (hb pins s1 σ H1 _ I1 q1) λu s2 ⟨y,H2,I2,r2,q2⟩ =>
  thn (ho pins s2 σ H2 x y v u _ I2 r1 r2 q2) λd s3 ⟨z,H3,I3,r3,k,e,q3⟩=>?_)) hm
 subst e
 cases r3
 refine wpAny_truthy_bool ?_
 cases k with
 | false=>exact ite_ff ⟨.bl false,H3,I3,rfl,q3⟩
 | true=>exact ite_tt (chain_last (thn (hc pins s3 σ H3 _ I3 q3) λw' s4 ⟨z',H4,I4,r4,q4⟩=>ho' pins s4 σ H4 y z' u w' Q I4 r2 r4 q4))
theorem fT:(sizeLine:Nat)<2 ^ 63:=by rw [sizeLine_eq]; decide
theorem fV {x:V} {us:List Value} (r:aH [x] us):∃ u,us=[u]/\aW x u:=by
 cases r with
 | cons r1 r2=>cases r2; exact ⟨_,rfl,r1⟩
theorem mT {x y:V} {us:List Value} (r:aH [x,y] us):∃ u w',us=[u,w']/\aW x u/\aW y w':=by
 cases r with
 | cons r1 r2 =>
  cases r2 with
  | cons r3 r4=>cases r4; exact ⟨_,_,rfl,r1,r3⟩
theorem ig (hc:X.calm=true):cL X (.builtin "max") (λxs H Q=>∃ i j,xs=[.int i,.int j]/\Q (.int (if j > i then j else i)) H):=by
 (try refine ⟨?_⟩); intro pins s σ H xs us Q I r h
 obtain ⟨i,j,rfl,q⟩:=h
 obtain ⟨u,w',rfl,⟨t,rfl⟩,⟨t',rfl⟩⟩:=mT r
 refine max_two_ints (I.ok.hd hc) λh' tk k=>⟨_,H,I.kept k,?_,q⟩
 by_cases hj:j > i
 ·rw [if_pos hj,if_pos hj]; exact ⟨_,rfl⟩
 ·rw [if_neg hj,if_neg hj]; exact ⟨_,rfl⟩
theorem c8 (hc:X.calm=true):cL X (.builtin "min") (λxs H Q=>∃ i j,xs=[.int i,.int j]/\Q (.int (if j<i then j else i)) H):=by
 (try refine ⟨?_⟩); intro pins s σ H xs us Q I r h
 obtain ⟨i,j,rfl,q⟩:=h
 obtain ⟨u,w',rfl,⟨t,rfl⟩,⟨t',rfl⟩⟩:=mT r
 refine min_two_ints (I.ok.hd hc) λh' tk k=>⟨_,H,I.kept k,?_,q⟩
 by_cases hj:j<i
 ·rw [if_pos hj,if_pos hj]; exact ⟨_,rfl⟩
 ·rw [if_neg hj,if_neg hj]; exact ⟨_,rfl⟩
end
structure ObjM (h:Heap) (x dx C:Addr) (mA:Str->Option Value):Prop where
 obj:h.get? x=some (PySem.W.instObj C dx)
 ns:h.Ns1 dx mA
 ne:dx≠x
theorem l7 {h:Heap} {dx:Addr} {mA:Str->Option Value} (n:h.Ns1 dx mA):∃ od,h.get? dx=some od/\∀ name,PySem.W.lookIn name od=some (mA name):=by
 obtain ⟨o,es,ep,ho,hd,hk,_,hm⟩:=n
 refine ⟨o,ho,λname=>?_⟩
 have e:=hm name
 unfold nsFind findBy at e
 rw [<- Array.find?_toList] at e
 unfold PySem.W.lookIn
 rw [hd]
 dsimp only
 split
 ·rename_i y q
  rw [q] at e
  exact congrArg some e
 ·rename_i q
  rw [q] at e
  have a:es.toList.any (·.refKey)=false:=by
   rw [List.any_eq_false]
   intro y hy
   obtain ⟨z,t,hkey⟩:=hk y (Array.mem_toList_iff.mp hy)
   simp [DictEntry.refKey,hkey]
  have a' : ¬ es.toList.any (·.refKey)=true:=by rw [a]; exact Bool.false_ne_true
  rw [if_neg a']
  exact congrArg some e
theorem ObjM.look {h:Heap} {x dx C:Addr} {mA:Str->Option Value} (I:ObjM h x dx C mA):∃ od,PySem.W.InstAt h x (PySem.W.instObj C dx) C (some od)/\∀ name,PySem.W.lookIn name od=some (mA name) :=
 let ⟨od,ho,hl⟩:=l7 I.ns
 ⟨od,⟨I.obj,rfl,rfl,ho⟩,hl⟩
section
variable {prog:Program} {w:World} {A:Around} {E:Value->Shared->Prop} {s:Shared} {K:PySem.W.Frag} {x dx C f:Addr} {mA:Str->Option Value} {name:Str} {v:Value}
end
section
variable {P:Program} {w:World} {H H':Hp} {h h':Heap} {a C dx:Addr} {fs fs':List (Str×V)}
theorem p7 (hok:HOk P w H h) (e:H a=some (.ins C dx fs)):∃ mA,ObjM h a dx C mA/\(∀ f,RelO (fs.lookup f) (mA f))/\PySem.Within mA (fs.map (·.1))/\fs.length<=1000/\H dx=some (.own a):=by
 obtain ⟨d,z,ne,ob,mA,n,r,q⟩:=(show bn P w H h a (.ins C dx fs) from hok a _ e)
 exact ⟨mA,⟨ob,n,ne⟩,r,q,z,d⟩
end
structure Cls (K:PySem.W.Frag) (C:Addr):Prop where
 pg:PySem.W.plainGet K C Str.empty=true
 hd:PySem.W.hasDictIn K C=true
 po:PySem.W.plainOver K C=true
 sa:PySem.W.findIn K (.ref C) "__setattr__" = some (some (.builtin "object.__setattr__"))
theorem Cls.get {K:PySem.W.Frag} {C:Addr} (c:Cls K C) (f:Str):PySem.W.plainGet K C f=true:=c.pg
section
variable {X:Cx} {pins:List (Addr×Obj)} {σ:St} {H:Hp} {s:Shared} {a C dx:Addr} {fs:List (Str×V)} {f:Str} {v:V} {A:Around} {E:Value->Shared->Prop}
end
section
variable {X:Cx} {o e value:Expr} {f:Str} {pos pos' tpos:Pos} {ta tv:TE}
end
section
variable {X:Cx} {pins:List (Addr×Obj)} {σ:St} {H:Hp} {s:Shared} {A:Around} {E:Value->Shared->Prop} {Q:Value->Shared->Prop} {c:Value} {b:Bool}
inductive TyOf (K:PySem.W.Frag) (H:Hp):V->Value->Prop where
 | non:TyOf K H .non (.type "NoneType")
 | bl (x:Bool):TyOf K H (.bl x) (.type "bool")
 | int (i:Int):TyOf K H (.int i) (.type "int")
 | str (x:Str):TyOf K H (.str x) (.type "str")
 | flt (x:UInt64):TyOf K H (.flt x) (.type "float")
 | lst {a:Addr} {xs:List V} (e:H a=some (.lst xs)):TyOf K H (.ref a) (.type "list")
 | frz {a:Addr} {o:Obj} {xs:List V} (e:H a=some (.frz o (.lst xs))):TyOf K H (.ref a) (.type "list")
 | tup {a:Addr} {xs:List V} (e:H a=some (.tup xs)):TyOf K H (.ref a) (.type "tuple")
 | dK {a:Addr} {kvs:List (Key×V)} (e:H a=some (.dK kvs)):TyOf K H (.ref a) (.type "dict")
 | dT {a:Addr} {kvs:List (List Key×V)} (e:H a=some (.dT kvs)):TyOf K H (.ref a) (.type "dict")
 | ins {a C dx:Addr} {fs:List (Str×V)} (e:H a=some (.ins C dx fs)) (cl:Cls K C) (ha:PySem.W.findIn K (.ref C) "__class__" = some (some (.builtin "object.__class__")))
  (hn:PySem.W.specialIn K (.builtin "object.__class__") "__get__" = some (some (.builtin "getset_descriptor.__get__"))) (htk:PySem.W.takesIn K (.builtin "object.__class__")=some true)
  (hm:PySem.W.mroIn K C (.type "object")=some true):TyOf K H (.ref a) (.ref C)
theorem lK {x:V} {u t:Value} (I:Inv X pins σ H s) (rx:aW x u) (ty:TyOf X.K H x t) (e:PySem.W.kitOne X.K t c=some b) (h:∀ tk,Q (.bool b) { s with toks:=tk }) :
 wpAny (model X.prog X.w) A (call (.builtin "isinstance") [u,c]) Q E s:=by
 cases ty with
 | non=>cases (show u=Value.none from rx); exact PySem.W.kia_one PySem.W.kitx_none I.kIn True.intro e (λz=>nomatch z) h
 | bl y=>cases (show u=Value.bool y from rx); exact PySem.W.kia_one PySem.W.kitx_bool I.kIn True.intro e (λz=>nomatch z) h
 | int i=>obtain ⟨t,q⟩:=(show ∃ t,u=Value.int i t from rx); cases q; exact PySem.W.kia_one PySem.W.kitx_int I.kIn True.intro e (λz=>nomatch z) h
 | str y=>obtain ⟨t,q⟩:=(show ∃ t,u=Value.str y t from rx); cases q; exact PySem.W.kia_one PySem.W.kitx_str I.kIn True.intro e (λz=>nomatch z) h
 | flt y=>obtain ⟨t,q⟩:=(show ∃ t,u=Value.float y t from rx); cases q; exact PySem.W.kia_one PySem.W.kitx_float I.kIn True.intro e (λz=>nomatch z) h
 | @lst a xs ea =>
  cases (show u=Value.ref a from rx)
  obtain ⟨_,_,n,_,h1⟩:=(show bn X.prog X.w H s.heap a (.lst xs) from I.hok a _ ea)
  exact PySem.W.kia_one PySem.W.kitx_list I.kIn ⟨_,h1,rfl⟩ e (λz=>nomatch z) h
 | @frz a ob xs ea =>
  cases (show u=Value.ref a from rx)
  obtain ⟨_,_,_,n,_,h1⟩:=(show bn X.prog X.w H s.heap a (.frz ob (.lst xs)) from I.hok a _ ea)
  exact PySem.W.kia_one PySem.W.kitx_list I.kIn ⟨_,h1,rfl⟩ e (λz=>nomatch z) h
 | @tup a xs ea =>
  cases (show u=Value.ref a from rx)
  obtain ⟨_,_,_,p⟩:=(show bn X.prog X.w H s.heap a (.tup xs) from I.hok a _ ea)
  obtain ⟨o,h1,h2,_⟩:=p
  exact PySem.W.kia_one PySem.W.kitx_tuple I.kIn ⟨o,h1,h2⟩ e (λz=>nomatch z) h
 | @dK a kvs ea =>
  cases (show u=Value.ref a from rx)
  obtain ⟨_,_,vs,_,p⟩:=(show bn X.prog X.w H s.heap a (.dK kvs) from I.hok a _ ea)
  obtain ⟨o,es,ep,h1,h2,_⟩:=p
  exact PySem.W.kia_one PySem.W.kitx_dict I.kIn ⟨o,h1,h2.1⟩ e (λz=>nomatch z) h
 | @dT a kvs ea =>
  cases (show u=Value.ref a from rx)
  obtain ⟨_,_,xs,_,o,es,ep,h1,h2,_⟩:=(show bn X.prog X.w H s.heap a (.dT kvs) from I.hok a _ ea)
  exact PySem.W.kia_one PySem.W.kitx_dict I.kIn ⟨o,h1,h2.1⟩ e (λz=>nomatch z) h
 | @ins a C dx fs ea cl ha hn htk hm =>
  cases (show u=Value.ref a from rx)
  obtain ⟨mA,O,_⟩:=p7 I.hok ea
  obtain ⟨od,J,_⟩:=O.look
  exact PySem.W.kia_one (PySem.W.kitx_own (cl.get _) cl.hd ha hn htk hm) I.kIn J e (λz=>nomatch z) h
end
structure Room (k:Nat) (A:Around):Prop where
 hd:A.handled=none
 dp:A.depth + 3 * k + 5<recursionLimit
 un:A.units + 16 * k + 200<cLine
 gd:A.guards=some []
theorem Room.mono {j k:Nat} {A:Around} (r:Room k A) (h:j<=k):Room j A:=⟨r.hd,by have:=r.dp; omega,by have:=r.un; omega,r.gd⟩
theorem Room.deeper {k:Nat} {A:Around} (r:Room (k + 1) A) (env:Env):Room k (A.deeper env) :=
 ⟨r.hd,by have:=r.dp; show A.depth + 1 + 3 * k + 5<_; omega,by have:=r.un; show A.units + 3 + 16 * k + 200<_; omega,r.gd⟩
theorem Room.in1 {k:Nat} {A:Around} (r:Room (k + 1) A):Room k A.in1 :=
 ⟨r.hd,by have:=r.dp; show A.depth + 3 * k + 5<_; omega,by have:=r.un; show A.units + 1 + 16 * k + 200<_; omega,r.gd⟩
theorem Room.depth {k:Nat} {A:Around} (r:Room k A):A.depth<recursionLimit:=by have:=r.dp; omega
theorem Room.units {k:Nat} {A:Around} (r:Room k A):A.units + 64<cLine:=by have:=r.un; omega
def tNil:TA:=λ_ H Q=>Q [] H
def tCons (ta:TE) (tr:TA):TA:=λσ H Q=>ta σ H λx H1=>tr σ H1 λxs H2=>Q (x :: xs) H2
section
variable {X:Cx} {e:Expr} {es:List Expr} {te:TE} {t:TA} {pos:Pos}
theorem dl:PA X [] tNil:=⟨λ_ _ _ _ H Q I h=>Calls.spliced_nil ⟨[],H,I,.nil,h⟩⟩
theorem bC (ha:PE X e te) (hr:PA X es t) (hs:starEach (e :: es) X.env=(false,eval e X.env) :: starEach es X.env:=by rfl):PA X (e :: es) (tCons te t):=by
 (try refine ⟨?_⟩); intro pos pins s σ H Q I h
 rw [hs]
 show wpAny _ _ (spliced ((false,eval e X.env) :: backTo pos (starEach es X.env))) _ _ s
 refine Calls.spliced_cons (thn (ha pins s σ H _ I h) λu s1 ⟨x,H1,I1,r1,q1⟩=>?_)
 exact thn (hr pos pins s1 σ H1 _ I1 q1) λus s2 ⟨xs,H2,I2,r2,q2⟩=>⟨x :: xs,H2,I2,.cons r1 r2,q2⟩
def tTup (t:TA):TE:=λσ H Q=>t σ H λxs H1=>xs.length<=sizeLine/\∀ p,H1 p=none->Q (.ref p) (upd H1 p (.tup xs))
def tLst (t:TA):TE:=λσ H Q=>t σ H λxs H1=>xs.length<=sizeLine/\∀ p,H1 p=none->Q (.ref p) (upd H1 p (.lst xs))
theorem nZ {x1} (h:PA X es t):PE X (.Tuple es x1 pos) (tTup t):=by
 (try refine ⟨?_⟩); intro pins s σ H Q I hq
 refine wpAny_Tuple_spliced (thn (h pos pins s σ H _ I hq) λus s1 ⟨xs,H1,I1,r,z,q⟩=>⟨by rw [<- r.length]; exact z,?_⟩)
 have hf:H1 s1.heap.objs.size=none:=I1.hok.fresh (Nat.le_refl _)
 refine ⟨.ref s1.heap.objs.size,upd H1 s1.heap.objs.size (.tup xs),I1.laid (t':=s1.toks) (λb u e=>Heap.get?_push_of_some _ e) (Nat.le_refl _) ?_,rfl,q _ hf⟩
 exact ⟨z,us,r,⟨_,Heap.get?_push_size _ rfl,rfl,_,rfl⟩⟩
theorem jL (h:PA X es t):PE X (.List es pos) (tLst t):=by
 (try refine ⟨?_⟩); intro pins s σ H Q I hq
 refine wpAny_List_spliced (thn (h pos pins s σ H _ I hq) λus s1 ⟨xs,H1,I1,r,z,q⟩=>⟨by rw [<- r.length]; exact z,?_⟩)
 have hf:H1 s1.heap.objs.size=none:=I1.hok.fresh (Nat.le_refl _)
 refine ⟨.ref s1.heap.objs.size,upd H1 s1.heap.objs.size (.lst xs),I1.laid (t':=s1.toks) (λb u e=>Heap.get?_push_of_some _ e) (Nat.le_refl _) ?_,rfl,q _ hf⟩
 exact ⟨z,us,0,r,Heap.get?_push_size _ rfl⟩
end
abbrev Sp:=List V->Hp->VK->XK->Prop
abbrev CXT:=List Env->Hp->Shared->XK->Value->Shared->Prop
structure Env0 (P:Program) (w:World) (K:PySem.W.Frag) (mg:Str->Option Value) (base:Heap) (A:Around) (outer:List Env) (s:Shared) (H:Hp):Prop where
 frames:A.frames=some outer
 mod:Mod K mg base
 bs:∀ b o,base.get? b=some o->s.heap.get? b=some o/\H b=none
 bsz:base.objs.size<=s.heap.objs.size
 funs:s.heap.FunFrames base outer
 frf:∀ b∈frs outer,H b=none
 hok:HOk P w H s.heap
 bare:AllBare s.gens
 tb:TbM base H
def CE (outer:List Env) (P:Program) (w:World) (H:Hp) (s:Shared) (Q:VK) (u:Value) (s':Shared):Prop :=
 ∃ v H',s'.os=s.os/\AllBare s'.gens/\Un (frs outer) [] H H' s.heap s'.heap/\HOk P w H' s'.heap/\aW v u/\Q v H'
def CR (CX:CXT) (outer:List Env) (P:Program) (w:World) (H:Hp) (s:Shared) (Q:VK) (E:XK) (r:Result) (s':Shared):Prop :=
 match r with
 | .ok (.ret u)=>CE outer P w H s Q u s'
 | .ok _=>False
 | .error e=>CX outer H s E e s'
structure FnOk (P:Program) (w:World) (K:PySem.W.Frag) (mg:Str->Option Value) (base:Heap) (CX:CXT) (k:Nat) (f:Addr) (fd:FuncData) (ps:List Str) (sp:Sp):Prop where
 len:∀ vs H Q E,sp vs H Q E->vs.length=ps.length
 run:∀ (A:Around) (outer:List Env) (s:Shared) (H:Hp) (args:Args) (us:List Value) (vs:List V) (Q:VK) (E:XK),Room k A->Env0 P w K mg base A outer s H->BindsTo s fd args (ps.zip us)->aH vs us->sp vs H Q E ->
  codeAny (model P w) A (.call (.ref f) args) (CR CX outer P w H s Q E) s
theorem FnOk.imp {P:Program} {w:World} {K:PySem.W.Frag} {mg:Str->Option Value} {base:Heap} {CX:CXT} {k:Nat} {f:Addr} {fd:FuncData} {ps:List Str} {sp sp':Sp} (F:FnOk P w K mg base CX k f fd ps sp)
 (h:∀ vs H Q E,sp' vs H Q E->sp vs H Q E):FnOk P w K mg base CX k f fd ps sp' :=
 ⟨λvs H Q E q=>F.len vs H Q E (h _ _ _ _ q),λA outer s H args us vs Q E hr he hb hv hs=>F.run A outer s H args us vs Q E hr he hb hv (h _ _ _ _ hs)⟩
section
variable {X:Cx} {pins:List (Addr×Obj)} {σ:St} {H:Hp} {s s':Shared}
theorem Inv.env0 (I:Inv X pins σ H s):Env0 X.prog X.w X.K X.mg X.base X.A X.stack s H :=
 ⟨I.ok.frames,I.ok.mod,I.bs,Nat.le_trans I.ok.bsz I.sz,I.stack,I.stkFree,I.hok,I.bare,I.ok.tb.un I.base⟩
theorem Inv.after {Q:VK} {u:Value} (I:Inv X pins σ H s) (h:CE X.stack X.prog X.w H s Q u s'):EP X pins σ Q u s':=by
 obtain ⟨v,H',os,bare,un,hok,r,q⟩:=h
 obtain ⟨hh,g,d,t,os'⟩:=s'
 obtain rfl:os'=s.os:=os
 exact ⟨v,H',I.call (h':=hh) (g':=g) (d':=d) (t':=t) (ch:=[]) un hok bare (λb z=>absurd z (by simp)),r,q⟩
end
def tCall (sp:Sp) (dvs:List V) (E:XK) (t:TA):TE:=λσ H Q=>t σ H λvs H1=>sp (vs++dvs) H1 Q E
def fX (K:PySem.W.Frag) (fd:FuncData) (ps:List Str) (ds:List Value):Prop :=
 ∀ (s:Shared) (us:List Value),K.In s.heap->(us++ds).length=ps.length->BindsTo s fd ⟨us,[]⟩ (ps.zip (us++ds))
theorem fX.all {K:PySem.W.Frag} {fd:FuncData} {ps:List Str} (h:∀ us:List Value,us.length=ps.length->bindArgs fd ⟨us,[]⟩=pure (ps.zip us)):fX K fd ps []:=λs us _ hl=>by
 rw [List.append_nil] at hl ⊢
 exact .of_eq (h us hl)
def ku (CX:CXT) (X:Cx) (E:XK):Prop:=∀ (pins:List (Addr×Obj)) (σ:St) (H:Hp) (s:Shared) (e:Value) (s':Shared),Inv X pins σ H s->CX X.stack H s E e s'->X.xe e s'
section
variable {X:Cx} {CX:CXT} {k:Nat} {f C:Addr} {fd:FuncData} {ps:List Str} {sp:Sp} {dvs:List V} {ds:List Value} {E:XK} {x m:Str} {p pos apos:Pos} {e o:Expr} {es:List Expr} {ta:TE} {t:TA}
theorem rO {pins:List (Addr×Obj)} {σ:St} {H:Hp} {s:Shared} {Q:VK} {us:List Value} {vs:List V} (F:FnOk X.prog X.w X.K X.mg X.base CX k f fd ps sp) (hr:Room k X.A) (hb:fX X.K fd ps ds) (hd:aH dvs ds) (hx:ku CX X E)
 (I:Inv X pins σ H s) (r:aH vs us) (h:sp (vs++dvs) H Q E):wpAny (model X.prog X.w) X.A (call (.ref f) us) (EP X pins σ Q) X.xe s:=by
 have r2:aH (vs++dvs) (us++ds):=r.append hd
 have hl:(us++ds).length=ps.length:=by rw [<- r2.length]; exact F.len _ _ _ _ h
 refine wpAny_call (codeAny_mono (F.run X.A X.stack s H ⟨us,[]⟩ (us++ds) (vs++dvs) Q E hr I.env0 (hb s us I.kIn hl) r2 h) λr s' hq=>?_)
 cases r with
 | error e=>exact hx pins σ H s e s' I hq
 | ok fl =>
  cases fl with
  | ret u=>exact I.after hq
  | next=>exact False.elim hq
  | brk=>exact False.elim hq
  | cont=>exact False.elim hq
theorem lg (F:FnOk X.prog X.w X.K X.mg X.base CX k f fd ps sp) (hr:Room k X.A) (hg:Gl X x) (hm:X.mg x=some (.ref f)) (hk:PySem.W.keepIn X.K (.ref f)=true) (hb:fX X.K fd ps ds) (hd:aH dvs ds) (hx:ku CX X E)
 (ha:PA X (e :: es) t) (hdb:(x == ("__debug__":Str))=false:=by decide) (he:starEach (e :: es) X.env=(false,eval e X.env) :: starEach es X.env:=by rfl) (hpl:(backTo pos (starEach es X.env)).any (·.1)=false:=by rfl) :
 PE X (.Call (.Name x p) (e :: es) [] pos) (tCall sp dvs E t):=by
 (try refine ⟨?_⟩); intro pins s σ H Q I h
 refine wpAny_Call_Name_kw (kU I hg hm ?_ hdb)
 refine PySem.W.callWith_K (h₀:=X.base) I.ok.mod.kin hk (thn (ha pos pins s σ H _ I h) λus s1 ⟨vs,H1,I1,r,q⟩=>⟨I1.kIn,?_⟩) he hpl
 exact rO F hr hb hd hx I1 r q
end
section
variable {X:Cx} {CX:CXT} {k:Nat} {f C:Addr} {fd:FuncData} {ps ks:List Str} {sp:Sp} {E:XK} {x m:Str} {p pos apos kpos:Pos} {e o:Expr} {es:List Expr} {kws:List Keyword} {te ta:TE} {t tk:TA} {nm:Option Str}
variable {g:List Value->List Value->List Value} {gV:List V->List V->List V}
end
structure FnScope (N P:List Str) (sc:Scope):Prop where
 kind:sc.kind = .function
 co:sc.isCoroutine=false
 gen:sc.isGenerator=false
 nd:N.Nodup
 pre:N.take P.length=P
 par:∀ x∈P,sc.names.lookup x=some .local\/sc.names.lookup x=some .cell
 nofree:∀ y∈sc.names,y.2≠.free
theorem h9 {kindOf:Str->Option NameKind} {x:Str}:∀ {binds:List (Str×Value)} {m:Str->Option Value},(∀ v,(x,v) ∉ binds)->bindL kindOf binds m x=m x
 | [],_,_=>rfl
 | (n,v) :: r,m,h=>by
  unfold bindL
  rw [h9 λw hw=>h w (List.mem_cons_of_mem _ hw)]
  split
  ·have:x≠n:=by rintro rfl; exact h v List.mem_cons_self
   simp [this]
  ·rfl
theorem hE {kindOf:Str->Option NameKind} {x:Str}:∀ {binds:List (Str×Value)} {m:Str->Option Value},(∀ v,(x,v) ∉ binds)->bindC kindOf binds m x=m x
 | [],_,_=>rfl
 | (n,v) :: r,m,h=>by
  unfold bindC
  rw [hE λw hw=>h w (List.mem_cons_of_mem _ hw)]
  split
  ·rfl
  ·have:x≠n:=by rintro rfl; exact h v List.mem_cons_self
   simp [this]
theorem ii {kindOf:Str->Option NameKind} {x:Str} {v:Value}:∀ {P:List Str} {vs:List Value} {i:Nat} {m:Str->Option Value},P.Nodup->P[i]? = some x->vs[i]? = some v->kindOf x=some .local ->
 bindL kindOf (P.zip vs) m x=some v
 | [],_,_,_,_,h,_,_=>by simp at h
 | _ :: _,[],_,_,_,_,h,_=>by simp at h
 | p :: P,w :: vs,0,m,nd,h1,h2,hk=>by
  simp at h1 h2; subst h1; subst h2
  show bindL kindOf ((p,w) :: P.zip vs) m p=_
  unfold bindL
  rw [h9 λv hv=>(List.nodup_cons.mp nd).1 (List.of_mem_zip hv).1,if_pos hk]
  simp
 | p :: P,w :: vs,i + 1,m,nd,h1,h2,hk=>by
  show bindL kindOf ((p,w) :: P.zip vs) m x=_
  unfold bindL
  exact ii (i:=i) (List.nodup_cons.mp nd).2 (by simpa using h1) (by simpa using h2) hk
theorem iq {kindOf:Str->Option NameKind} {x:Str} {v:Value}:∀ {P:List Str} {vs:List Value} {i:Nat} {m:Str->Option Value},P.Nodup->P[i]? = some x->vs[i]? = some v->kindOf x≠some .local ->
 bindC kindOf (P.zip vs) m x=some v
 | [],_,_,_,_,h,_,_=>by simp at h
 | _ :: _,[],_,_,_,_,h,_=>by simp at h
 | p :: P,w :: vs,0,m,nd,h1,h2,hk=>by
  simp at h1 h2; subst h1; subst h2
  show bindC kindOf ((p,w) :: P.zip vs) m p=_
  unfold bindC
  rw [hE λv hv=>(List.nodup_cons.mp nd).1 (List.of_mem_zip hv).1,if_neg hk]
  simp
 | p :: P,w :: vs,i + 1,m,nd,h1,h2,hk=>by
  show bindC kindOf ((p,w) :: P.zip vs) m x=_
  unfold bindC
  exact iq (i:=i) (List.nodup_cons.mp nd).2 (by simpa using h1) (by simpa using h2) hk
def start (N:List Str) (vs:List V):St:=vs.map some++List.replicate (N.length - vs.length) none
def iF (CX:CXT) (P:Program) (w:World) (K:PySem.W.Frag) (mg:Str->Option Value) (base:Heap) (N:List Str) (qual:Str) (scope:Scope) (f:Addr) (cd:Value) (A:Around) (outer:List Env) (s:Shared) (H:Hp) (E:XK):Cx where
 prog:=P
 w:=w
 K:=K
 mg:=mg
 base:=base
 A:=A.deeper (envOfC qual scope s.heap.objs.size f cd)
 N:=N
 s₀:=s
 H₀:=H
 env:=envOfC qual scope s.heap.objs.size f cd
 outer:=outer
 stack:=envOfC qual scope s.heap.objs.size f cd :: outer
 ex:=[]
 calm:=true
 fn:=λ_=>true
 pn:=[]
 xe:=λe s'=>wpAny (model P w) (A.deeper (envOfC qual scope s.heap.objs.size f cd)) (leaving (envOfC qual scope s.heap.objs.size f cd) e) (λ_ s''=>CX outer H s E e s'') (λe' s''=>CX outer H s E e' s'') s'
theorem jf {sc:Scope} {n:Nat} {x:Str} (h:sc.names.lookup x=some .cell):∃ c,(cellsFrom n sc.names []).lookup x=some c:=by
 have q:=PySem.W.cellsFrom_some sc.names n [] (.inl h)
 exact Option.isSome_iff_exists.mp q
theorem lE {CX:CXT} {P:Program} {w:World} {K:PySem.W.Frag} {mg:Str->Option Value} {base:Heap} {N ps:List Str} {qual:Str} {scope:Scope} {f:Addr} {cd:Value} {A:Around} {outer:List Env} {s s1:Shared} {H:Hp} {E:XK} {us:List Value} {vs:List V}
 (S:FnScope N ps scope) (hd:A.handled=none) (e0:Env0 P w K mg base A outer s H) (hl:vs.length=ps.length) (r:aH vs us)
 (x:InCallC s s.heap.objs.size (bindL (envOfC qual scope s.heap.objs.size f cd).kindOf (ps.zip us) λ_=>none) (cellsFrom (s.heap.objs.size + 1) scope.names []) (bindC (envOfC qual scope s.heap.objs.size f cd).kindOf (ps.zip us) λ_=>none) s1) :
 Inv (iF CX P w K mg base N qual scope f cd A outer s H E) [] (start N vs) H s1:=by
 have hpl:ps.length<=N.length:=by have:=congrArg List.length S.pre; rw [List.length_take] at this; omega
 obtain ⟨h1,tk,rfl,hk⟩:=x.done
 have noA:∀ b:Addr,b ∉ (iF CX P w K mg base N qual scope f cd A outer s H E).ex:=λb z=>absurd (show b∈([]:List Addr) from z) (by simp)
 refine ⟨⟨e0.mod,S.kind,rfl,rfl,Nat.le_refl _,λy z c h1 h2=>?_,λy hy=>?_,λy c _ h=>?_,λ_=>hd,Around.frames_deeper e0.frames,.inr ⟨rfl,rfl⟩,λb z=>absurd z (noA b),e0.bs,e0.bsz,λb _ _=>noA b,λb z=>absurd z (noA b),e0.funs,e0.frf,e0.tb⟩,
  rfl,e0.bare,Un.kept hk,⟨_,x.toInCall.ns,λi y v h1 h2 h3=>?_⟩,λy c h=>⟨_,x.cell y c h⟩,e0.hok.fresh (Nat.le_refl _),λy c h=>?_,λp hp=>absurd (show p∈([]:List (Addr×Obj)) from hp) (by simp),e0.hok.kept hk,?_⟩
 ·exact name_of_addr x.apart (PySem.mem_of_lookup h1) (PySem.mem_of_lookup h2)
 ·have hy:scope.names.lookup y=some .cell\/scope.names.lookup y=some .free:=hy
  rcases hy with hy | hy
  ·exact jf hy
  ·exact absurd rfl (S.nofree _ (PySem.mem_of_lookup hy))
 ·exact Nat.le_of_lt (x.above y c (PySem.mem_of_lookup h))
 ·have hi:i<vs.length:=by
   unfold start at h2
   by_cases hi:i<vs.length
   ·exact hi
   ·rw [List.getElem?_append_right (by simpa using hi)] at h2
    rw [List.getElem?_replicate] at h2
    split at h2 <;> cases h2
  have ha:vs[i]? = some v:=by
   unfold start at h2
   rw [List.getElem?_append_left (by simpa using hi),List.getElem?_map] at h2
   cases e:vs[i]? with
   | none=>rw [e] at h2; cases h2
   | some a=>rw [e] at h2; cases h2; rfl
  obtain ⟨u,hu,rv⟩:=r.get ha
  have hp:ps[i]? = some y:=by
   rw [<- S.pre,List.getElem?_take_of_lt (by omega)]; exact h1
  have ndP:ps.Nodup:=by rw [<- S.pre]; exact S.nd.sublist (List.take_sublist _ _)
  refine ⟨u,rv,?_⟩
  rcases S.par y (List.mem_of_getElem? hp) with k | k
  ·exact .inl ⟨k,ii ndP hp hu k⟩
  ·obtain ⟨c,e⟩:=jf (n:=s.heap.objs.size + 1) k
   refine .inr ⟨.inl k,c,e,?_⟩
   have q:=x.cell y c e
   rw [iq ndP hp hu (by show scope.names.lookup y≠_; rw [k]; decide)] at q
   exact q
 ·exact e0.hok.fresh (Nat.le_of_lt (x.above y c (PySem.mem_of_lookup h)))
 ·unfold start
  show _=N.length
  rw [List.length_append,List.length_map,List.length_replicate]
  omega
theorem qN {CX:CXT} {P:Program} {w:World} {K:PySem.W.Frag} {mg:Str->Option Value} {base:Heap} {k:Nat} {f:Addr} {name qual:Str} {params:Arguments} {body:List Stmt} {scope:Scope} {dV kV doc pm cdv ct oc:Value} {an od:Option Addr}
 {osl:Array (Option Value)} {N ps:List Str} {sp:Sp} (lk:K.lookup f=some ⟨oc,od,.func (PySem.W.fnOf name qual params body scope dV kV doc pm an cdv ct),osl⟩) (hcd:PySem.W.codeIn K cdv qual=true) (S:FnScope N ps scope)
 (len:∀ vs H Q E,sp vs H Q E->vs.length=ps.length)
 (hbody:∀ (A:Around) (outer:List Env) (s:Shared) (H:Hp) (vs:List V) (Q:VK) (E:XK),Room k (A.deeper (envOfC qual scope s.heap.objs.size f cdv))->sp vs H Q E ->
  ∃ t,PSs (iF CX P w K mg base N qual scope f cdv A outer s H E) body t/\t { nx:=λ_ H'=>Q .non H',rt:=Q } (start N vs) H) :
 FnOk P w K mg base CX (k + 1) f (PySem.W.fnOf name qual params body scope dV kV doc pm an cdv ct) ps sp:=by
 refine ⟨len,λA outer s H args us vs Q E hr e0 hb r hsp=>?_⟩
 have hl:=len _ _ _ _ hsp
 have KX:K.In s.heap:=e0.mod.kin.keeps λb o e=>(e0.bs b o e).1
 have lim:s.heap.NoLimit:=e0.mod.nolimit.keeps λb o e=>(e0.bs b o e).1
 have hkind:∀ y∈ps.zip us,scope.names.lookup y.1=some .local\/(scope.names.lookup y.1=some .cell/\((cellsFrom (s.heap.objs.size + 1) scope.names []).lookup y.1).isSome=true):=λ⟨n,v⟩ hy=>by
  rcases S.par n (List.of_mem_zip hy).1 with q | q
  ·exact .inl q
  ·exact .inr ⟨q,PySem.W.cellsFrom_some _ _ _ (.inl q)⟩
 refine codeAny_call_function hr.depth (KX _ _ lk) rfl S.co S.gen rfl (PySem.W.codeRec_of KX hcd) (hb _ _ _ _ ?_)
 refine wpAny_newFunctionEnv_cells S.kind hkind λenv he s1 x=>?_
 subst he
 refine ⟨lim.keeps x.toInCall.keep,codeAny_func ?_⟩
 obtain ⟨t,ht,hq⟩:=hbody A outer s H vs Q E (hr.deeper _) hsp
 have I:Inv (iF CX P w K mg base N qual scope f cdv A outer s H E) [] (start N vs) H s1:=lE S hr.hd e0 hl r x
 refine wpAny_mono (ht [] s1 (start N vs) H _ I hq) (λfl s' hs=>?_) λe s' hs=>hs
 have fin:∀ {σ':St} {H':Hp} {v:V} {u:Value},Inv (iF CX P w K mg base N qual scope f cdv A outer s H E) [] σ' H' s'->aW v u->Q v H'->CE outer P w H s Q u s' :=
  λ{σ' H' v u} J rv q=>⟨v,H',J.os,J.bare,J.base,J.hok,rv,q⟩
 cases fl with
 | ret u =>
  obtain ⟨v,σ',H',J,rv,q⟩:=hs
  exact fin J rv q
 | next =>
  obtain ⟨σ',H',J,q⟩:=hs
  exact fin (v:=V.non) (u:=Value.none) J rfl q
 | brk =>
  obtain ⟨_,_,_,q⟩:=hs
  exact False.elim q
 | cont =>
  obtain ⟨_,_,_,q⟩:=hs
  exact False.elim q
section
variable {X:Cx} {x:Str} {p pos:Pos} {e:Expr} {es:List Expr} {t:TA} {id T:String} {r:List V->Hp->VK->Prop}
def tCB (r:List V->Hp->VK->Prop) (t:TA):TE:=λσ H Q=>t σ H λvs H1=>r vs H1 Q
theorem gr (hc:cL X (.builtin id) r) (hg:Gl X x) (hm:X.mg x=none) (hv:bootBuiltins x=some (.builtin id)) (ha:PA X (e :: es) t) (hn:x ≠ "__name__":=by decide) (hdb:(x == ("__debug__":Str))=false:=by decide)
 (he:starEach (e :: es) X.env=(false,eval e X.env) :: starEach es X.env:=by rfl) (hpl:(backTo pos (starEach es X.env)).any (·.1)=false:=by rfl):PE X (.Call (.Name x p) (e :: es) [] pos) (tCB r t):=by
 (try refine ⟨?_⟩); intro pins s σ H Q I h
 refine wpAny_Call_Name_kw (cG I hg hm hv ?_ hn hdb)
 exact PyProof.Rows.callWith_builtin1 (thn (ha pos pins s σ H _ I h) λus s1 ⟨vs,H1,I1,r1,q1⟩=>hc pins s1 σ H1 vs us Q I1 r1 q1) he hpl
theorem ir (hc:cL X (.type T) r) (hg:Gl X x) (hm:X.mg x=none) (hv:bootBuiltins x=some (.type T)) (ha:PA X (e :: es) t) (hn:x ≠ "__name__":=by decide) (hdb:(x == ("__debug__":Str))=false:=by decide)
 (he:starEach (e :: es) X.env=(false,eval e X.env) :: starEach es X.env:=by rfl) (hpl:(backTo pos (starEach es X.env)).any (·.1)=false:=by rfl):PE X (.Call (.Name x p) (e :: es) [] pos) (tCB r t):=by
 (try refine ⟨?_⟩); intro pins s σ H Q I h
 refine wpAny_Call_Name_kw (cG I hg hm hv ?_ hn hdb)
 exact PyProof.Rows.callWith_type1 (thn (ha pos pins s σ H _ I h) λus s1 ⟨vs,H1,I1,r1,q1⟩=>hc pins s1 σ H1 vs us Q I1 r1 q1) he hpl
end
end L2
namespace HT
open PySem PyProof.Rows
section
open PySem.SeqAt
open PySem.AutoSeq1 (wpAny_loadPart')
open PySem.MeetsSeq PySem.MeetsSeq2 PySem.MeetsSeq3
end
section
variable {prog:Program} {w:World} {A:Around} {E:Value->Shared->Prop} {s:Shared}
def sIx (n d:Nat):Option Int->Nat
 | none=>d
 | some v=>if v<0 then (v + (n:Int)).toNat else min v.toNat n
end
end HT
namespace L2
open PySem PySem.Spec PyProof.Rows
theorem gq {ns:List Int}:∀ {us:List Value},aH (ns.map V.int) us->IntsAre us ns:=by
 induction ns with
 | nil=>intro us r; rw [List.map_nil] at r; cases r; exact .nil
 | cons n ns ih =>
  intro us r
  rw [List.map_cons] at r
  cases r with
  | cons r1 r2 =>
   obtain ⟨t,e⟩:=r1
   subst e
   exact .cons n t (ih r2)
section
variable {X:Cx} {e:Expr} {te:TE} {lo hi:Option Expr} {tl th:TO} {pos p2:Pos}
def SlR (X:Cx) (r:V->Option Int->Option Int->Hp->VK->Prop):Prop :=
 ∀ (pins:List (Addr×Obj)) (s:Shared) (σ:St) (H:Hp) (x:V) (v vl vu:Value) (lo hi:Option Int) (sl:Addr) (Q:VK),Inv X pins σ H s->aW x v->s.heap.IsSliceOf sl vl vu .none->IsPart vl lo->IsPart vu hi->r x lo hi H Q ->
  ∃ T id,typeLookup (.type T) "__getitem__" = pure (some (.builtin id))/\s.TypeIs v T/\wpAny (model X.prog X.w) X.A (getItem v (.ref sl)) (EP X pins σ Q) X.xe s
def cutV (xs:List V) (lo hi:Option Int):List V:=(xs.drop (HT.sIx xs.length 0 lo)).take (HT.sIx xs.length xs.length hi - HT.sIx xs.length 0 lo)
theorem ji (xs:List V) (lo hi:Option Int):(cutV xs lo hi).length<=xs.length:=by
 unfold cutV
 rw [List.length_take,List.length_drop]
 omega
end
def ixN (n:Nat) (i:Int):Option Nat:=if 0<=i then (if i<n then some i.toNat else none) else if -(n:Int)<=i then some (i + n).toNat else none
def atI {α:Type} (xs:List α) (i:Int):Option α:=(ixN xs.length i).bind λj=>xs[j]?
theorem iY {n:Nat} {i:Int} {j:Nat} (h:ixN n i=some j):seqIndex? i n=some j/\j<n/\-(n:Int)<=i/\i<n:=by
 unfold ixN at h
 by_cases h0 : 0<=i
 ·rw [if_pos h0] at h
  by_cases h1:i<n
  ·rw [if_pos h1] at h
   have e:i.toNat=j:=Option.some.inj h
   exact ⟨by rw [seqIndex_of h0 h1,e],by omega,by omega,h1⟩
  ·rw [if_neg h1] at h; cases h
 ·rw [if_neg h0] at h
  by_cases h1 : -(n:Int)<=i
  ·rw [if_pos h1] at h
   have e:(i + n).toNat=j:=Option.some.inj h
   exact ⟨by rw [seqIndex_neg (by omega) h1,e],by omega,h1,by omega⟩
  ·rw [if_neg h1] at h; cases h
theorem fc {α:Type} {xs:List α} {i:Int} {v : α} (h:atI xs i=some v):∃ j,seqIndex? i xs.length=some j/\xs[j]? = some v/\j<xs.length/\-(xs.length:Int)<=i/\i<xs.length:=by
 unfold atI at h
 cases e:ixN xs.length i with
 | none=>rw [e] at h; cases h
 | some j =>
  rw [e] at h
  obtain ⟨h1,h2,h3,h4⟩:=iY e
  exact ⟨j,h1,h,h2,h3,h4⟩
theorem cP {α:Type} {xs:List α} {j:Nat} {v : α} (h:xs[j]? = some v):atI xs (j:Int)=some v:=by
 have hj:j<xs.length:=(List.getElem?_eq_some_iff.mp h).1
 have e:ixN xs.length (j:Int)=some j:=by
  unfold ixN
  rw [if_pos (by omega),if_pos (by omega)]; simp
 unfold atI; rw [e]; exact h
def iB (b:Expr):Prop:=∀ o i,subscripted b false o i=operate [o,i] (getItem o i)
def IxR (X:Cx) (r:R2):Prop :=
 ∀ (value slice:Expr) (pins:List (Addr×Obj)) (s:Shared) (σ:St) (H:Hp) (x y:V) (v u:Value) (Q:VK),Inv X pins σ H s->aW x v->aW y u->r x y H Q ->
  subscripted slice false v u=operate [v,u] (getItem v u)->wpAny (model X.prog X.w) X.A (subscriptTail value slice v u) (EP X pins σ Q) X.xe s
def MtR (X:Cx) (id:String) (r:V->List V->Hp->VK->Prop):Prop :=
 ∀ (pins:List (Addr×Obj)) (s:Shared) (σ:St) (H:Hp) (x:V) (xs:List V) (v:Value) (us:List Value) (Q:VK),Inv X pins σ H s->aW x v->aH xs us->r x xs H Q ->
  wpAny (model X.prog X.w) X.A (call (.builtin id) (v :: us)) (EP X pins σ Q) X.xe s
section
variable {X:Cx} {a b:Expr} {ta tb:TE} {pos:Pos}
theorem IxR.or {r r':R2} (h:IxR X r) (h':IxR X r'):IxR X (λx y H Q=>r x y H Q\/r' x y H Q):=by
 intro value slice pins s σ H x y v u Q I rx ry q hs
 rcases q with q | q
 ·exact h value slice pins s σ H x y v u Q I rx ry q hs
 ·exact h' value slice pins s σ H x y v u Q I rx ry q hs
theorem qH {r:R2} (hr:IxR X r) (ha:PE X a ta) (hb:PE X b tb) (hs:iB b):PE X (.Subscript a b pos) (tOp r ta tb):=by
 (try refine ⟨?_⟩); intro pins s σ H Q I h
 exact Subscript_ (binT ha hb I h λv u s2 x y H2 I2 rx ry q=>hr a b pins s2 σ H2 x y v u Q I2 rx ry q (hs _ _))
def rIxL (K:PySem.W.Frag):R2:=λx y H Q=>∃ p xs i v,x = .ref p/\y = .int i/\SqL K H p xs/\atI xs i=some v/\Q v H
def rIxT (K:PySem.W.Frag):R2:=λx y H Q=>∃ p xs i v,x = .ref p/\y = .int i/\SqT K H p xs/\atI xs i=some v/\Q v H
def rIxS:R2:=λx y H Q=>∃ z i c,x = .str z/\y = .int i/\z.length<=sizeLine/\atI z.cps.toList i=some c/\Q (.str ⟨#[c]⟩) H
theorem qj:IxR X (rIxL X.K):=by
 intro value slice pins s σ H x y v u Q I rx ry h hs
 obtain ⟨p,xs,i,z,rfl,rfl,hq,he,q⟩:=h
 cases rx
 obtain ⟨t,rfl⟩:=ry
 obtain ⟨its,r,pl,hz⟩:=I.list hq
 obtain ⟨j,h1,h2,h3,h4,h5⟩:=fc he
 obtain ⟨w,ew,rw'⟩:=r.get h2
 have hl:=r.length
 have hn:=fT
 have fin:EP X pins σ Q w s:=⟨z,H,I,rw',q⟩
 by_cases h0 : 0<=i
 ·have hj:i.toNat=j:=by
   rw [seqIndex_of h0 h5] at h1
   exact Option.some.inj h1
  exact item_listR pl.isList h0 (by omega) (by rw [hj]; simpa using ew) fin hs
 ·have hj:(i + (its.toArray.size:Int)).toNat=j:=by
   rw [seqIndex_neg (by omega) h4] at h1
   rw [List.size_toArray,<- hl]
   exact Option.some.inj h1
  exact subscriptTail_builtinR (x:=w) pl.isList.typeIs slot_list_getitem.lookup
   (wpAny_getItem_list_neg (Q:=λr s'=>r=w/\EP X pins σ Q r s') pl.isList (by omega) (by rw [List.size_toArray] <;> omega) (by omega) (by rw [hj]; simpa using ew) ⟨rfl,fin⟩) hs
theorem sE:IxR X (rIxT X.K):=by
 intro value slice pins s σ H x y v u Q I rx ry h hs
 obtain ⟨p,xs,i,z,rfl,rfl,hq,he,q⟩:=h
 cases rx
 obtain ⟨t,rfl⟩:=ry
 obtain ⟨its,r,pl,hz⟩:=I.tuple hq
 obtain ⟨j,h1,h2,h3,h4,h5⟩:=fc he
 obtain ⟨w,ew,rw'⟩:=r.get h2
 have hl:=r.length
 have hn:=fT
 have fin:EP X pins σ Q w s:=⟨z,H,I,rw',q⟩
 exact subscriptTail_builtinR (x:=w) pl.typeIs slot_tuple_getitem.lookup
  (getItem_tuple (j:=j) (Q:=λr s'=>r=w/\EP X pins σ Q r s') pl (by omega) (by omega) (by rw [List.size_toArray,<- hl]; exact h1) (by simpa using ew) ⟨rfl,fin⟩) hs
theorem sF:IxR X rIxS:=by
 intro value slice pins s σ H x y v u Q I rx ry h hs
 obtain ⟨z,i,c,rfl,rfl,hz,he,q⟩:=h
 obtain ⟨t,rfl⟩:=rx
 obtain ⟨t',rfl⟩:=ry
 obtain ⟨j,h1,h2,h3,h4,h5⟩:=fc he
 have hl:z.cps.toList.length=z.length:=by simp [Str.length]
 rw [hl] at h1 h4 h5
 have hn:=fT
 exact tail_any (typeIs_str s z t) slot_str_getitem.lookup (getItem_str (c:=c) (by
  have e1:decide (i < -(2 ^ 63:Int))=false:=decide_eq_false (by omega)
  have e2:decide (i ≥ 2 ^ 63)=false:=decide_eq_false (by omega)
  rw [e1,e2,Bool.or_false]) (by rw [h1]; simpa using h2) ⟨.str ⟨#[c]⟩,H,I.tok _,⟨_,rfl⟩,q⟩) hs
def rIx (K:PySem.W.Frag):R2:=λx y H Q=>rIxL K x y H Q\/rIxT K x y H Q\/rIxS x y H Q
theorem aw:IxR X (rIx X.K):=qj.or (sE.or sF)
theorem kq (its:List Value) (n j:Nat) (u:Value):Obj.mapSeq (·.setIfInBounds j u) { cls:=.type "list",data:=.seq its.toArray n } = { cls:=.type "list",data:=.seq (its.set j u).toArray n }:=by
 simp [Obj.mapSeq]
theorem Inv.lst {pins:List (Addr×Obj)} {σ:St} {H:Hp} {s:Shared} {p:Addr} {xs:List V} (I:Inv X pins σ H s) (h:H p=some (.lst xs)) :
 ∃ (its:List Value) (n:Nat),aH xs its/\s.heap.get? p=some { cls:=.type "list",data:=.seq its.toArray n }/\xs.length<=sizeLine:=by
 obtain ⟨z,its,n,r,e⟩:=I.hok p _ h
 exact ⟨its,n,r,e,z⟩
theorem Inv.lstUpd {pins:List (Addr×Obj)} {σ:St} {H:Hp} {s:Shared} {p:Addr} {xs ys:List V} {its its':List Value} {n n':Nat} {f:Obj->Obj} (I:Inv X pins σ H s) (h:H p=some (.lst xs))
 (ho:s.heap.get? p=some { cls:=.type "list",data:=.seq its.toArray n }) (hf:f { cls:=.type "list",data:=.seq its.toArray n } = { cls:=.type "list",data:=.seq its'.toArray n' }) (r:aH ys its') (hz:ys.length<=sizeLine) (t:Nat) :
 Inv X pins σ (upd H p (.lst ys)) { s with heap:=s.heap.update p f,toks:=t }:=by
 have e:(s.heap.update p f).get? p=some { cls:=.type "list",data:=.seq its'.toArray n' }:=by
  rw [Heap.get?_update_self f ho (by rw [hf] <;> rfl),hf]
 refine I.write (x:=p) (e:=p) (by rw [h]; trivial) (.inl rfl) (λb u hb q=>(Heap.get?_update_other _ _ (Ne.symm hb)).trans q) ⟨_,e⟩ ?_
 exact ⟨hz,its',n',r,e⟩
def rSetL:V->V->V->Hp->(Hp->Prop)->Prop:=λo i v H Q=>∃ p xs k j,o = .ref p/\i = .int k/\H p=some (.lst xs)/\ixN xs.length k=some j/\Q (upd H p (.lst (xs.set j v)))
theorem gt:PSet X rSetL:=by
 (try refine ⟨?_⟩); intro pins s σ H o i v ov iv u Q I ro ri rv h
 obtain ⟨p,xs,k,j,rfl,rfl,hp,hj,q⟩:=h
 cases ro
 obtain ⟨t,rfl⟩:=ri
 obtain ⟨its,n,r,ho,hz⟩:=I.lst hp
 obtain ⟨h1,h2,h3,h4⟩:=iY hj
 have hl:=r.length
 have hn:=fT
 have I':Inv X pins σ (upd H p (.lst (xs.set j v))) { s with heap:=s.heap.update p (Obj.mapSeq (·.setIfInBounds j u)) } :=
  I.lstUpd hp ho (kq its n j u) (r.set rv j) (by rw [List.length_set]; exact hz) s.toks
 by_cases h0 : 0<=k
 ·have hk:k.toNat=j:=by
   rw [seqIndex_of h0 h4] at h1
   exact Option.some.inj h1
  exact PySem.W.ki_setAt ho h0 (by omega) (by rw [List.size_toArray,<- hl]; exact h4) (by rw [hk]; exact ⟨_,I',q⟩)
 ·have hk:(k + (its.toArray.size:Int)).toNat=j:=by
   rw [seqIndex_neg (by omega) h3] at h1
   rw [List.size_toArray,<- hl]
   exact Option.some.inj h1
  exact PySem.W.ki_setBack ho (by omega) (by rw [List.size_toArray,<- hl]; exact h3) (by omega) (by rw [hk]; exact ⟨_,I',q⟩)
theorem i3 (lo hi:Option Int) (n:Nat):(sliceBounds lo hi none n).1=((HT.sIx n 0 lo:Nat):Int)/\(sliceBounds lo hi none n).2.1=((HT.sIx n n hi:Nat):Int)/\(sliceBounds lo hi none n).2.2=1:=by
 refine ⟨?_,?_,rfl⟩
 ·cases lo with
  | none=>simp [sliceBounds,HT.sIx]
  | some i =>
   simp only [sliceBounds,HT.sIx,Option.getD_none,show (1:Int) > 0 by decide,if_true]
   by_cases h:i<0
   ·simp only [h,if_true] <;> omega
   ·simp only [h,if_false] <;> omega
 ·cases hi with
  | none=>simp [sliceBounds,HT.sIx]
  | some i =>
   simp only [sliceBounds,HT.sIx,Option.getD_none,show (1:Int) > 0 by decide,if_true]
   by_cases h:i<0
   ·simp only [h,if_true] <;> omega
   ·simp only [h,if_false] <;> omega
theorem g7 (its:List Value) (lo hi:Option Int):slicePick its.toArray lo hi none=((its.drop (HT.sIx its.length 0 lo)).take (HT.sIx its.length its.length hi - HT.sIx its.length 0 lo)).toArray:=by
 obtain ⟨h1,h2,h3⟩:=i3 lo hi its.toArray.size
 unfold slicePick
 rw [h1,h2,h3]
 simp only [sliceRange_one,pick_run,List.size_toArray] <;> rfl
def rSlL (K:PySem.W.Frag):V->Option Int->Option Int->Hp->VK->Prop:=λx lo hi H Q=>∃ a xs,x = .ref a/\SqL K H a xs/\∀ p,H p=none->Q (.ref p) (upd H p (.lst (cutV xs lo hi)))
theorem sl_list:SlR X (rSlL X.K):=by
 (try refine ⟨?_⟩); intro pins s σ H x v vl vu lo hi sl Q I rx hs pl pu h
 obtain ⟨a,xs,rfl,hx,q⟩:=h
 cases rx
 obtain ⟨its,r,ht,hz⟩:=I.list hx
 have hlen:=r.length
 refine ⟨"list",_,slot_list_getitem.lookup,ht.isList.typeIs,?_⟩
 refine wpAny_getItem_list_slice ht.isList hs pl pu .none (by simp) ?_ (by rw [List.size_toArray] <;> omega)
 rw [g7,<- hlen]
 refine ⟨.ref s.heap.objs.size,_,I.laid (t':=s.toks) (o:=.lst (cutV xs lo hi)) (λb ob q=>Heap.get?_push_of_some _ q) (Nat.le_refl _) ?_,rfl,q _ (I.hok.fresh (Nat.le_refl _))⟩
 exact ⟨Nat.le_trans (ji xs lo hi) hz,_,0,(r.drop (HT.sIx xs.length 0 lo)).take (HT.sIx xs.length xs.length hi - HT.sIx xs.length 0 lo),Heap.get?_push_size _ rfl⟩
def eJ:V->Bool
 | .non=>true
 | .bl _=>true
 | .int _=>true
 | .str _=>true
 | _=>false
def eqV:V->V->Bool
 | .non,.non=>true
 | .bl a,.bl b=>a == b
 | .bl a,.int b=>(if a then 1 else 0) == b
 | .int a,.bl b=>a == (if b then 1 else 0)
 | .int a,.int b=>a == b
 | .str a,.str b=>a == b
 | _,_=>false
theorem sf {A:Around} {s:Shared} {y x:V} {u v:Value} (ry:aW y u) (rx:aW x v) (fy:eJ y=true) (fx:eJ x=true):SeqAt.EqAt A s u v (eqV y x):=by
 cases y with
 | non =>
  cases ry
  cases x with
  | non=>cases rx; exact SeqAt.EqAt.same _
  | bl b=>cases rx; exact SeqAt.EqAt.none_bool b
  | int b=>obtain ⟨t,rfl⟩:=rx; exact SeqAt.EqAt.none_int b t
  | str b=>obtain ⟨t,rfl⟩:=rx; exact SeqAt.EqAt.none_str b t
  | _=>exact absurd (show false=true from fx) Bool.false_ne_true
 | bl a =>
  cases ry
  cases x with
  | non=>cases rx; exact SeqAt.EqAt.bool_none a
  | bl b=>cases rx; exact SeqAt.EqAt.bool_bool a b
  | int b=>obtain ⟨t,rfl⟩:=rx; exact SeqAt.EqAt.bool_int a b t
  | str b=>obtain ⟨t,rfl⟩:=rx; exact SeqAt.EqAt.bool_str a b t
  | _=>exact absurd (show false=true from fx) Bool.false_ne_true
 | int a =>
  obtain ⟨t',rfl⟩:=ry
  cases x with
  | non=>cases rx; exact SeqAt.EqAt.int_none a t'
  | bl b=>cases rx; exact SeqAt.EqAt.int_bool a t' b
  | int b=>obtain ⟨t,rfl⟩:=rx; exact SeqAt.EqAt.int_int a t' b t
  | str b=>obtain ⟨t,rfl⟩:=rx; exact SeqAt.EqAt.int_str a t' b t
  | _=>exact absurd (show false=true from fx) Bool.false_ne_true
 | str a =>
  obtain ⟨t',rfl⟩:=ry
  cases x with
  | non=>cases rx; exact SeqAt.EqAt.str_none a t'
  | bl b=>cases rx; exact SeqAt.EqAt.str_bool a t' b
  | int b=>obtain ⟨t,rfl⟩:=rx; exact SeqAt.EqAt.str_int a t' b t
  | str b=>obtain ⟨t,rfl⟩:=rx; exact SeqAt.EqAt.str_str a t' b t
  | _=>exact absurd (show false=true from fx) Bool.false_ne_true
 | _=>exact absurd (show false=true from fy) Bool.false_ne_true
def eqU (x:V) (u:Value):Bool:=match u with
 | .none=>eqV .non x
 | .bool b=>eqV (.bl b) x
 | .int i _=>eqV (.int i) x
 | .str z _=>eqV (.str z) x
 | _=>false
theorem oU {x y:V} {u:Value} (r:aW y u) (f:eJ y=true):eqU x u=eqV y x:=by
 cases y with
 | non=>cases r; rfl
 | bl b=>cases r; rfl
 | int i=>obtain ⟨t,rfl⟩:=r; rfl
 | str z=>obtain ⟨t,rfl⟩:=r; rfl
 | _=>exact absurd (show false=true from f) Bool.false_ne_true
theorem fu {x:V}:∀ {xs:List V} {us:List Value},aH xs us->xs.all eJ=true->us.any (eqU x)=xs.any λy=>eqV y x
 | _,_,.nil,_=>rfl
 | y :: xs,u :: us,.cons r t,f=>by
  rw [List.all_cons,Bool.and_eq_true] at f
  rw [List.any_cons,List.any_cons,oU r f.1,fu t f.2]
theorem d4 {A:Around} {s:Shared} {x:V} {v:Value} (rx:aW x v) (fx:eJ x=true):∀ {xs:List V} {us:List Value},aH xs us->xs.all eJ=true->∀ u∈us,SeqAt.EqAt A s u v (eqU x u)
 | _,_,.nil,_=>λu hu=>by cases hu
 | y :: xs,u :: us,.cons r t,f=>λu' hu=>by
  rw [List.all_cons,Bool.and_eq_true] at f
  rcases List.mem_cons.mp hu with rfl | hu
  ·rw [oU r f.1]; exact sf r rx f.1 fx
  ·exact d4 rx fx t f.2 u' hu
def inV (x:V) (xs:List V):Bool:=xs.any λy=>eqV y x
def rIn (K:PySem.W.Frag) (neg:Bool):R2:=λx y H Q=>∃ p xs,y = .ref p/\(SqL K H p xs\/SqT K H p xs)/\eJ x=true/\xs.all eJ=true/\Q (.bl (if neg then !inV x xs else inV x xs)) H
theorem fR:OpR X (compareOp .In) (rIn X.K false):=by
 (try refine ⟨?_⟩); intro pins s σ H x y v u Q I rx ry h
 obtain ⟨p,xs,rfl,hq,fx,fs,q⟩:=h
 cases ry
 rcases hq with hq | hq
 ·obtain ⟨its,r,pl,hz⟩:=I.list hq
  refine SeqAt.in_listAt (eqU x) pl.isList (λw hw=>d4 rx fx r fs w (by simpa using hw)) ⟨.bl _,H,I,rfl,?_⟩
  rw [show its.toArray.any (eqU x)=its.any (eqU x) by simp,fu r fs]
  exact q
 ·obtain ⟨its,r,pl,hz⟩:=I.tuple hq
  refine SeqAt.in_tupleAt (eqU x) pl (λw hw=>d4 rx fx r fs w (by simpa using hw)) ⟨.bl _,H,I,rfl,?_⟩
  rw [show its.toArray.any (eqU x)=its.any (eqU x) by simp,fu r fs]
  exact q
theorem du:OpR X (compareOp .NotIn) (rIn X.K true):=by
 (try refine ⟨?_⟩); intro pins s σ H x y v u Q I rx ry h
 obtain ⟨p,xs,rfl,hq,fx,fs,q⟩:=h
 cases ry
 rcases hq with hq | hq
 ·obtain ⟨its,r,pl,hz⟩:=I.list hq
  refine SeqAt.notIn_listAt (eqU x) pl.isList (λw hw=>d4 rx fx r fs w (by simpa using hw)) ⟨.bl _,H,I,rfl,?_⟩
  rw [show its.toArray.any (eqU x)=its.any (eqU x) by simp,fu r fs]
  exact q
 ·obtain ⟨its,r,pl,hz⟩:=I.tuple hq
  refine SeqAt.notIn_tupleAt (eqU x) pl (λw hw=>d4 rx fx r fs w (by simpa using hw)) ⟨.bl _,H,I,rfl,?_⟩
  rw [show its.toArray.any (eqU x)=its.any (eqU x) by simp,fu r fs]
  exact q
theorem aA:cL X (.builtin "len") (λxs H Q=>∃ p ys,xs=[.ref p]/\(SqL X.K H p ys\/SqT X.K H p ys)/\Q (.int ys.length) H):=by
 (try refine ⟨?_⟩); intro pins s σ H xs us Q I r h
 obtain ⟨p,ys,rfl,hq,q⟩:=h
 obtain ⟨u,rfl,rx⟩:=fV r
 cases rx
 have hn:=fT
 rcases hq with hq | hq
 ·obtain ⟨its,r',pl,hz⟩:=I.list hq
  have hlen:=r'.length
  exact Calls.call_len_list pl.isList (by simp only [List.size_toArray] <;> omega) ⟨.int ys.length,H,I.tok _,⟨s.toks + 1,by rw [List.size_toArray,hlen]⟩,q⟩
 ·obtain ⟨its,r',pl,hz⟩:=I.tuple hq
  have hlen:=r'.length
  exact len_tuple pl (by simp only [List.size_toArray] <;> omega) ⟨.int ys.length,H,I.tok _,⟨s.toks + 1,by rw [List.size_toArray,hlen]⟩,q⟩
theorem bd:cL X (.type "list") (λxs H Q=>∃ p ys,xs=[.ref p]/\(SqL X.K H p ys\/SqT X.K H p ys)/\∀ l,H l=none->Q (.ref l) (upd H l (.lst ys))):=by
 (try refine ⟨?_⟩); intro pins s σ H xs us Q I r h
 obtain ⟨p,ys,rfl,hq,q⟩:=h
 obtain ⟨u,rfl,rx⟩:=fV r
 cases rx
 have fin:∀ (its:List Value),aH ys its->ys.length<=sizeLine->∀ (h':Heap) (c':Nat),(∀ b o',s.heap.get? b=some o'->h'.get? b=some o') ->
  h'.get? s.heap.objs.size=some { cls:=.type "list",dict:=none,data:=.seq its.toArray c',slots:=#[] }->EP X pins σ Q (.ref s.heap.objs.size) { s with heap:=h' }:=λits r' hz h' c' kp e =>
  ⟨.ref s.heap.objs.size,_,I.laid (t':=s.toks) kp (Nat.le_refl _) (show bn X.prog X.w _ h' _ (.lst ys) from ⟨hz,its,c',r',e⟩),rfl,q _ (I.hok.fresh (Nat.le_refl _))⟩
 rcases hq with hq | hq
 ·obtain ⟨its,r',pl,hz⟩:=I.list hq
  have hlen:=r'.length
  obtain ⟨o,ho,hc,n,hd⟩:=pl.isList
  exact call_list_seq p (.inl rfl) ho hc hd (λh' c' kp e=>fin its r' hz h' c' kp e) (by simp only [List.size_toArray] <;> omega)
 ·obtain ⟨its,r',pl,hz⟩:=I.tuple hq
  have hlen:=r'.length
  obtain ⟨o,ho,hc,n,hd⟩:=pl
  exact call_list_seq p (.inr rfl) ho hc hd (λh' c' kp e=>fin its r' hz h' c' kp e) (by simp only [List.size_toArray] <;> omega)
def tyV (K:PySem.W.Frag) (T:String) (x:V) (H:Hp):Prop:=match x with
 | .str _=>T = "str"
 | .int _=>T = "int"
 | .ref p=>(T = "list" /\ ∃ xs,SqL K H p xs)\/(T = "tuple" /\ ∃ o,K.lookup p=some o/\o.cls = .type "tuple" /\ o.dict=none) \/
  (T = "dict" /\ ((∃ kvs,H p=some (.dK kvs))\/∃ kvs,H p=some (.dT kvs)))\/(T = "set" /\ ∃ S n,H p=some (.set S n))
 | _=>False
theorem mQ {pins:List (Addr×Obj)} {σ:St} {H:Hp} {s:Shared} {T:String} {x:V} {v:Value} (I:Inv X pins σ H s) (r:aW x v) (ty:tyV X.K T x H) :
 s.TypeIs v T/\∀ a,v = .ref a->∃ ob,s.heap.get? a=some ob/\ob.dict=none:=by
 cases x with
 | str z =>
  obtain ⟨t,rfl⟩:=r
  cases (show T = "str" from ty)
  exact ⟨typeIs_str s z t,λ_ e=>nomatch e⟩
 | int i =>
  obtain ⟨t,rfl⟩:=r
  cases (show T = "int" from ty)
  exact ⟨typeIs_int s i t,λ_ e=>nomatch e⟩
 | ref p =>
  cases r
  rcases ty with ⟨rfl,xs,hq⟩ | ⟨rfl,o,hk,hc,hd⟩ | ⟨rfl,hk⟩ | ⟨rfl,S,n,hk⟩
  ·obtain ⟨its,_,pl,_⟩:=I.list hq
   refine ⟨pl.isList.typeIs,λa e=>?_⟩
   cases e
   obtain ⟨o,n,e,c,hd,_⟩:=pl
   exact ⟨o,e,hd⟩
  ·refine ⟨⟨o,I.kIn p o hk,hc⟩,λa e=>?_⟩
   cases e
   exact ⟨o,I.kIn _ o hk,hd⟩
  ·have z:∃ o,s.heap.get? p=some o/\o.ExactDict:=by
    rcases hk with ⟨kvs,hk⟩ | ⟨kvs,hk⟩
    ·obtain ⟨_,_,_,_,o,_,_,e,ex,_⟩:=I.hok p _ hk
     exact ⟨o,e,ex⟩
    ·obtain ⟨_,_,_,_,o,_,_,e,ex,_⟩:=I.hok p _ hk
     exact ⟨o,e,ex⟩
   obtain ⟨o,e,ex⟩:=z
   refine ⟨⟨o,e,ex.1⟩,λa e2=>?_⟩
   cases e2
   exact ⟨o,e,ex.2.1⟩
  ·obtain ⟨o,_,_,_,e,ex,_⟩:=I.hok p _ hk
   refine ⟨⟨o,e,ex.1⟩,λa e2=>?_⟩
   cases e2
   exact ⟨o,e,ex.2.1⟩
 | _=>exact False.elim ty
def tBM0 (K:PySem.W.Frag) (T:String) (r:V->List V->Hp->VK->Prop) (to:TE):TE:=λσ H Q=>to σ H λx H1=>tyV K T x H1/\r x [] H1 Q
def tBM (K:PySem.W.Frag) (T:String) (r:V->List V->Hp->VK->Prop) (to:TE) (t:TA):TE:=λσ H Q=>to σ H λx H1=>tyV K T x H1/\t σ H1 λxs H2=>r x xs H2 Q
variable {o e:Expr} {es:List Expr} {to:TE} {t:TA} {name:Str} {apos cpos:Pos} {T id:String} {r:V->List V->Hp->VK->Prop}
theorem pq (pa:PlainAttrs T) (slot:Slot T name id) (hty:typeOf (.builtin id)=pure (.type "method_descriptor")) (hm:MtR X id r) (ho:PE X o to)
 (hbase:attributeBase o name X.env (eval o X.env)=eval o X.env:=by rfl) (hline:(apos.endLine == cpos.line)=true:=by rfl):PE X (.Call (.Attribute o name apos) [] [] cpos) (tBM0 X.K T r to):=by
 (try refine ⟨?_⟩); intro pins s σ H Q I h
 refine wpAny_Call_method0_late hbase hline (thn (ho pins s σ H _ I h) λv s1 ⟨x,H1,I1,r1,ty,q1⟩=>?_)
 obtain ⟨h1,h2⟩:=mQ I1 r1 ty
 exact ⟨T,id,pa,slot,hty,h1,h2,Calls.callWith_builtin rfl (PySem.evalArgs_none (hm pins s1 σ H1 x [] v [] Q I1 r1 .nil q1))⟩
theorem kE (pa:PlainAttrs T) (slot:Slot T name id) (hty:typeOf (.builtin id)=pure (.type "method_descriptor")) (hm:MtR X id r) (ho:PE X o to) (ha:PA X (e :: es) t)
 (hbase:attributeBase o name X.env (eval o X.env)=eval o X.env:=by rfl)
 (hfew:((backTo cpos (starEach (e :: es) X.env)).all (λx=>!x.1)&&(backToKw cpos (keywordEach [] X.env)).all (λx=>x.1.isSome)
  && decide ((e :: es).length + ([]:List Keyword).length + (if ([]:List Keyword).isEmpty then 0 else 1)<30))=true:=by rfl)
 (hline:(apos.endLine == cpos.line)=true:=by rfl) (hs:starEach (e :: es) X.env=(false,eval e X.env) :: starEach es X.env:=by rfl) (hplain:(backTo cpos (starEach es X.env)).any (·.1)=false:=by rfl) :
 PE X (.Call (.Attribute o name apos) (e :: es) [] cpos) (tBM X.K T r to t):=by
 (try refine ⟨?_⟩); intro pins s σ H Q I h
 refine wpAny_Call_method_late hbase hfew hline rfl (thn (ho pins s σ H _ I h) λv s1 ⟨x,H1,I1,r1,ty,q1⟩=>?_)
 obtain ⟨h1,h2⟩:=mQ I1 r1 ty
 refine ⟨T,id,pa,slot,hty,h1,h2,?_⟩
 have hA:=ha cpos pins s1 σ H1 _ I1 q1
 rw [hs] at hA ⊢
 refine Calls.callWith_builtin (by show (false||(backTo cpos (starEach es X.env)).any (·.1))=false; rw [hplain] <;> rfl) (Calls.evalArgs_plain ?_)
 exact thn hA λus s2 ⟨vs,H2,I2,r2,q2⟩=>hm pins s2 σ H2 x vs v us Q I2 r1 r2 q2
/- xs.append(e),list.index on a module's tuple .. are MtR facts of 06m -/
end
def MtM (X:Cx) (id:String) (r:V->List V->Hp->VK->Prop):Prop :=
 ∀ (pins:List (Addr×Obj)) (s:Shared) (σ:St) (H:Hp) (x:V) (xs:List V) (v:Value) (us:List Value) (Q:VK),Inv X pins σ H s->aW x v->aH xs us->r x xs H Q ->
  wpAny (model X.prog X.w) X.A (call (.builtin id) (v :: us)) (EP X pins σ Q) X.xe s
theorem aH.one:∀ {x:V} {us:List Value},aH [x] us->∃ u,us=[u]/\aW x u:=λh=>by
 cases h with
 | cons r q=>cases q; exact ⟨_,rfl,r⟩
theorem aH.zero:∀ {us:List Value},aH [] us->us=[]
 | _,.nil=>rfl
theorem aH.dropLast {xs:List V} {us:List Value} (h:aH xs us):aH xs.dropLast us.dropLast:=by
 induction h with
 | nil=>exact .nil
 | cons r t ih =>
  cases t with
  | nil=>exact .nil
  | cons q t'=>exact .cons r ih
theorem aH.eraseIdx:∀ {xs:List V} {us:List Value} (i:Nat),aH xs us->aH (xs.eraseIdx i) (us.eraseIdx i)
 | _,_,_,.nil=>.nil
 | _,_,0,.cons _ t=>t
 | _,_,i + 1,.cons r t=>.cons r (aH.eraseIdx i t)
theorem aH.reverse {xs:List V} {us:List Value} (h:aH xs us):aH xs.reverse us.reverse:=by
 induction h with
 | nil=>exact .nil
 | cons r t ih=>rw [List.reverse_cons,List.reverse_cons]; exact aH.append ih (.cons r .nil)
theorem aH.rep {xs:List V} {us:List Value} (h:aH xs us):∀ k:Nat,aH (List.replicate k xs).flatten (List.replicate k us).flatten
 | 0=>.nil
 | k + 1=>by
  rw [List.replicate_succ,List.replicate_succ,List.flatten_cons,List.flatten_cons]
  exact aH.append h (aH.rep h k)
theorem km {α:Type} (l:List α):l.eraseIdx (l.length - 1)=l.dropLast:=by
 induction l with
 | nil=>rfl
 | cons a r ih =>
  cases r with
  | nil=>rfl
  | cons b r =>
   have e:(a :: b :: r).length - 1=((b :: r).length - 1) + 1:=by
    have h1:(a :: b :: r).length=r.length + 2:=rfl
    have h2:(b :: r).length=r.length + 1:=rfl
    omega
   rw [e,List.eraseIdx_cons_succ,ih]
   all_goals rfl
theorem h_ (its:List Value):∀ (k:Nat) (acc:List Value),
 List.foldl (λx1 x2=>x1++x2) acc.toArray (List.replicate k its.toArray)=(acc++(List.replicate k its).flatten).toArray
 | 0,acc=>by simp
 | k + 1,acc=>by
  have e:acc.toArray++its.toArray=(acc++its).toArray:=by simp
  have e2:(acc++its)++(List.replicate k its).flatten=acc++(List.replicate (k + 1) its).flatten:=by
   rw [List.replicate_succ,List.flatten_cons,List.append_assoc]
  rw [<- e2,<- h_ its k (acc++its),<- e,List.replicate_succ,List.foldl_cons]
section
variable {X:Cx} {pins:List (Addr×Obj)} {σ:St} {H:Hp} {s:Shared} {l b:Addr} {xs ys zs:List V}
theorem Inv.lset {its its':List Value} {n:Nat} {f:Array Value->Array Value} {t':Nat} (I:Inv X pins σ H s) (hH:H l=some (.lst xs))
 (e:s.heap.get? l=some { cls:=.type "list",data:=.seq its.toArray n }) (hf:f its.toArray=its'.toArray) (hv:aH ys its') (hz:ys.length<=sizeLine) :
 Inv X pins σ (upd H l (.lst ys)) { s with heap:=s.heap.update l (Obj.mapSeq f),toks:=t' }:=by
 have q:=PySem.IsL.update e f
 rw [hf] at q
 refine I.write (x:=l) (e:=l) (by rw [hH]; exact trivial) (.inl rfl) (λb' u hb hu=>(Heap.get?_update_other s.heap (Obj.mapSeq f) (Ne.symm hb)).trans hu) ⟨_,q⟩ ?_
 exact ⟨hz,its',_,hv,q⟩
theorem Inv.lnew {its:List Value} {t':Nat} (I:Inv X pins σ H s) (hv:aH ys its) (hz:ys.length<=sizeLine) :
 Inv X pins σ (upd H s.heap.objs.size (.lst ys)) { s with heap:=s.heap.push { cls:=.type "list",data:=.seq its.toArray },toks:=t' } :=
 I.laid (λ_ _ q=>Heap.get?_push_of_some _ q) (Nat.le_refl _) ⟨hz,its,0,hv,Heap.get?_push_size _ rfl⟩
theorem Inv.fresh (I:Inv X pins σ H s):H s.heap.objs.size=none:=I.hok.fresh (Nat.le_refl _)
theorem Inv.lstM (I:Inv X pins σ H s) (hH:H l=some (.lst xs)):xs.length<=sizeLine/\∃ (its:List Value) (n:Nat),aH xs its/\xs.length=its.length/\s.heap.get? l=some { cls:=.type "list",data:=.seq its.toArray n }:=by
 obtain ⟨z,its,n,r,e⟩:=I.hok l _ hH
 exact ⟨z,its,n,r,r.length,e⟩
theorem i9 {n:Nat} (h:n<=sizeLine):Builtin.List.listTooLong n=false:=by
 unfold Builtin.List.listTooLong
 exact decide_eq_false (by omega)
end
section
variable {X:Cx}
def pR:V->List V->Hp->VK->Prop:=λx vs H Q=>∃ l xs y,x = .ref l/\vs=[y]/\H l=some (.lst xs)/\xs.length<sizeLine/\Q .non (upd H l (.lst (xs++[y])))
theorem ix:MtM X "list.append" pR:=by
 (try refine ⟨?_⟩); intro pins s σ H x vs v us Q I rx rv h
 obtain ⟨l,xs,y,rfl,rfl,hH,hz,q⟩:=h
 cases rx
 obtain ⟨u,rfl,ru⟩:=rv.one
 obtain ⟨z,its,n,r,hl,e⟩:=I.lstM hH
 refine call_meets F.slot_list_append ⟨_,e,rfl⟩ F.entry_list_append (F.args_list_append_2 _ _) (PySem.list_append l its.toArray n u (by rw [List.size_toArray]; omega)) ⟨e,?_⟩
 refine ⟨.non,_,I.lset (its':=its++[u]) hH e (by simp) (r.append (.cons ru .nil)) ?_,rfl,q⟩
 rw [List.length_append,List.length_singleton]
 omega
def p5:V->List V->Hp->VK->Prop:=λx vs H Q=>∃ l b xs zs,x = .ref l/\vs=[.ref b]/\H l=some (.lst xs)/\H b=some (.lst zs)/\xs.length + zs.length<=sizeLine/\Q .non (upd H l (.lst (xs++zs)))
theorem lC:MtM X "list.extend" p5:=by
 (try refine ⟨?_⟩); intro pins s σ H x vs v us Q I rx rv h
 obtain ⟨l,b,xs,zs,rfl,rfl,hH,hB,hz,q⟩:=h
 cases rx
 obtain ⟨u,rfl,ru⟩:=rv.one
 cases ru
 obtain ⟨z,its,n,r,hl,e⟩:=I.lstM hH
 obtain ⟨z2,its2,n2,r2,hl2,e2⟩:=I.lstM hB
 have hsz:its.toArray.size + its2.toArray.size<=sizeLine:=by rw [List.size_toArray,List.size_toArray]; omega
 have hlong : ¬ (!its.toArray.isEmpty&&Builtin.List.listTooLong (its.toArray.size + its2.toArray.size))=true:=by
  rw [i9 hsz,Bool.and_false]
  exact Bool.false_ne_true
 refine call_meets F.slot_list_extend ⟨_,e,rfl⟩ F.entry_list_extend (F.args_list_extend_2 _ _)
  (AutoSeq1.list_extend_list_list_0 l its.toArray n b its2.toArray n2 hlong (by rw [List.size_toArray]; omega) (by omega)) ⟨e,e2,?_⟩
 refine ⟨.non,_,I.lset (its':=its++its2) hH e (by simp) (r.append r2) ?_,rfl,q⟩
 rw [List.length_append]
 omega
def rPop:V->List V->Hp->VK->Prop:=λx vs H Q=>∃ l xs y,x = .ref l/\vs=[]/\H l=some (.lst xs)/\xs[xs.length - 1]? = some y/\Q y (upd H l (.lst xs.dropLast))
theorem mt_pop:MtM X "list.pop" rPop:=by
 (try refine ⟨?_⟩); intro pins s σ H x vs v us Q I rx rv h
 obtain ⟨l,xs,y,rfl,rfl,hH,hy,q⟩:=h
 cases rx
 have hus:=rv.zero
 subst hus
 obtain ⟨z,its,n,r,hl,e⟩:=I.lstM hH
 obtain ⟨u,hu,ru⟩:=r.get hy
 have hy':its.toArray[its.toArray.size - 1]? = some u:=by
  show its.toArray[its.length - 1]? = some u
  rw [<- Array.getElem?_toList,<- hl]
  exact hu
 refine call_meets F.slot_list_pop ⟨_,e,rfl⟩ F.entry_list_pop (F.args_list_pop_1 _) (MeetsSeq.list_pop_last l its.toArray n u hy' (by rw [List.size_toArray]; omega)) ⟨e,?_⟩
 refine ⟨y,_,I.lset (its':=its.dropLast) hH e ?_ r.dropLast ?_,ru,q⟩
 ·show its.toArray.eraseIdxIfInBounds (its.toArray.size - 1)=its.dropLast.toArray
  rw [List.size_toArray,List.eraseIdxIfInBounds_toArray,km]
 ·rw [List.length_dropLast]
  omega
def oM:V->List V->Hp->VK->Prop:=λx vs H Q=>∃ l xs,x = .ref l/\vs=[]/\H l=some (.lst xs)/\Q .non (upd H l (.lst xs.reverse))
theorem jN:MtM X "list.reverse" oM:=by
 (try refine ⟨?_⟩); intro pins s σ H x vs v us Q I rx rv h
 obtain ⟨l,xs,rfl,rfl,hH,q⟩:=h
 cases rx
 have hus:=rv.zero
 subst hus
 obtain ⟨z,its,n,r,hl,e⟩:=I.lstM hH
 refine call_meets F.slot_list_reverse ⟨_,e,rfl⟩ F.entry_list_reverse (F.args_list_reverse_1 _) (AutoSeq1.list_reverse_list_0 l its.toArray n (by rw [List.size_toArray]; omega)) ⟨e,?_⟩
 refine ⟨.non,_,I.lset (its':=its.reverse) hH e (by simp) r.reverse ?_,rfl,q⟩
 rw [List.length_reverse]
 omega
def sU:V->List V->Hp->VK->Prop:=λx vs H Q=>∃ l xs,x = .ref l/\vs=[]/\H l=some (.lst xs)/\Q .non (upd H l (.lst []))
theorem n5:MtM X "list.clear" sU:=by
 (try refine ⟨?_⟩); intro pins s σ H x vs v us Q I rx rv h
 obtain ⟨l,xs,rfl,rfl,hH,q⟩:=h
 cases rx
 have hus:=rv.zero
 subst hus
 obtain ⟨z,its,n,r,hl,e⟩:=I.lstM hH
 refine call_meets F.slot_list_clear ⟨_,e,rfl⟩ F.entry_list_clear (F.args_list_clear_1 _) (AutoSeq1.list_clear_list_0 l its.toArray n (by rw [List.size_toArray]; omega)) ⟨e,?_⟩
 exact ⟨.non,_,I.lset (its':=[]) (ys:=[]) hH e rfl .nil (Nat.zero_le _),rfl,q⟩
def rCat:R2:=λx y H Q=>∃ l b xs zs,x = .ref l/\y = .ref b/\H l=some (.lst xs)/\H b=some (.lst zs)/\xs.length + zs.length<=sizeLine/\∀ p,H p=none->Q (.ref p) (upd H p (.lst (xs++zs)))
theorem j9:OpR X (binaryOp .Add) rCat:=by
 (try refine ⟨?_⟩); intro pins s σ H x y v u Q I rx ry h
 obtain ⟨l,b,xs,zs,rfl,rfl,hH,hB,hz,q⟩:=h
 cases rx
 cases ry
 obtain ⟨z,its,n,r,hl,e⟩:=I.lstM hH
 obtain ⟨z2,its2,n2,r2,hl2,e2⟩:=I.lstM hB
 refine PySem.P.add_list e e2 ?_ (by rw [List.size_toArray,List.size_toArray]; omega)
 have ea:its.toArray++its2.toArray=(its++its2).toArray:=by simp
 rw [ea]
 exact ⟨.ref _,_,I.lnew (t':=s.toks) (r.append r2) (by rw [List.length_append]; omega),rfl,q _ I.fresh⟩
def rRep:R2:=λx y H Q=>∃ l k xs,x = .ref l/\y = .int k/\H l=some (.lst xs)/\-(2 ^ 63)<=k/\k<2 ^ 63/\xs.length * k.toNat<=sizeLine /\
 ∀ p,H p=none->Q (.ref p) (upd H p (.lst (List.replicate k.toNat xs).flatten))
theorem pN {α:Type} (xs:List α) (k:Nat):(List.replicate k xs).flatten.length=k * xs.length:=by
 induction k with
 | zero=>simp
 | succ k ih=>rw [List.replicate_succ,List.flatten_cons,List.length_append,ih,Nat.succ_mul,Nat.add_comm]
theorem mI:OpR X (binaryOp .Mult) rRep:=by
 (try refine ⟨?_⟩); intro pins s σ H x y v u Q I rx ry h
 obtain ⟨l,k,xs,rfl,rfl,hH,h1,h2,hz,q⟩:=h
 cases rx
 obtain ⟨t,rfl⟩:=ry
 obtain ⟨z,its,n,r,hl,e⟩:=I.lstM hH
 have hlen:its.toArray.size * k.toNat<=sizeLine:=by rw [List.size_toArray,<- hl]; exact hz
 have hcap : ¬ its.toArray.size * k.toNat > (2 ^ 63 - 1) / 8:=by
  have:(sizeLine:Nat)<=(2 ^ 63 - 1) / 8:=by decide
  omega
 have hfit : ¬ (!Builtin.List.listFitsIndex k)=true:=by
  rw [fitsIndex_both h1 h2]
  exact Bool.false_ne_true
 have hlong : ¬ Builtin.List.listTooLong (its.toArray.size * k.toNat)=true:=by
  rw [i9 hlen]
  exact Bool.false_ne_true
 have hnew:List.foldl (λx1 x2=>x1++x2) #[] (List.replicate (if its.toArray.isEmpty=true then 0 else k.toNat) its.toArray)=(List.replicate k.toNat its).flatten.toArray:=by
  have f0:∀ m:Nat,List.foldl (λx1 x2=>x1++x2) #[] (List.replicate m its.toArray)=(List.replicate m its).flatten.toArray:=λm=>by
   have:=h_ its m []
   rw [List.nil_append] at this
   exact this
  rw [f0]
  cases its with
  | nil=>simp
  | cons a r'=>rw [if_neg (by simp)]
 refine wpAny_binaryOp_repeat_ref (T:="list") (U:="int") (by decide) ⟨_,e,rfl⟩ (λs'=>typeIs_int s' k t) noFill_list_mul F.fills_int_mul F.slot_int_rmul repeat_list F.slot_int_index.lookup
  (call_meets F.slot_int_rmul (typeIs_int s k t) F.entry_int_rmul (F.args_int_rmul_2 _ _) (int___rmul___int_list k t l its.toArray n)
   ⟨e,rfl,⟨_,e,rfl⟩,call_meets F.slot_list_mul ⟨_,e,rfl⟩ F.entry_list_mul (F.args_list_mul_2 _ _) (AutoListH.list___mul___list_int_3 l its.toArray n k t hfit hcap hlong) ⟨e,?_⟩⟩)
 rw [hnew]
 exact ⟨.ref _,_,I.lnew (t':=s.toks) (r.rep k.toNat) (by rw [pN,Nat.mul_comm]; exact hz),rfl,q _ I.fresh⟩
end
section
variable {prog:Program} {w:World} {A:Around} {E:Value->Shared->Prop} {s:Shared}
end
section
variable {X:Cx}
end
end L2
namespace Att
open PySem PySem.W PySem.Calls PyProof.Rows
theorem f9 {P:Params} {h:Heap}:∀ (ns:List Int) (vs:List Value),WellAll P h vs (ns.map WData.int)->IntsAre vs ns:=by
 intro ns
 induction ns with
 | nil =>
  intro vs w
  rw [List.map_nil] at w
  cases w
  exact .nil
 | cons n ns ih =>
  intro vs w
  rw [List.map_cons] at w
  cases w with
  | cons a b =>
   cases a
   exact .cons _ _ (ih _ b)
theorem lM {l:OpenLaw} {n:Nat} (hn:l.most=some n) {P:Params} {h:Heap} {args:List WData} {vals:List Value}
 (hpre:l.row.toRowW.claim.pre args=true) (hwl:WellAll P h vals args) :
 ∃ a vs ns,vals=[Value.ref a]/\args=[WData.list (ns.map WData.int)]/\h.get? a=some { cls:=.type "list",data:=.seq vs.toArray }/\IntsAre vs ns/\ns.length<=n:=by
 have hsh:WShape.hasAll [] args [.list .int]=true:=(pre_splitW hpre).1
 have hc:l.pre.holds [] { args:=args } = true:=(pre_splitW hpre).2
 obtain ⟨d,r,rfl,h1,h2⟩:=hasAllW_cons hsh
 obtain rfl:=hasAllW_nil h2
 obtain ⟨xs,rfl,h3⟩:=hasW_list h1
 obtain ⟨ns,rfl⟩:=items_int h3
 have hlen:ns.length<=n:=by
  unfold OpenLaw.pre at hc
  have h4:(WTm.not (.lt (.lit (.int (n:Int))) (.len (.arg 0)))).holds [] { args:=[.list (ns.map .int)] } = true:=by
   have h4:=(holds_andW hc).1
   rw [hn] at h4
   exact h4
  have h5:=condW_of h4 (w_not (w_lt w_lit (w_len_list (w_arg rfl))))
  rw [List.length_map] at h5
  refine Nat.le_of_not_lt λq=>?_
  have q':(n:Int)<((ns.length:Nat):Int):=by omega
  first
   | (rw [decide_eq_true q'] at h5; exact absurd h5 (by decide))
   | (simp at h5; omega)
 cases hwl with
 | cons w1 w2 =>
  cases w2
  cases w1 with
  | list ho hall=>exact ⟨_,_,ns,rfl,rfl,ho,f9 ns _ hall,hlen⟩
theorem lX (l:OpenLaw) (args:List WData):l.row.toRowW.claim.post args (.bool true) args=true :=
 postW_of (r:=l.row.toRowW) (X:=(true == true))
  (show WShape.has [] (.bool true) .bool=true by first | rfl | decide | simp [WShape.has,WShape.arms,WShape.armsAll])
  (show (WTm.eq .res (.lit (.bool true))).value [] { args:=args,res:=some (.bool true),after:=args } = some (.bool (true == true)) from w_eq_bool (w_res rfl) w_lit) rfl
theorem attach_call {l:OpenLaw} {n:Nat} {q:Program} {loose:List Str} {XP:(Str->Option Value)->Heap->Prop} {YP:World->Heap->Prop} {d:DefRec}
 (hn:l.most=some n) (hdf:d.params.defaults=[])
 (call:∀ (w:World) (s₀ s₁:Shared) (mg mb:Str->Option Value) (fa:Addr) (o:Obj) (pm cd doc:Value) (a:Addr) (vs:List Value) (ns:List Int),
  Ground q loose [] XP w s₀ mg mb s₁.heap->YP w s₁.heap ->
  s₁.heap.get? fa=some o->o.data = .func (docDef d.name d.params d.body d.scope pm cd doc)->s₁.heap.CodeRec cd d.name->mg d.name=some (.ref fa) ->
  s₁.heap.get? a=some { cls:=.type "list",data:=.seq vs.toArray }->IntsAre vs ns->ns.length<=n->s₁.gens = #[] ->
  codeAny (model l.prog w) callerA (.call (.ref fa) ⟨[.ref a],[]⟩) (λr s'=>r = .ok (.ret (.bool true))/\OldK s₁.heap s'.heap/\s'.os=s₁.os/\AllBare s'.gens) s₁) :
 WalkO q loose XP YP l.row.toRowW d [] (λf vs=>PySem.call f vs):=by
 intro w s₀ s₁ mg mb G Y fa o pm cd doc dV kV ho hd hcd hD hmg hg args vals as hpre hlay hrd hwl hlo
 obtain rfl:dV = .none:=Dflts.none hD hdf
 obtain rfl:kV = .none:=Dflts.noKw hD
 obtain ⟨a,vs,ns,rfl,rfl,hobj,hints,hlen⟩:=lM hn hpre hwl
 refine enter_call (codeAny_mono (call w s₀ s₁ mg mb fa o pm cd doc a vs ns G Y ho (fd_plain hd) hcd hmg hobj hints hlen hg) λr s' hq=>?_)
 obtain ⟨rfl,h2,h3,h4⟩:=hq
 exact ⟨.inl ⟨.bool true,.bool true,[],rfl,λ_=>rfl,.bool true,lX l _,λ_=>⟨List.Pairwise.nil,λ_ hm=>(nomatch hm)⟩⟩,h2,h3,h4⟩
section
variable {prog:Program} {w:World} {A:Around} {E:Value->Shared->Prop} {s:Shared} {K:Frag}
def gG (h:Heap):Heap:={ h with objs:=#[] }
theorem cK (h:Heap) (b:Addr):(gG h).get? b=none:=by
 cases e:(gG h).get? b with
 | none=>rfl
 | some o=>exact absurd (Heap.lt_size e) (Nat.not_lt_zero _)
def fH (h:Heap) (L d:Addr):List (Addr×Obj):=(List.range h.objs.size).filterMap λa=>if a=L\/a=d then none else (h.get? a).map λo=>(a,o)
theorem cI {h:Heap} {L d a:Addr} {o:Obj}:(a,o)∈fH h L d↔a≠L/\a≠d/\h.get? a=some o:=by
 unfold fH
 rw [List.mem_filterMap]
 constructor
 ·rintro ⟨b,_,e⟩
  split at e
  ·cases e
  ·rename_i hb
   obtain ⟨o',ho,e'⟩:=Option.map_eq_some_iff.mp e
   cases e'
   exact ⟨λq=>hb (.inl q),λq=>hb (.inr q),ho⟩
 ·rintro ⟨n1,n2,ho⟩
  refine ⟨a,List.mem_range.mpr (Heap.lt_size ho),?_⟩
  rw [if_neg (show ¬ (a=L\/a=d) from λq=>q.elim n1 n2),ho] <;> rfl
theorem nL {h:Heap} {L:Addr} {m:Str->Option Value} (n:h.Ns L m):Fr (gG h) L h m :=
 ⟨n,λb o e=>(by rw [cK] at e; cases e),Nat.zero_le _⟩
end
end Att
namespace L2
open PySem PySem.Spec PyProof.Rows
theorem cW:∀ {vs:List Value} {ns:List Int},IntsAre vs ns->aH (ns.map V.int) vs
 | _,_,.nil=>.nil
 | _,_,.cons n t h=>.cons ⟨t,rfl⟩ (cW h)
end L2
/- THE LAST THEOREM (shape; LID,My.* are yours):
   My.Adr: a structure of the addresses that your layer names (classes,functions); My.Txt K t: a structure (Prop) of the equations over K;
   My.txt_mk : {K} {implicit addresses ..} (e1:nsIn K mainGlobals "law" = some (some (.ref f))) (e2:K.lookup f=some ⟨oc,od,.func (fnOf "law" "law" params body scope dV kV doc pm an cdv ct),sl⟩) (e3:codeIn K cdv "law" = true) ..:∃ t,My.Txt K t
(the tactic k_is has no namespace: write k_is) -/
namespace L2
open PySem PySem.Spec PyProof.Rows
def dt (s:Stmt):Arguments:=match s with
 | .FunctionDef _ a _ _ _ _ _ _ _ _=>a
 | _=>{ posonlyargs:=[],args:=[],vararg:=none,kwonlyargs:=[],kw_defaults:=[],kwarg:=none,defaults:=[] }
def bV (s:Stmt):List Stmt:=match s with
 | .FunctionDef _ _ b _ _ _ _ _ _ _=>b
 | _=>[]
def ai (s:Stmt):Scope:=match s with
 | .FunctionDef _ _ _ _ _ _ sc _ _ _=>sc
 | _=>{ kind:=.function,names:=[],isGenerator:=false,isCoroutine:=false }
abbrev CX0:CXT:=λ_ _ _ _ _ _=>False
abbrev E0:XK:=λ_ _ _=>False
theorem qI {X:Cx}:ku CX0 X E0:=λ_ _ _ _ _ _ _ h=>h.elim
structure Fun (K:PySem.W.Frag) (x qual:Str) (st:Stmt) (f:Addr) (fd:FuncData):Prop where
 ex:∃ (oc:Value) (od:Option Addr) (kV doc pm:Value) (an:Option Addr) (cdv ct:Value) (osl:Array (Option Value)),
  fd=PySem.W.fnOf x qual (dt st) (bV st) (ai st) .none kV doc pm an cdv ct/\K.lookup f=some ⟨oc,od,.func fd,osl⟩/\PySem.W.codeIn K cdv qual=true
 kp:PySem.W.keepIn K (.ref f)=true
section
variable {P:Program} {w:World} {K:PySem.W.Frag} {mg:Str->Option Value} {base:Heap}
theorem Fun.ok {x qual:Str} {st:Stmt} {f:Addr} {fd:FuncData} {N ps:List Str} {k:Nat} {sp:Sp} (F:Fun K x qual st f fd) (S:FnScope N ps (ai st)) (len:∀ vs H Q E,sp vs H Q E->vs.length=ps.length)
 (hbody:∀ (cdv:Value) (A:Around) (outer:List Env) (s:Shared) (H:Hp) (vs:List V) (Q:VK) (E:XK),Room k (A.deeper (envOfC qual (ai st) s.heap.objs.size f cdv))->sp vs H Q E ->
  ∃ t,PSs (iF CX0 P w K mg base N qual (ai st) f cdv A outer s H E).nox (bV st) t/\t { nx:=λ_ H'=>Q .non H',rt:=Q } (start N vs) H):FnOk P w K mg base CX0 (k + 1) f fd ps sp:=by
 obtain ⟨oc,od,kV,doc,pm,an,cdv,ct,osl,rfl,lk,hcd⟩:=F.ex
 refine qN lk hcd S len λA outer s H vs Q E hr hsp=>?_
 obtain ⟨t,h,q⟩:=hbody cdv A outer s H vs Q E hr hsp
 exact ⟨t,h.nox,q⟩
theorem Fun.binds {x qual:Str} {st:Stmt} {f:Addr} {fd:FuncData} {ps:List Str} (F:Fun K x qual st f fd)
 (h:∀ (kV doc pm:Value) (an:Option Addr) (cdv ct:Value) (us:List Value),us.length=ps.length->bindArgs (PySem.W.fnOf x qual (dt st) (bV st) (ai st) .none kV doc pm an cdv ct) ⟨us,[]⟩=pure (ps.zip us)):fX K fd ps []:=by
 obtain ⟨oc,od,kV,doc,pm,an,cdv,ct,osl,rfl,lk,hcd⟩:=F.ex
 exact .all (h kV doc pm an cdv ct)
theorem tK {x qual:Str} {st:Stmt} {f:Addr} {oc:Value} {od an:Option Addr} {osl:Array (Option Value)} {kV doc pm cdv ct:Value} (l:K.lookup f=some ⟨oc,od,.func (PySem.W.fnOf x qual (dt st) (bV st) (ai st) .none kV doc pm an cdv ct),osl⟩)
 (c:PySem.W.codeIn K cdv qual=true) (k:PySem.W.keepIn K (.ref f)=true):Fun K x qual st f (PySem.W.fnOf x qual (dt st) (bV st) (ai st) .none kV doc pm an cdv ct):=⟨⟨oc,od,kV,doc,pm,an,cdv,ct,osl,rfl,l,c⟩,k⟩
end
theorem bY {n:Nat} (h:n<=1000):n<sizeLine:=Nat.lt_of_le_of_lt h (by decide)
section
variable {X:Cx}
end
theorem cq {c A B:Prop} [Decidable c] (h1:c->A) (h2 : ¬ c->B):if c then A else B:=by
 by_cases h:c
 ·rw [if_pos h]
  exact h1 h
 ·rw [if_neg h]
  exact h2 h
def aB (H H':Hp):Prop:=∀ b o,H b=some o->H' b=some o
theorem aB.refl (H:Hp):aB H H:=λ_ _ h=>h
theorem aB.trans {H H1 H2:Hp} (a:aB H H1) (b:aB H1 H2):aB H H2:=λc o h=>b c o (a c o h)
inductive D where
 | non | bl (b:Bool) | int (i:Int) | str (x:Str) | tup (ds:List D) | lst (ds:List D) | dct | dic (ks:List Key) (ds:List D) | obj (C:Addr) (ks:List Str) (ds:List D) | scr (φ:Addr->Prop) (ns:List Int) | ext (φ:Hp->Addr->Prop)
mutual
def Rep (H:Hp):D->V->Prop
 | .non,v=>v = .non
 | .bl b,v=>v = .bl b
 | .int i,v=>v = .int i
 | .str x,v=>v = .str x
 | .tup ds,v=>∃ a xs,v = .ref a/\H a=some (.tup xs)/\Reps H ds xs
 | .lst ds,v=>∃ a xs,v = .ref a/\H a=some (.lst xs)/\Reps H ds xs
 | .dct,v=>∃ a kvs,v = .ref a/\H a=some (.dK kvs)
 | .dic ks ds,v=>∃ a xs,v = .ref a/\H a=some (.dK (ks.zip xs))/\ks.length=ds.length/\Reps H ds xs
 | .obj C ks ds,v=>∃ a dx xs,v = .ref a/\H a=some (.ins C dx (ks.zip xs))/\ks.length=ds.length/\Reps H ds xs
 | .scr φ ns,v=>∃ a,v = .ref a/\((∃ o,H a=some (.frz o (.lst (ns.map V.int))))\/φ a)
 | .ext φ,v=>∃ a H0,v = .ref a/\aB H0 H/\φ H0 a
def Reps (H:Hp):List D->List V->Prop
 | [],xs=>xs=[]
 | d :: ds,xs=>∃ v vs,xs=v :: vs/\Rep H d v/\Reps H ds vs
end
theorem Reps.length {H:Hp}:∀ {ds:List D} {xs:List V},Reps H ds xs->xs.length=ds.length
 | [],xs,h=>by rw [Reps] at h; subst h; rfl
 | d :: ds,xs,h=>by
  rw [Reps] at h
  obtain ⟨v,vs,rfl,_,h2⟩:=h
  have:=Reps.length h2
  simp [this]
mutual
theorem Rep.mono {H H':Hp} (e:aB H H'):∀ (d:D) (v:V),Rep H d v->Rep H' d v
 | .non,v,h=>by rw [Rep] at *; exact h
 | .bl b,v,h=>by rw [Rep] at *; exact h
 | .int i,v,h=>by rw [Rep] at *; exact h
 | .str x,v,h=>by rw [Rep] at *; exact h
 | .tup ds,v,h=>by
  rw [Rep] at *
  obtain ⟨a,xs,h1,h2,h3⟩:=h
  exact ⟨a,xs,h1,e _ _ h2,Reps.mono e ds xs h3⟩
 | .lst ds,v,h=>by
  rw [Rep] at *
  obtain ⟨a,xs,h1,h2,h3⟩:=h
  exact ⟨a,xs,h1,e _ _ h2,Reps.mono e ds xs h3⟩
 | .dct,v,h=>by
  rw [Rep] at *
  obtain ⟨a,kvs,h1,h2⟩:=h
  exact ⟨a,kvs,h1,e _ _ h2⟩
 | .dic ks ds,v,h=>by
  rw [Rep] at *
  obtain ⟨a,xs,h1,h2,h3,h4⟩:=h
  exact ⟨a,xs,h1,e _ _ h2,h3,Reps.mono e ds xs h4⟩
 | .obj C ks ds,v,h=>by
  rw [Rep] at *
  obtain ⟨a,dx,xs,h1,h2,h3,h4⟩:=h
  exact ⟨a,dx,xs,h1,e _ _ h2,h3,Reps.mono e ds xs h4⟩
 | .scr φ ns,v,h=>by
  rw [Rep] at *
  obtain ⟨a,h1,h2⟩:=h
  refine ⟨a,h1,?_⟩
  rcases h2 with ⟨o,h2⟩ | h2
  ·exact .inl ⟨o,e _ _ h2⟩
  ·exact .inr h2
 | .ext φ,v,h=>by
  rw [Rep] at *
  obtain ⟨a,H0,h1,h2,h3⟩:=h
  exact ⟨a,H0,h1,λb o q=>e _ _ (h2 b o q),h3⟩
theorem Reps.mono {H H':Hp} (e:aB H H'):∀ (ds:List D) (xs:List V),Reps H ds xs->Reps H' ds xs
 | [],xs,h=>by rw [Reps] at *; exact h
 | d :: ds,xs,h=>by
  rw [Reps] at *
  obtain ⟨v,vs,h1,h2,h3⟩:=h
  exact ⟨v,vs,h1,Rep.mono e d v h2,Reps.mono e ds vs h3⟩
end
def D.ty:D->String
 | .non => "NoneType" | .bl _ => "bool" | .int _ => "int" | .str _ => "str" | .tup _ => "tuple" | .lst _ => "list" | .dct => "dict" | .dic _ _ => "dict" | .obj _ _ _ => "object" | .scr _ _ => "list" | .ext _ => "object"
def D.isS:D->Bool
 | .scr _ _=>true
 | .ext _=>true
 | .obj _ _ _=>true
 | _=>false
theorem Rep.ty {K:PySem.W.Frag} {H:Hp} {d:D} {v:V} (h:Rep H d v) (hs:d.isS=false):TyOf K H v (.type d.ty):=by
 cases d with
 | non=>rw [Rep] at h; subst h; exact .non
 | bl b=>rw [Rep] at h; subst h; exact .bl b
 | int i=>rw [Rep] at h; subst h; exact .int i
 | str x=>rw [Rep] at h; subst h; exact .str x
 | tup ds=>rw [Rep] at h; obtain ⟨a,xs,rfl,h2,_⟩:=h; exact .tup h2
 | lst ds=>rw [Rep] at h; obtain ⟨a,xs,rfl,h2,_⟩:=h; exact .lst h2
 | dct=>rw [Rep] at h; obtain ⟨a,kvs,rfl,h2⟩:=h; exact .dK h2
 | dic ks ds=>rw [Rep] at h; obtain ⟨a,xs,rfl,h2,_⟩:=h; exact .dK h2
 | scr φ ns=>cases hs
 | ext φ=>cases hs
 | obj C ks ds=>cases hs
theorem d_ {H:Hp}:∀ {ds:List D} {xs:List V} {r:Nat},Reps H ds xs->r<ds.length->∃ v d,xs[r]? = some v/\ds[r]? = some d/\Rep H d v
 | [],_,_,_,h=>absurd h (Nat.not_lt_zero _)
 | d :: ds,xs,0,h,_=>by obtain ⟨v,vs,rfl,h1,_⟩:=h; exact ⟨v,d,rfl,rfl,h1⟩
 | d :: ds,xs,r + 1,h,hl=>by
  obtain ⟨v,vs,rfl,_,h2⟩:=h
  obtain ⟨v',d',e1,e2,e3⟩:=d_ (r:=r) h2 (by simpa using hl)
  exact ⟨v',d',by simpa using e1,by simpa using e2,e3⟩
theorem ld {H:Hp} {a:Addr} {xs:List V} {ds:List D} (h:H a=some (.tup xs)) (r:Reps H ds xs):Rep H (.tup ds) (.ref a):=by rw [Rep]; exact ⟨a,xs,rfl,h,r⟩
theorem eX {H:Hp} {a:Addr} {xs:List V} {ds:List D} (h:H a=some (.lst xs)) (r:Reps H ds xs):Rep H (.lst ds) (.ref a):=by rw [Rep]; exact ⟨a,xs,rfl,h,r⟩
theorem bj {H:Hp}:Reps H [] []:=by rw [Reps]
theorem bc {H:Hp} {d:D} {v:V} {ds:List D} {vs:List V} (h:Rep H d v) (r:Reps H ds vs):Reps H (d :: ds) (v :: vs):=by rw [Reps]; exact ⟨v,vs,rfl,h,r⟩
theorem bq {H:Hp} (i:Int):Rep H (.int i) (.int i):=by rw [Rep]
theorem bZ {H:Hp} (i:Bool):Rep H (.bl i) (.bl i):=by rw [Rep]
theorem qg {H:Hp}:Rep H .non .non:=by rw [Rep]
theorem oY {H:Hp} {p:Addr} (h:H p=none) (o:HO):aB H (upd H p o):=λb u q=>by rw [ah (av q h)]; exact q
section
variable {X:Cx}
def lF (d:D) (T:String):Option Bool:=if d.isS=true then none else if (Value.type d.ty == Value.type T)=true then some true else if PySem.W.kitMeta T=true then (fastBuiltinMro d.ty).map (·.contains (.type T)) else none
theorem nM (K:PySem.W.Frag) (d:D) (T:String) (hs:d.isS=false):PySem.W.kitOne K (.type d.ty) (.type T)=lF d T:=by
 unfold lF; rw [hs,if_neg (by decide)]; rfl
def rIsI:List V->Hp->VK->Prop:=λxs H Q=>∃ x T d b,xs=[x,.ty T]/\Rep H d x/\lF d T=some b/\Q (.bl b) H
theorem jE:cL X (.builtin "isinstance") rIsI:=by
 intro pins s σ H xs us Q I r h
 obtain ⟨x,T,d,b,rfl,hd,e,q⟩:=h
 obtain ⟨u,w',rfl,ru,rw'⟩:=mT r
 cases (show w'=Value.type T from rw')
 have hs:d.isS=false:=by
  cases z:d.isS with
  | false=>rfl
  | true=>unfold lF at e; rw [z,if_pos rfl] at e; cases e
 rw [<- nM X.K d T hs] at e
 exact lK I ru (hd.ty hs) e λtk=>⟨.bl b,H,I.tok tk,rfl,q⟩
def Sm (i:Int):Prop:=i.natAbs<2 ^ 8000
theorem Sm.log {i:Int} (h:Sm i):i.natAbs.log2<8000:=by
 by_cases h0:i.natAbs=0
 ·rw [h0]; decide
 ·exact (Nat.log2_lt h0).mpr h
def CDivB (i j:Int):Prop:=0<j/\Sm j
theorem mH:OpR X (binaryOp .FloorDiv) (rI CDivB λi j=>.int (i / j)):=opI λi j _ _ _ _ _ hc q=>by
 refine floordiv_int (Int.ne_of_gt hc.1) ?_ (.inl (PyProof.noPylong_of_log2 (Nat.lt_of_lt_of_le hc.2.log (by decide))))
 rw [Int.fdiv_eq_ediv_of_nonneg _ (Int.le_of_lt hc.1)]
 exact q
end
theorem bw:bootBuiltins "len" = some (.builtin "len"):=by decide +kernel
theorem oZ:bootBuiltins "max" = some (.builtin "max"):=by decide +kernel
theorem eO:bootBuiltins "min" = some (.builtin "min"):=by decide +kernel
theorem aP:bootBuiltins "isinstance" = some (.builtin "isinstance"):=by decide +kernel
theorem cD:bootBuiltins "sorted" = some (.builtin "sorted"):=by decide +kernel
theorem rc:bootBuiltins "any" = some (.builtin "any"):=by decide +kernel
theorem s_:bootBuiltins "int" = some (.type "int"):=by decide +kernel
theorem lq:bootBuiltins "bool" = some (.type "bool"):=by decide +kernel
theorem gv:bootBuiltins "tuple" = some (.type "tuple"):=by decide +kernel
theorem bE:bootBuiltins "list" = some (.type "list"):=by decide +kernel
theorem iI:bootBuiltins "enumerate" = some (.type "enumerate"):=by decide +kernel
section
variable {X:Cx} {pins:List (Addr×Obj)} {σ:St} {H:Hp} {s:Shared} {pos:Pos}
end
end L2
namespace L2
open PySem
theorem dE {i:Int} {n:Nat} (h:i.natAbs<=n) (hn:n<2 ^ 8000):Sm i:=Nat.lt_of_le_of_lt h hn
end L2
namespace L2
open PySem PySem.Spec PyProof.Rows
def CL (env:Env):List (Str×Addr)->Prop
 | []=>True
 | p :: r=>env.cells.lookup p.1=some p.2/\CL env r
theorem CL.get {env:Env}:∀ {cl:List (Str×Addr)},CL env cl->∀ {x:Str} {c:Addr},cl.lookup x=some c->env.cells.lookup x=some c
 | [],_,x,c,h=>by simp at h
 | (y,d) :: r,h,x,c,e=>by
  rw [List.lookup_cons] at e
  cases hx:x == y with
  | true =>
   rw [hx] at e
   have e1:x=y:=by simpa using hx
   have e2:d=c:=Option.some.inj e
   subst e1 e2
   exact h.1
  | false =>
   rw [hx] at e
   exact CL.get h.2 e
theorem dM {env:Env}:∀ {names:List (Str×NameKind)} {x:Str} {k:NameKind},
 (names.map λ(n,k)=>if (k == NameKind.free&&env.scope.kind == .function&&env.kindOf n == some .cell) then (n,NameKind.cell) else (n,k)).lookup x=some k ->
 ∃ k',names.lookup x=some k'/\(k'=k\/(k' = .free/\k = .cell))
 | [],x,k,h=>by simp at h
 | (n,kn) :: r,x,k,h=>by
  have ih:=@dM env r x k
  by_cases hc:(kn == NameKind.free&&env.scope.kind == .function&&env.kindOf n == some .cell)=true
  ·have h':List.lookup x ((n,NameKind.cell) :: (r.map λ(n,k)=>if (k == NameKind.free&&env.scope.kind == .function&&env.kindOf n == some .cell) then (n,NameKind.cell) else (n,k)))=some k:=by
    rw [List.map_cons] at h
    simp only [hc,if_true] at h
    exact h
   rw [List.lookup_cons] at h' ⊢
   cases hx:x == n with
   | true =>
    rw [hx] at h'
    have:kn = .free:=by
     simp only [Bool.and_eq_true,beq_iff_eq] at hc
     exact hc.1.1
    exact ⟨kn,rfl,.inr ⟨this,(Option.some.inj h').symm⟩⟩
   | false=>rw [hx] at h'; exact ih h'
  ·have h':List.lookup x ((n,kn) :: (r.map λ(n,k)=>if (k == NameKind.free&&env.scope.kind == .function&&env.kindOf n == some .cell) then (n,NameKind.cell) else (n,k)))=some k:=by
    rw [List.map_cons] at h
    simp only [hc] at h
    exact h
   rw [List.lookup_cons] at h' ⊢
   cases hx:x == n with
   | true=>rw [hx] at h'; exact ⟨kn,rfl,.inl (Option.some.inj h')⟩
   | false=>rw [hx] at h'; exact ih h'
def bp (X:Cx) (scope:Scope) (cl:List (Str×Addr)) (N:List Str) (C:Addr) (s₀:Shared) (H₀:Hp) (ex:List Addr):Cx where
 prog:=X.prog
 w:=X.w
 K:=X.K
 mg:=X.mg
 base:=X.base
 A:=X.A
 N:=N
 s₀:=s₀
 H₀:=H₀
 env:=compEnvC scope cl C X.env
 outer:=X.stack
 stack:=X.stack
 ex:=ex
 fn:=λ_=>false
 calm:=X.calm
 pn:=[]
 xe:=λ_ _=>False
def okJ (X:Cx) (scope:Scope) (j:Nat):Bool:=match X.N[j]? with
 | some x=>(match X.env.scope.names.lookup x with | some .cell=>true | _=>false)&&(match scope.names.lookup x with | some .free=>true | _=>false)
 | none=>false
def bA (own:List Str) (js:List Nat) (σ:St):St:=own.map (λ_=>none)++js.map λj=>(σ[j]?).getD none
def bL (X:Cx) (own:List Str) (js:List Nat):List Str:=own++js.map λj=>(X.N[j]?).getD (Str.ofString "")
structure CompOk (X:Cx) (scope:Scope) (cl:List (Str×Addr)) (own:List Str) (js:List Nat):Prop where
 clos:closureFor scope X.env=pure cl
 kind:scope.kind = .function
 names:∀ x∈scope.names,x.2 = .local->scope.names.lookup x.1=some .local
 ncell:(scope.names.all λy=>match y.2 with | .cell=>false | _=>true)=true
 has:(scope.names.all λy=>match y.2 with | .free=>(cl.lookup y.1).isSome | _=>true)=true
 cells:CL X.env cl
 js:js.all (okJ X scope)=true
theorem CompOk.nc {X:Cx} {scope:Scope} {cl:List (Str×Addr)} {own:List Str} {js:List Nat} (c:CompOk X scope cl own js):∀ y∈scope.names,y.2≠.cell:=λy hy e=>by
 have:=List.all_eq_true.mp c.ncell y hy
 rw [e] at this
 cases this
theorem CompOk.fr {X:Cx} {scope:Scope} {cl:List (Str×Addr)} {own:List Str} {js:List Nat} (c:CompOk X scope cl own js) {x:Str} (h:scope.names.lookup x=some .free):∃ d,cl.lookup x=some d:=by
 have:=List.all_eq_true.mp c.has (x,.free) (PySem.mem_of_lookup h)
 exact Option.isSome_iff_exists.mp this
section
variable {X:Cx} {pins:List (Addr×Obj)} {σ:St} {H:Hp} {s:Shared} {scope:Scope} {cl:List (Str×Addr)} {own:List Str} {js:List Nat}
theorem ki {h1:Heap} {C:Addr} {fp:List Addr} {t':Nat} (c:CompOk X scope cl own js) (I:Inv X pins σ H s) (hf:∀ b∈fp,f_ X pins H b) (hlt:∀ b∈fp,b<s.heap.objs.size)
 (hC:s.heap.objs.size<=C) (hk:∀ b o,s.heap.get? b=some o->h1.get? b=some o) (hn:h1.Ns C λ_=>none) :
 Inv (bp X scope cl (bL X own js) C s H fp) [] (bA own js σ) H { s with heap:=h1,toks:=t' }:=by
 have kindOfY:∀ x k,(bp X scope cl (bL X own js) C s H fp).env.kindOf x=some k->∃ k',scope.names.lookup x=some k'/\(k'=k\/(k' = .free/\k = .cell)):=λx k e=>dM (env:=X.env) (names:=scope.names) e
 refine ⟨⟨I.ok.mod,c.kind,I.ok.glob,I.ok.blt,hC,λx y d h1 h2=>I.ok.inj x y d (c.cells.get h1) (c.cells.get h2),λx hx=>?_,λx d h=>(by cases h),I.ok.hd,I.ok.frames,.inl rfl,λb hb=>⟨?_,λx d e=>(hf b hb).2.2.2.2.1 x d (c.cells.get e)⟩,
  λb o e=>I.bs b o e,Nat.le_trans I.ok.bsz I.sz,λb o e hb=>?_,λb hb z=>?_,I.stack,I.stkFree,I.ok.tb.un I.base⟩,rfl,I.bare,Un.kept hk,⟨_,hn,λi x v e1 e2 e3=>?_⟩,λx d e=>?_,I.hok.fresh hC,λx d e=>I.freeC x d (c.cells.get e),λp hp=>(by cases hp),I.hok.kept hk,?_⟩
 ·rcases hx with hx | hx
  ·obtain ⟨k',e1,e2⟩:=kindOfY x _ hx
   rcases e2 with e2 | ⟨e2,_⟩
   ·exact absurd e2 (c.nc _ (PySem.mem_of_lookup e1))
   ·subst e2; exact c.fr e1
  ·obtain ⟨k',e1,e2⟩:=kindOfY x _ hx
   rcases e2 with e2 | ⟨_,e2⟩
   ·subst e2; exact c.fr e1
   ·cases e2
 ·exact Nat.ne_of_lt (Nat.lt_of_lt_of_le (hlt b hb) hC)
 ·rcases (hf b hb).2.2.2.1 with z | z
  ·exact I.ok.noex b o e z
  ·exact absurd (Nat.lt_of_lt_of_le (Heap.lt_size e) (Nat.le_trans I.ok.bsz z)) (Nat.lt_irrefl _)
 ·rcases List.mem_cons.mp (I.stkSub b z) with q | q
  ·exact (hf b hb).2.1 q
  ·exact (hf b hb).2.2.1 q
 ·-- a name taken from the frame
  have e1:(bL X own js)[i]? = some x:=e1
  unfold bL at e1
  unfold bA at e2
  by_cases hi:i<own.length
  ·rw [List.getElem?_append_left (by simpa using hi),List.getElem?_map,List.getElem?_eq_getElem hi] at e2
   cases e2
  ·rw [List.getElem?_append_right (by simpa using Nat.not_lt.mp hi),List.getElem?_map,List.length_map] at e2
   rw [List.getElem?_append_right (Nat.not_lt.mp hi),List.getElem?_map] at e1
   cases ej:js[i - own.length]? with
   | none=>rw [ej] at e2; cases e2
   | some j =>
    rw [ej] at e1 e2
    have hj:=List.all_eq_true.mp c.js j (List.mem_of_getElem? ej)
    unfold okJ at hj
    have e1':(X.N[j]?).getD (Str.ofString "")=x:=Option.some.inj e1
    have e2':(σ[j]?).getD none=some v:=Option.some.inj e2
    cases en:X.N[j]? with
    | none=>rw [en] at hj; cases hj
    | some y =>
     rw [en] at hj e1'
     have e1'':y=x:=e1'
     subst e1''
     have hv : σ[j]? = some (some v):=by
      cases es : σ[j]? with
      | none=>rw [es] at e2'; cases e2'
      | some ov=>rw [es] at e2'; rw [show ov=some v from e2']
     dsimp only at hj
     rw [Bool.and_eq_true] at hj
     have k1:X.env.scope.names.lookup y=some .cell:=by
      have:=hj.1
      split at this
      ·assumption
      ·cases this
     have k2:scope.names.lookup y=some .free:=by
      have:=hj.2
      split at this
      ·assumption
      ·cases this
     obtain ⟨m,_,hl⟩:=I.loc
     obtain ⟨u,ru,l⟩:=hl j y v en hv (.inr (.inl k1))
     refine ⟨u,ru,?_⟩
     rcases l with ⟨l,_⟩ | ⟨_,d,ed,z⟩
     ·rw [show X.env.kindOf y=some .cell from k1] at l; cases l
     ·obtain ⟨d',ed'⟩:=c.fr k2
      have:=c.cells.get ed'
      rw [ed] at this
      cases this
      obtain ⟨o,ho,hd⟩:=z
      refine .inr ⟨?_,d,ed',⟨o,hk _ _ ho,hd⟩⟩
      have e3:(bp X scope cl (bL X own js) C s H fp).env.scope.names.lookup y=some .local\/(bp X scope cl (bL X own js) C s H fp).env.scope.names.lookup y=some .cell\/(bp X scope cl (bL X own js) C s H fp).env.scope.names.lookup y=some .free:=e3
      rcases e3 with e3 | e3 | e3
      ·obtain ⟨k',q1,q2⟩:=kindOfY y _ e3
       rw [k2] at q1
       cases q1
       rcases q2 with q2 | ⟨_,q2⟩ <;> cases q2
      ·exact .inl e3
      ·exact .inr e3
 ·obtain ⟨v,o,ho,hd⟩:=I.cell x d (c.cells.get e)
  exact ⟨v,o,hk _ _ ho,hd⟩
 ·show (bA own js σ).length=(bL X own js).length
  unfold bA bL
  simp
structure PIf (X:Cx) (ifs:List Expr) (t:TT):Prop where
 go:∀ (pins:List (Addr×Obj)) (s:Shared) (σ:St) (H:Hp) (Q:Bool->Hp->Prop),Inv X pins σ H s->t σ H Q ->
  wpAny (model X.prog X.w) X.A (forIn ifs true λc r=>if r=true then do let ok <- isTrue c X.env (eval c X.env); pure (ForInStep.yield ok) else pure (ForInStep.yield r)) (TP X pins σ Q) X.xe s
def tYes:TT:=λ_ H Q=>Q true H
theorem qr:PIf X [] tYes:=⟨λpins s σ H Q I h=>wpAny_tests_nil ⟨H,I,h⟩⟩
theorem pT {c:Expr} {t:TT} (h:PT X c t):PIf X [c] t:=⟨λpins s σ H Q I q=>wpAny_tests_one (h.go pins s σ H Q I q)⟩
theorem eG {prog:Program} {w:World} {A:Around} {R:Result->Shared->Prop} {s:Shared} {elt target iter:Expr} {ifs:List Expr} {scope:Scope} {pos:Pos} {it acc:Value} {env:Env} (I:Nat->Shared->Prop)
 (turn:∀ n s,I n s->wpAny (model prog w) A (pyNext it) (λr s₁=>match r with
  | none=>R (.ok .next) s₁
  | some v=>wpAny (model prog w) A (letOwnedTupleGo target it v) (λ_ s₁=>wpAny (model prog w) A (assign target env v) (λ_ s₂ =>
   wpAny (model prog w) A (forIn ifs true λc r=>if r=true then do let ok <- isTrue c env (eval c env); pure (ForInStep.yield ok) else pure (ForInStep.yield r)) (λok s₃ =>
    if ok=true then wpAny (model prog w) A (eval elt env) (λx s₄ =>
     wpAny (model prog w) A (call (.builtin "list.append") [acc,x]) (λ_ s₅=>∃ m,m<n/\I m s₅) (λ_ _=>False) s₄) (λ_ _=>False) s₃
    else ∃ m,m<n/\I m s₃) (λ_ _=>False) s₂) (λ_ _=>False) s₁) (λ_ _=>False) s₁) (λ_ _=>False) s)
 (n:Nat) (h:I n s) :
 codeAny (model prog w) A (.compLoop (.ListComp elt [⟨target,iter,ifs,0⟩] scope pos) 0 it acc env) R s:=by
 refine codeAny_loop rfl I (λn s hI=>?_) n h
 show wpAny _ A ((compTurn (.ListComp elt [⟨target,iter,ifs,0⟩] scope pos) 0 it acc env).onRaise (λx=>do noteFrame x env; theTreesLotGoes x)) _ _ s
 refine wpAny_noted ?_
 rw [compTurn_list]
 refine wpAny_bind (wpAny_standAt (wpAny_bind (wpAny_mono (turn n s hI) (λr s₁ h₁=>?_) λ_ _ h'=>h'.elim)))
 cases r with
 | none=>exact wpAny_pure h₁
 | some v =>
  refine wpAny_bind (wpAny_mono h₁ (λ_ s₁ h₁=>?_) λ_ _ h'=>h'.elim)
  refine wpAny_bind (wpAny_mono h₁ (λ_ s₂ h₂=>wpAny_bind (wpAny_mono h₂ (λok s₃ h₃=>?_) λ_ _ h'=>h'.elim)) λ_ _ h'=>h'.elim)
  cases ok with
  | false=>exact wpAny_pure ⟨rfl,h₃⟩
  | true =>
   exact wpAny_bind (wpAny_bind (wpAny_mono h₃ (λx s₄ h₄=>wpAny_bind (wpAny_mono h₄ (λ_ s₅ h₅=>wpAny_pure (wpAny_pure ⟨rfl,h₅⟩)) λ_ _ h'=>h'.elim)) λ_ _ h'=>h'.elim))
def kept:St->St->Prop
 | [],[]=>True
 | none :: r,_ :: r'=>kept r r'
 | some v :: r,y :: r'=>y=some v/\kept r r'
 | [],_ :: _=>False
 | _ :: _,[]=>False
theorem e5:∀ {a b:St},kept a b->a.length=b.length
 | [],[],_=>rfl
 | none :: r,_ :: r',h=>congrArg (· + 1) (e5 (a:=r) (b:=r') h)
 | some v :: r,y :: r',h=>congrArg (· + 1) (e5 (a:=r) (b:=r') h.2)
 | [],_ :: _,h=>False.elim h
 | none :: _,[],h=>False.elim h
 | some _ :: _,[],h=>False.elim h
theorem dJ:∀ {a b:St},kept a b->∀ (i:Nat) (v:V),a[i]? = some (some v)->b[i]? = some (some v)
 | [],[],_,i,v,e=>by simp at e
 | none :: r,_ :: r',h,0,v,e=>by simp at e
 | none :: r,_ :: r',h,i + 1,v,e=>by simpa using dJ (a:=r) (b:=r') h i v (by simpa using e)
 | some w :: r,y :: r',h,0,v,e=>by simp at e; subst e; simp [h.1]
 | some w :: r,y :: r',h,i + 1,v,e=>by simpa using dJ (a:=r) (b:=r') h.2 i v (by simpa using e)
 | [],_ :: _,h,_,_,_=>False.elim h
 | none :: _,[],h,_,_,_=>False.elim h
 | some _ :: _,[],h,_,_,_=>False.elim h
def kN (J:It) (g:TG) (tt:TT) (te:TE) (σ0:St) (H:Hp) (Z:List V->Hp->Prop):Prop :=
 ∃ W:Nat->Nat->List V->Hp->Prop,(∃ m,W 0 m [] H)/\∀ i m acc H,W i m acc H ->
  (J.stop i H/\acc.length<=sizeLine/\Z acc H)\/(J.go i H/\acc.length<sizeLine/\∃ N:List V->Hp->Prop,(∀ acc' H',N acc' H'->∃ m',m'<m/\W (i + 1) m' acc' H') /\
   ∀ x H',J.yld i H x H'->g x σ0 H' λσ2 H2=>kept σ0 σ2/\tt σ2 H2 λb H3=>if b=true then te σ2 H3 λv H4=>N (acc++[v]) H4 else N acc H3)
theorem HOk.adopt {P:Program} {w:World} {H:Hp} {h:Heap} {a:Addr} {o:HO} (x:HOk P w H h) (hn:H a=none) (new:bn P w (upd H a o) h a o):HOk P w (upd H a o) h:=λb u e=>by
 by_cases hb:b=a
 ·subst hb; rw [ay] at e; cases e; exact new
 ·rw [ah hb] at e
  exact (x b u e).stay (λc v _ q=>q) (λc q=>by rw [ah (av q hn)]; exact q) (λc xs q=>by rw [ah (av q hn)]; exact q) λc ob u q=>by rw [ah (av q hn)]; exact q
theorem ip {elt tg iter:Expr} {ifs:List Expr} {pos:Pos} {J:It} {fp:List Addr} {it:Addr} {tn:Nat->Heap->Prop} {g:TG} {tt:TT} {te:TE} {Z:List V->Hp->Prop} {E:Value->Shared->Prop}
 {RR:Value->Addr->Result->Shared->Prop} (c:CompOk X scope cl own js) (hc:X.calm=true) (I:Inv X pins σ H s) (T:Turn X.prog X.w X.K tg J fp it tn) (t0:tn 0 s.heap) (hf:∀ b∈fp,f_ X pins H b)
 (inner:∀ (C:Addr) (s₀:Shared) (H₀:Hp) (ex:List Addr),PG (bp X scope cl (bL X own js) C s₀ H₀ ex) tg g/\PIf (bp X scope cl (bL X own js) C s₀ H₀ ex) ifs tt/\PE (bp X scope cl (bL X own js) C s₀ H₀ ex) elt te)
 (hW:kN J g tt te (bA own js σ) H Z)
 (hRR:∀ (D C:Addr) (s':Shared) (acc:List V) (H':Hp),(∃ m,s'.heap.Ns C m)->H' D=none->Z acc H'->s.heap.objs.size<=C->C≠X.env.locals->(upd H' D (.lst acc)) C=none->(∀ h',Heap.SameBut C s'.heap h'->Inv X pins σ (upd H' D (.lst acc)) { s' with heap:=h' })->RR (.ref D) C (.ok .next) s') :
 wpAny (model X.prog X.w) X.A (newList []) (λacc s₃=>wpAny (model X.prog X.w) X.A (newFunctionEnv scope X.env.globals cl [] X.env.qual none .none (some X.env)) (λcenv s₄ =>
  codeAny (model X.prog X.w) X.A (.compStart (.ListComp elt [⟨tg,iter,ifs,0⟩] scope pos) 0 (.ref it) acc { cenv with scope:=relabel scope X.env }) (RR acc cenv.locals) s₄) E s₃) E s:=by
 refine wpAny_newObj_type (wpAny_newFunctionEnv c.nc (by intro y hy; simp at hy) (λh₁ hns₁ hsb₁=>?_) c.kind)
 dsimp only at hns₁ hsb₁ ⊢
 generalize hH2:s.heap.push { cls:=.type "list",dict:=none,data:=.seq ([]:List Value).toArray } = H2 at hns₁ hsb₁ ⊢
 have hCs:H2.objs.size=s.heap.objs.size + 1:=by rw [<- hH2,Heap.size_push]
 have hns₁:h₁.Ns H2.objs.size (λ_=>none):=hns₁
 have hCle:s.heap.objs.size<=H2.objs.size:=by rw [hCs]; exact Nat.le_succ _
 have hDC:s.heap.objs.size≠H2.objs.size:=by rw [hCs]; exact Nat.ne_of_lt (Nat.lt_succ_self _)
 have below:∀ b,b<s.heap.objs.size->b≠H2.objs.size/\b≠s.heap.objs.size:=λb hb=>⟨by rw [hCs]; exact Nat.ne_of_lt (Nat.lt_succ_of_lt hb),Nat.ne_of_lt hb⟩
 have old:∀ b o,s.heap.get? b=some o->h₁.get? b=some o:=λb o e=>hsb₁.extBut b o (below b (Heap.lt_size e)).1 (Heap.get?_push_of_some _ (hH2 ▸ Heap.get?_push_of_some _ e))
 have hD1:h₁.get? s.heap.objs.size=some { cls:=.type "list",data:=.seq ([]:List Value).toArray }:=hsb₁.extBut _ _ hDC (Heap.get?_push_of_some _ (hH2 ▸ Heap.get?_push_size _ rfl))
 have hlt:∀ b∈fp,b<s.heap.objs.size:=λb hb=>by
  obtain ⟨o,e,_⟩:=T.obj 0 _ t0 b hb
  exact Heap.lt_size e
 have hCL:H2.objs.size≠X.env.locals:=λz=>absurd (Nat.lt_of_lt_of_le I.lt (by rw [<- z]; exact hCle)) (Nat.lt_irrefl _)
 have hDfs:s.heap.objs.size ∉ frs X.stack:=λz=>by
  rcases List.mem_cons.mp (I.stkSub _ z) with q | q
  ·exact absurd I.lt (by rw [<- q]; exact Nat.lt_irrefl _)
  ·exact I.nofs (Nat.le_refl _) q
 have hfs:∀ b∈fp,b ∉ frs X.stack:=λb hb z=>by
  rcases List.mem_cons.mp (I.stkSub b z) with q | q
  ·exact (hf b hb).2.1 q
  ·exact (hf b hb).2.2.1 q
 have hDcell:∀ x d,cl.lookup x=some d->d≠s.heap.objs.size:=λx d e=>by
  obtain ⟨v,q⟩:=I.cell x d (c.cells.get e)
  exact Nat.ne_of_lt q.lt
 have fresh:H s.heap.objs.size=none:=I.hok.fresh (Nat.le_refl _)
 obtain ⟨W,⟨m0,w0⟩,turn⟩:=hW
 have loop:∀ s₃:Shared,s₃ = { s with heap:=h₁,toks:=s.toks + ([]:List (Str×Value)).length } ->
  codeAny (model X.prog X.w) X.A (.compLoop (.ListComp elt [⟨tg,iter,ifs,0⟩] scope pos) 0 (.ref it) (.ref s.heap.objs.size) (compEnvC scope cl H2.objs.size X.env)) (RR (.ref s.heap.objs.size) H2.objs.size) s₃:=by
  rintro s₃ rfl
  have I0:=ki (t':=s.toks + ([]:List (Str×Value)).length) c I hf hlt hCle old hns₁
  obtain ⟨hg,hi,he⟩:=inner H2.objs.size s H fp
  generalize hY:bp X scope cl (bL X own js) H2.objs.size s H fp=Y at I0 hg hi he
  have Yp:Y.prog=X.prog:=by rw [<- hY]; rfl
  have Yw:Y.w=X.w:=by rw [<- hY]; rfl
  have YK:Y.K=X.K:=by rw [<- hY]; rfl
  have YA:Y.A=X.A:=by rw [<- hY]; rfl
  have Ye:Y.env=compEnvC scope cl H2.objs.size X.env:=by rw [<- hY]; rfl
  have Yl:Y.env.locals=H2.objs.size:=by rw [<- hY]; rfl
  have Yc:Y.env.cells=cl:=by rw [<- hY]; rfl
  have Yf:Y.fs=frs X.stack:=by rw [<- hY]; rfl
  have Yx:Y.ex=fp:=by rw [<- hY]; rfl
  have Ys:Y.s₀=s:=by rw [<- hY]; rfl
  have YH:Y.H₀=H:=by rw [<- hY]; rfl
  have Yn:Y.pn=[]:=by rw [<- hY]; rfl
  have Yo:Y.calm=true:=by rw [<- hY]; exact hc
  have YE:Y.xe=λ_ _=>False:=by rw [<- hY]; rfl
  have fpY:∀ {H':Hp} (pn:List (Addr×Obj)),(∀ b∈fp,H' b=none)->(∀ b∈fp,∀ p∈pn,p.1≠b)->∀ b∈fp,f_ Y pn H' b:=λpn hn hp b hb =>
   ⟨hn b hb,by rw [Yl]; exact (below b (hlt b hb)).1,by rw [Yf]; exact hfs b hb,.inl (by rw [Yx]; exact hb),λx d e=>(hf b hb).2.2.2.2.1 x d (c.cells.get (by rw [<- Yc]; exact e)),λp hp'=>hp b hb p (by rw [Yn] at hp'; exact hp')⟩
  refine eG (λn s'=>∃ i acc its k H',Inv Y [] (bA own js σ) H' s'/\tn i s'.heap/\(∀ b∈fp,H' b=none)/\W i n acc H'/\H' s.heap.objs.size=none/\s'.heap.get? s.heap.objs.size=some { cls:=.type "list",data:=.seq (its:List Value).toArray k }/\aH acc its) ?_ m0
   ⟨0,[],[],0,H,I0,T.keep 0 _ _ t0 (λb hb o e=>old b o e),λb hb=>(hf b hb).1,w0,fresh,hD1,.nil⟩
  rintro n s' ⟨i,acc,its,k,H',I',tn',fr',w',hD',oD',hv'⟩
  have hpinD:∀ b∈fp,∀ p∈[(s.heap.objs.size,({ cls:=.type "list",data:=.seq its.toArray k }:Obj))],p.1≠b:=λb hb p hp=>by
   rw [List.mem_singleton] at hp
   subst hp
   exact λz=>(below b (hlt b hb)).2 z.symm
  have ID:Inv Y [(s.heap.objs.size,({ cls:=.type "list",data:=.seq its.toArray k }:Obj))] (bA own js σ) H' s':=I'.pins_of λp hp=>by
   rw [List.mem_singleton] at hp
   subst hp
   exact ⟨oD',hD',by rw [Yl]; exact hDC,by rw [Yf]; exact hDfs,λv z=>by cases z⟩
  rcases turn i n acc H' w' with ⟨stop,hlen,hz⟩ | ⟨go,hlen,N,hN,step⟩
  ·have hd:=T.done Y Yp Yw YK Yo i _ s' (bA own js σ) H' (λ_ _=>False) ID (fpY _ fr' hpinD) tn' stop
   rw [YA] at hd
   refine thn hd λr s1 ⟨hr,I1⟩=>?_
   subst hr
   obtain ⟨oD1,_⟩:=I1.pin _ (List.mem_append_right _ (List.mem_singleton.mpr rfl))
   have hC0:H' H2.objs.size=none:=by have:=I1.free; rw [Yl] at this; exact this
   have B1:Un (frs X.stack) fp H H' s.heap s1.heap:=by have:=I1.base; rw [Yf,Yx,YH,Ys] at this; exact this
   refine hRR s.heap.objs.size H2.objs.size s1 acc H' (by obtain ⟨m,hn,_⟩:=I1.loc; rw [Yl] at hn; exact ⟨m,hn⟩) hD' hz hCle hCL (by rw [ah (Ne.symm hDC)]; exact hC0) λh' hsb=>?_
   have at':∀ b o,b≠H2.objs.size->s1.heap.get? b=some o->h'.get? b=some o:=λb o hb e=>by rw [hsb.2 b hb]; exact e
   refine I.call' (s':={ s1 with heap:=h' }) (ch:=fp) (by have:=I1.os; rw [Ys] at this; exact this) ⟨λb o q nn hb hx=>?_,λb o q nn hb hx=>?_,λb o q nn hx=>?_,λb o q hx=>?_,λb xs q=>?_,λb o u q=>?_,λb ps q0 q=>?_⟩ ?_ I1.bare λb hb=>⟨(hf b hb).2.2.2.1,(hf b hb).2.1,(hf b hb).2.2.2.2.1,(hf b hb).2.2.2.2.2⟩
   ·exact at' b o (below b (Heap.lt_size q)).1 (B1.keep b o q nn hb hx)
   ·obtain ⟨sl,e⟩:=B1.slot b o q nn hb hx
    exact ⟨sl,at' b _ (below b (Heap.lt_size q)).1 e⟩
   ·rw [ah (below b (Heap.lt_size q)).2]; exact B1.free b o q nn hx
   ·obtain ⟨o',e⟩:=B1.there b o q hx
    exact ⟨o',at' b _ (below b (Heap.lt_size q)).1 e⟩
   ·have q':=B1.tups b xs q
    rw [ah (av q' hD')]; exact q'
   ·have q':=B1.frzs b o u q
    rw [ah (av q' hD')]; exact q'
   ·obtain ⟨more,q'⟩:=B1.tbls b ps _ q
    exact ⟨more,by rw [ah (av q' hD')]; exact q'⟩
   ·have hok1:HOk X.prog X.w H' h':=λa o e=>by
     have hok:=I1.hok
     rw [Yp,Yw] at hok
     refine (hok a o e).stay (λb u hb q=>at' b u ?_ q) (λ_ q=>q) (λ_ _ q=>q) λ_ _ _ q=>q
     rcases hb with rfl | hb
     ·exact av e hC0
     ·exact av hb hC0
    exact hok1.adopt hD' ⟨hlen,its,k,hv',at' _ _ hDC oD1⟩
  ·have hd:=T.item Y Yp Yw YK Yo i _ s' (bA own js σ) H' (λ_ _=>False) ID (fpY _ fr' hpinD) tn' go
   rw [YA] at hd
   refine thn hd λr s1 ⟨u,hr,h4⟩=>?_
   subst hr
   have h4:=h4
   refine thn h4 λ_ s2 ⟨x,H5,I5,r5,y5,tn5,fr5⟩=>?_
   have I5':=I5.pinned (fpY _ fr5 hpinD) (T.obj _ _ tn5)
   have hg':=hg.go _ s2 _ H5 x u _ I5' r5 (step x H5 y5)
   rw [Yp,Yw,YA,Ye,YE] at hg'
   refine thn hg' λ_ s3 ⟨σ6,H6,I6,kp6,q6⟩=>?_
   have hi':=hi.go _ s3 σ6 H6 _ I6 q6
   rw [Yp,Yw,YA,Ye,YE] at hi'
   refine thn hi' λok s4 ⟨H7,I7,q7⟩=>?_
   cases ok with
   | false =>
    rw [if_neg Bool.false_ne_true] at q7 ⊢
    obtain ⟨m',hm,w7⟩:=hN _ _ q7
    obtain ⟨oD7,hD7,_⟩:=I7.pin _ (List.mem_append_right _ (List.mem_append_left _ (List.mem_singleton.mpr rfl)))
    refine ⟨m',hm,i + 1,acc,its,k,H7,(I7.pins_of (pins':=[]) λp hp=>(by cases hp)).weak (e5 kp6) (dJ kp6),T.keep _ _ _ tn5 λb hb o e=>(I7.pin (b,o) (List.mem_append_right _ (List.mem_append_right _ (b_ hb e)))).1,λb hb=>?_,w7,hD7,oD7,hv'⟩
    obtain ⟨o,e,_⟩:=T.obj _ _ tn5 b hb
    exact (I7.pin (b,o) (List.mem_append_right _ (List.mem_append_right _ (b_ hb e)))).2.1
   | true =>
    rw [if_pos rfl] at q7 ⊢
    have he':=he.go _ s4 σ6 H7 _ I7 q7
    rw [Yp,Yw,YA,Ye,YE] at he'
    refine thn he' λv s5 ⟨xv,H8,I8,r8,n8⟩=>?_
    obtain ⟨m',hm,w8⟩:=hN _ _ n8
    obtain ⟨oD8,hD8,_⟩:=I8.pin _ (List.mem_append_right _ (List.mem_append_left _ (List.mem_singleton.mpr rfl)))
    have hsz:its.toArray.size<sizeLine:=by rw [List.size_toArray,<- hv'.length]; exact hlen
    refine call_meets F.slot_list_append ⟨_,oD8,rfl⟩ F.entry_list_append (F.args_list_append_2 _ _) (PySem.list_append s.heap.objs.size its.toArray k v (Nat.le_of_lt hsz)) ⟨oD8,?_⟩
    have q:=PySem.IsL.update oD8 (λa=>a.push v)
    have J8:Inv Y (gS fp s2.heap) σ6 H8 s5:=I8.pins_of λp hp=>I8.pin p (List.mem_append_right _ (List.mem_append_right _ hp))
    have ne8:∀ b,b∈fp->b≠s.heap.objs.size:=λb hb=>(below b (hlt b hb)).2
    have J9:=J8.turned (t':=s5.toks) (h':=s5.heap.update s.heap.objs.size (Obj.mapSeq λa=>a.push v)) (it:=s.heap.objs.size) (λb o hb e=>(Heap.get?_update_other s5.heap _ (Ne.symm hb)).trans e) hD8 (by rw [Yl]; exact hDC) (.inr (by rw [Ys]; exact Nat.le_refl _)) (λx d e=>hDcell x d (by rw [<- Yc]; exact e))
     (λp hp=>by
      rw [Yn,List.nil_append] at hp
      obtain ⟨hb,_⟩:=io hp
      exact ne8 _ hb)
    have keep9:∀ b o,b∈fp->s2.heap.get? b=some o->(s5.heap.update s.heap.objs.size (Obj.mapSeq λa=>a.push v)).get? b=some o:=λb o hb e=>(J9.pin (b,o) (List.mem_append_right _ (b_ hb e))).1
    refine ⟨m',hm,i + 1,acc++[xv],its++[v],(if ((its++[v]).toArray.size == its.toArray.size)=true then k else k + 1),H8,(J9.pins_of (pins':=[]) λp hp=>(by cases hp)).weak (e5 kp6) (dJ kp6),T.keep _ _ _ tn5 λb hb o e=>keep9 b o hb e,λb hb=>?_,w8,hD8,?_,hv'.append (.cons r8 .nil)⟩
    ·obtain ⟨o,e,_⟩:=T.obj _ _ tn5 b hb
     exact (J9.pin (b,o) (List.mem_append_right _ (b_ hb e))).2.1
    ·have q':=q
     simp only [List.push_toArray] at q'
     exact q'
 exact codeAny_compStart_list (loop _ rfl) (T.self _ 0 _ _ _ (T.keep 0 _ _ t0 (λb hb o e=>old b o e)) (loop _ rfl))
def jd (wi:TI) (g:TG) (tt:TT) (te:TE) (own:List Str) (js:List Nat):TE:=λσ H Q=>wi σ H λJ H1=>kN J g tt te (bA own js σ) H1 λacc H2=>∀ p,H2 p=none->Q (.ref p) (upd H2 p (.lst acc))
theorem iy {elt tg iter:Expr} {ifs:List Expr} {pos:Pos} {wi:TI} {g:TG} {tt:TT} {te:TE} (own:List Str) (js:List Nat) (c:CompOk X scope cl own js) (hc:X.calm=true) (hi:PI X tg iter wi)
 (inner:∀ (C:Addr) (s₀:Shared) (H₀:Hp) (ex:List Addr),PG (bp X scope cl (bL X own js) C s₀ H₀ ex) tg g/\PIf (bp X scope cl (bL X own js) C s₀ H₀ ex) ifs tt/\PE (bp X scope cl (bL X own js) C s₀ H₀ ex) elt te)
 (hs:∀ x,foldedSetIterable iter X.env x=pure x:=by intro _; rfl):PE X (.ListComp elt [⟨tg,iter,ifs,0⟩] scope pos) (jd wi g tt te own js):=by
 refine ⟨λpins s σ H Q I h=>?_⟩
 rw [eval_ListComp]
 refine wpAny_comprehension_free (use:=none) rfl hs c.clos c.kind c.names (thn (hi.go pins s σ H _ I h) λv s1 h1=>thn h1 λitv s2 h2=>?_)
 obtain ⟨it,fp,tn,J,H2,e,I2,T,st2,f2,hW⟩:=h2
 subst e
 refine ip (RR:=λacc C=>compPost (model X.prog X.w) X.A X.xe none (EP X pins σ Q) acc C) c hc I2 T st2 f2 inner hW ?_
 intro D C s' acc H' hn hD hz hDC hCL hUC hI
 exact ⟨hn.choose,hn.choose_spec,λh' hsb=>⟨.ref D,_,hI h' hsb,rfl,hz D hD⟩⟩
theorem jZ {elt tg iter:Expr} {ifs:List Expr} {pos spos py:Pos} {wi:TI} {g:TG} {tt:TT} {te:TE} {i:Nat} {y:Str} (own:List Str) (js:List Nat) (c:CompOk X scope cl own js) (hc:X.calm=true) (hN:X.N.Nodup) (hy:X.N[i]? = some y) (hx:Loc X.env.scope y) (hi:PI X tg iter wi)
 (inner:∀ (C:Addr) (s₀:Shared) (H₀:Hp) (ex:List Addr),PG (bp X scope cl (bL X own js) C s₀ H₀ ex) tg g/\PIf (bp X scope cl (bL X own js) C s₀ H₀ ex) ifs tt/\PE (bp X scope cl (bL X own js) C s₀ H₀ ex) elt te)
 (hsw:swapsWith (.ListComp elt [⟨tg,iter,ifs,0⟩] scope pos) (some (.Name y py)) spos.line X.env=pure true:=by rfl)
 (hs:∀ x,foldedSetIterable iter X.env x=pure x:=by intro _; rfl) (hf:X.fn y=true\/X.env.scope.names.lookup y=some .local:=by first | exact .inl rfl | exact .inr rfl | assumption) :
 PS X (.Assign [.Name y py] (.ListComp elt [⟨tg,iter,ifs,0⟩] scope pos) spos) (oO (jd wi g tt te own js) (gU i)):=by
 refine ⟨λpins s σ H D I h=>?_⟩
 rw [exec_Assign_Name_used _ _ _ _ hsw]
 refine wpAny_bind (wpAny_standAt (wpAny_bind ?_))
 show wpAny _ X.A (do let _ <- comprehension (.ListComp elt [⟨tg,iter,ifs,0⟩] scope pos) scope X.env _ (newList []) false (eval iter X.env) (some (assign (.Name y py) X.env))) _ _ s
 refine wpAny_bind (wpAny_mono (wpAny_comprehension_free (use:=some (assign (.Name y py) X.env)) (Q:=λ_ s'=>SP X pins D .next s') rfl hs c.clos c.kind c.names
  (thn (hi.go pins s σ H _ I h) λv s1 h1=>thn h1 λitv s2 h2=>?_)) (λ_ s' hq=>wpAny_pure (wpAny_pure hq)) λ_ _ e=>e)
 obtain ⟨it,fp,tn,J,H2,e,I2,T,st2,f2,hW⟩:=h2
 subst e
 refine ip (RR:=λacc C=>compPost (model X.prog X.w) X.A X.xe (some (assign (.Name y py) X.env)) (λ_ s'=>SP X pins D .next s') acc C) c hc I2 T st2 f2 inner hW ?_
 intro D' C s' acc H' hn hD hz hDC hCL hUC hI
 show wpAny _ X.A (assign (.Name y py) X.env (.ref D')) _ _ _
 have I9:=hI s'.heap (Heap.SameBut.refl _ _)
 obtain ⟨m,hm⟩:=hn
 refine wpAny_assign_Name (hX (v:=.ref D') I9 hN hy hx rfl (λs'' I'' ⟨a,sb,ha⟩=>?_) hf)
 have aC:C≠a:=by
  rcases ha with ha | ha
  ·rw [ha]; exact hCL
  ·intro z
   subst z
   obtain ⟨v,q⟩:=I2.cell y C ha
   exact absurd (Nat.lt_of_lt_of_le q.lt hDC) (Nat.lt_irrefl _)
 refine ⟨m,hm.sameBut sb aC,λh' hsb=>?_⟩
 refine ⟨σ.set i (some (.ref D')),upd H' D' (.lst acc),I''.turned (t':=s''.toks) (it:=C) (λb o hb e=>by rw [hsb.2 b hb]; exact e) ?_ hCL (.inr (Nat.le_trans I2.sz hDC)) (λx d e z=>?_) (λp hp z=>?_),hz D' hD⟩
 ·exact hUC
 ·obtain ⟨v,q⟩:=I2.cell x d e
  rw [z] at q
  exact absurd (Nat.lt_of_lt_of_le q.lt hDC) (Nat.lt_irrefl _)
 ·have q:=Heap.lt_size (I2.pin p hp).1
  rw [z] at q
  exact absurd (Nat.lt_of_lt_of_le q hDC) (Nat.lt_irrefl _)
end
def Ite (a:Addr):It :=
 ⟨λi H=>∃ xs x,H a=some (.lst xs)/\xs[i]? = some x,λi H v H'=>∃ p x,H p=none/\v = .ref p/\H'=upd H p (.tup [.int i,x])/\∀ xs,H a=some (.lst xs)->xs[i]? = some x,λi H=>∃ xs,H a=some (.lst xs)/\xs.length<=i⟩
theorem lZ {P:Program} {w:World} {K:PySem.W.Frag} {es:List Expr} {k:Nat} {pos:Pos} (a e it:Addr) (hne:e≠it) :
 Turn P w K (.Tuple es k pos) (Ite a) [e,it] e (λi h=>(∃ old,IsEnum h e it i old)/\h.IsListIter it a i) where
 mem:=by simp
 obj:=λi h st b hb=>by
  rw [List.mem_cons,List.mem_singleton] at hb
  rcases hb with rfl | rfl
  ·obtain ⟨⟨old,q⟩,_⟩:=st
   exact ⟨_,q,λv z=>by cases z⟩
  ·obtain ⟨_,o,q,c,d⟩:=st
   exact ⟨o,q,λv z=>by rw [d] at z; cases z⟩
 keep:=λi h h' st kp=>⟨by obtain ⟨old,q⟩:=st.1; exact ⟨old,kp e (by simp) _ q⟩,st.2.at λo q=>kp it (by simp) o q⟩
 item:=by
  intro X hP hw hK hc i pins s σ H E I hf st hg
  subst hP hw hK
  obtain ⟨xs,x,hq,hx⟩:=hg
  obtain ⟨⟨old,he⟩,hit⟩:=st
  obtain ⟨its,rv,p,hz⟩:=I.list (SqL.of hq)
  obtain ⟨u,hu,ru⟩:=rv.get hx
  obtain ⟨f0,f1,f2,f3,f4,f5⟩:=hf e (by simp)
  obtain ⟨g0,g1,g2,g3,g4,g5⟩:=hf it (by simp)
  refine wpAny_pyNext_enum_item he hit p.isList (x:=u) (by simpa using hu) hne λh' eo it' ht hsz hk=>?_
  refine ⟨.ref s.heap.objs.size,rfl,?_⟩
  refine wpAny_letOwnedTupleGo_enum eo λh2 he2 hs2=>?_
  have fr:H s.heap.objs.size=none:=I.hok.fresh (Nat.le_refl _)
  have ne2:∀ b,b<s.heap.objs.size->b≠s.heap.objs.size:=λb hb=>Nat.ne_of_lt hb
  have ee:e<s.heap.objs.size:=Heap.lt_size he
  have k2:∀ b o,b≠e->b≠it->s.heap.get? b=some o->h2.get? b=some o:=λb o h1 h2' q=>(hs2.2 b h1).trans (hk b o h1 h2' q)
  have ht2:h2.get? s.heap.objs.size=some { cls:=.type "tuple",data:=.seq #[.int i s.toks,u] }:=(hs2.2 _ (Nat.ne_of_gt ee)).trans ht
  have trk:∀ b v,H b=some v->b≠e/\b≠it:=λb v q=>⟨av q f0,av q g0⟩
  have hok0:HOk X.prog X.w H h2:=λb o q=>(I.hok b o q).stay (λc v hc q'=>by
   rcases hc with rfl | hc
   ·exact k2 c v (trk c _ q).1 (trk c _ q).2 q'
   ·exact k2 c v (trk c _ hc).1 (trk c _ hc).2 q') (λ_ z=>z) (λ_ _ z=>z) λ_ _ _ z=>z
  have I1:Inv X pins σ (upd H s.heap.objs.size (.tup [.int i,x])) { s with heap:=h2,toks:=s.toks + 1 }:=by
   refine I.step (g':=s.gens) (d':=s.drawn) (ch:=[e,it]) (λb hb=>?_) (λb o _ _ hc q _=>k2 b o (λz=>hc (by simp [z])) (λz=>hc (by simp [z])) q) (λb o _ _ hc q _=>⟨o.slots,k2 b o (λz=>hc (by simp [z])) (λz=>hc (by simp [z])) q⟩)
    (λb o _ q n=>by rw [ah (ne2 b (Heap.lt_size q))]; exact n) (λb o hc q=>⟨o,k2 b o (λz=>hc (by simp [z])) (λz=>hc (by simp [z])) q⟩) (λb ys q=>by rw [ah (av q fr)]; exact q) (λb o v q=>by rw [ah (av q fr)]; exact q)
    (λb ps _ q=>⟨#[],by rw [ah (av q fr),q]; simp⟩) (λm hm=>?_) ?_ I.bare
   ·rw [List.mem_cons,List.mem_singleton] at hb
    rcases hb with rfl | rfl
    ·exact ⟨f3,f1,f4,f5⟩
    ·exact ⟨g3,g1,g4,g5⟩
   ·obtain ⟨o,es',ep,ho,r⟩:=hm
    exact ⟨o,es',ep,k2 _ o (Ne.symm f1) (Ne.symm g1) ho,r⟩
   ·exact hok0.adopt fr ⟨by show 2<=sizeLine; decide,[.int i s.toks,u],.cons ⟨_,rfl⟩ (.cons ru .nil),⟨_,ht2,rfl,_,rfl⟩⟩
  refine ⟨.ref s.heap.objs.size,_,I1,rfl,⟨_,x,fr,rfl,rfl,λys hy=>by rw [hq] at hy; cases hy; exact hx⟩,⟨⟨_,by simpa using he2⟩,it'.extBut hs2.extBut (Ne.symm hne)⟩,λb hb=>?_⟩
  have:H b=none:=(hf b hb).1
  have hb':b<s.heap.objs.size:=by
   rw [List.mem_cons,List.mem_singleton] at hb
   rcases hb with rfl | rfl
   ·exact ee
   ·obtain ⟨o,q,_⟩:=hit; exact Heap.lt_size q
  rw [ah (ne2 b hb')]
  exact this
 done:=by
  intro X hP hw hK hc i pins s σ H E I hf st hg
  subst hP hw hK
  obtain ⟨xs,hq,hx⟩:=hg
  obtain ⟨⟨old,he⟩,hit⟩:=st
  obtain ⟨its,rv,p,hz⟩:=I.list (SqL.of hq)
  obtain ⟨g0,g1,g2,g3,g4,g5⟩:=hf it (by simp)
  have hl:=rv.length
  exact wpAny_pyNext_enum_end (I.ok.hd hc) he hit p.isList (by simp; omega) λh' eb=>⟨rfl,I.turned (t':=s.toks) (λb o hb e=>eb b o hb e) g0 g1 g3 g4 g5⟩
 self:=λ_ _ _ _ _ st h=>by
  obtain ⟨⟨old,he⟩,_⟩:=st
  exact wpAny_pyIter_enum he h
section
variable {X:Cx} {es:List Expr} {k:Nat} {tpos:Pos}
def iEnum (ta:TA):TI:=λσ H R=>ta σ H λvs H1=>∃ a,vs=[.ref a]/\(∃ xs,H1 a=some (.lst xs))/\R (Ite a) H1
theorem pV {l:Expr} {ta:TA} {p pos:Pos} (hg:Gl X "enumerate") (hm:X.mg "enumerate" = none) (ha:PA X [l] ta) (hs:starEach [l] X.env=[(false,eval l X.env)]:=by rfl):PI X (.Tuple es k tpos) (.Call (.Name "enumerate" p) [l] [] pos) (iEnum ta):=by
 refine ⟨λpins s σ H R I h=>?_⟩
 refine wpAny_Call_Name_kw (cG I hg hm iI ?_)
 refine PyProof.Rows.callWith_type1 (thn (ha pos pins s σ H _ I h) λus s1 ⟨vs,H1,I1,r1,a,e,⟨xs,hx⟩,q⟩=>?_) hs rfl
 subst e
 obtain ⟨u,rfl,ru⟩:=fV r1
 cases ru
 obtain ⟨_,its,n,rv,ho⟩:=(show bn X.prog X.w H1 s1.heap a (.lst xs) from I1.hok a _ hx)
 refine call_enumerate_1 ho λh' he hit hsz hk=>?_
 have I2:Inv X pins σ H1 { s1 with heap:=h' }:=I1.kept (t':=s1.toks) hk
 refine wpAny_pyIter_enum he ⟨s1.heap.objs.size + 1,[s1.heap.objs.size + 1,s1.heap.objs.size],_,Ite a,H1,rfl,I2,lZ a (s1.heap.objs.size + 1) s1.heap.objs.size (Nat.succ_ne_self _),⟨⟨_,he⟩,hit⟩,λb hb=>?_,q⟩
 have hb':s1.heap.objs.size<=b:=by
  rw [List.mem_cons,List.mem_singleton] at hb
  rcases hb with rfl | rfl <;> omega
 have z:=I1.fpOk (H':=H1) hb' (I1.hok.fresh hb')
 exact z
end
mutual
def toP:D->PyData
 | .non=>.none
 | .bl b=>.bool b
 | .int i=>.int i
 | .str x=>.str x
 | .tup ds=>.tuple (toPs ds)
 | .lst ds=>.list (toPs ds)
 | .dct=>.dict []
 | .dic _ _=>.dict []
 | .obj _ _ _=>.dict []
 | .scr _ _=>.dict []
 | .ext _=>.dict []
def toPs:List D->List PyData
 | []=>[]
 | d :: ds=>toP d :: toPs ds
end
mutual
theorem cX {X:Cx} {pins:List (Addr×Obj)} {σ:St} {H:Hp} {s:Shared} (I:Inv X pins σ H s):∀ (d:D) (v:V) (u:Value),Rep H d v->aW v u->(toP d).canLay0=true->∃ as,Reads s.heap u (toP d) as
 | .non,v,u,h,r,_=>by rw [Rep] at h; subst h; cases r; rw [toP]; exact ⟨_,.none⟩
 | .bl b,v,u,h,r,_=>by rw [Rep] at h; subst h; cases r; rw [toP]; exact ⟨_,.bool b⟩
 | .int i,v,u,h,r,_=>by rw [Rep] at h; subst h; obtain ⟨t,rfl⟩:=r; rw [toP]; exact ⟨_,.int i t⟩
 | .str x,v,u,h,r,_=>by rw [Rep] at h; subst h; obtain ⟨t,rfl⟩:=r; rw [toP]; exact ⟨_,.str x t⟩
 | .tup ds,v,u,h,r,c=>by
  rw [Rep] at h
  obtain ⟨a,xs,rfl,ha,hx⟩:=h
  cases r
  rw [toP] at c ⊢
  obtain ⟨_,its,rv,o,e1,e2,n,e3⟩:=(show bn X.prog X.w H s.heap a (.tup xs) from I.hok a _ ha)
  obtain ⟨as,q⟩:=reps_reads I ds xs its hx rv (by rw [PyData.canLay0] at c; exact c)
  exact ⟨_,reads_tuple_at e1 e2 e3 (by simpa using q)⟩
 | .lst ds,v,u,h,r,c=>by
  rw [Rep] at h
  obtain ⟨a,xs,rfl,ha,hx⟩:=h
  cases r
  rw [toP] at c ⊢
  obtain ⟨_,its,n,rv,e1⟩:=(show bn X.prog X.w H s.heap a (.lst xs) from I.hok a _ ha)
  obtain ⟨as,q⟩:=reps_reads I ds xs its hx rv (by rw [PyData.canLay0] at c; exact c)
  exact ⟨_,reads_list_at e1 rfl rfl (by simpa using q)⟩
 | .dct,v,u,h,r,c=>by rw [toP,PyData.canLay0] at c; cases c
 | .dic _ _,v,u,h,r,c=>by rw [toP,PyData.canLay0] at c; cases c
 | .obj _ _ _,v,u,h,r,c=>by rw [toP,PyData.canLay0] at c; cases c
 | .scr _ _,v,u,h,r,c=>by rw [toP,PyData.canLay0] at c; cases c
 | .ext _,v,u,h,r,c=>by rw [toP,PyData.canLay0] at c; cases c
theorem reps_reads {X:Cx} {pins:List (Addr×Obj)} {σ:St} {H:Hp} {s:Shared} (I:Inv X pins σ H s):∀ (ds:List D) (vs:List V) (us:List Value),Reps H ds vs->aH vs us->PyData.canLayAll0 (toPs ds)=true->∃ as,ReadsAll s.heap us (toPs ds) as
 | [],vs,us,h,r,_=>by rw [Reps] at h; subst h; cases r; rw [toPs]; exact ⟨_,.nil⟩
 | d :: ds,vs,us,h,r,c=>by
  rw [Reps] at h
  obtain ⟨v,vs',rfl,h1,h2⟩:=h
  rw [toPs] at c ⊢
  rw [PyData.canLayAll0,Bool.and_eq_true] at c
  cases r with
  | cons r1 r2 =>
   obtain ⟨as,q1⟩:=cX I d v _ h1 r1 c.1
   obtain ⟨bs,q2⟩:=reps_reads I ds vs' _ h2 r2 c.2
   exact ⟨_,.cons q1 q2⟩
end
section
variable {X:Cx}
def rEqD:R2:=λx y H Q=>∃ d e,Rep H d x/\Rep H e y/\SeqAt.shaped (toP d)=true/\SeqAt.shaped (toP e)=true/\Q (.bl (PyData.eqv (toP d) (toP e))) H
def rNeD:R2:=λx y H Q=>∃ d e,Rep H d x/\Rep H e y/\SeqAt.shaped (toP d)=true/\SeqAt.shaped (toP e)=true/\Q (.bl (!PyData.eqv (toP d) (toP e))) H
theorem eN (hu:X.A.units + 64<cLine):OpR X (compareOp .Eq) rEqD:=by
 intro pins s σ H x y v u Q I rx ry h
 obtain ⟨d,e,h1,h2,c1,c2,q⟩:=h
 obtain ⟨as,r1⟩:=cX I d x v h1 rx (SeqAt.canLay_of_shaped c1)
 obtain ⟨bs,r2⟩:=cX I e y u h2 ry (SeqAt.canLay_of_shaped c2)
 exact eq_dataH r1 r2 c1 c2 hu ⟨.bl _,H,I,rfl,q⟩
theorem cV (hu:X.A.units + 64<cLine):OpR X (compareOp .NotEq) rNeD:=by
 intro pins s σ H x y v u Q I rx ry h
 obtain ⟨d,e,h1,h2,c1,c2,q⟩:=h
 obtain ⟨as,r1⟩:=cX I d x v h1 rx (SeqAt.canLay_of_shaped c1)
 obtain ⟨bs,r2⟩:=cX I e y u h2 ry (SeqAt.canLay_of_shaped c2)
 exact ne_dataH r1 r2 c1 c2 hu ⟨.bl _,H,I,rfl,q⟩
end
def ae (ns:List Int):D:=.lst (ns.map .int)
theorem fG (ns:List Int):toPs (ns.map .int)=ns.map .int:=by
 induction ns with
 | nil=>rw [List.map_nil,toPs]; rfl
 | cons n r ih=>rw [List.map_cons,toPs,ih,toP]; rfl
theorem nN (ns:List Int):PyData.canLayAll0 (ns.map .int)=true/\PyData.depthAll (ns.map .int)<=1:=by
 induction ns with
 | nil=>simp [PyData.canLayAll0,PyData.depthAll]
 | cons n r ih=>simp only [List.map_cons,PyData.canLayAll0,PyData.canLay0,PyData.depthAll,PyData.depth,ih.1,Bool.and_self,true_and]; have:=ih.2; omega
theorem o_ (ns ms:List Int):PyData.eqvAll (ns.map .int) (ms.map .int)=decide (ns=ms):=by
 induction ns generalizing ms with
 | nil=>cases ms <;> simp [PyData.eqvAll]
 | cons n r ih =>
  cases ms with
  | nil=>simp [PyData.eqvAll]
  | cons m q =>
   rw [List.map_cons,List.map_cons,PyData.eqvAll,PyData.eqv,ih]
   by_cases h:n=m
   ·subst h; simp
   ·simp [h]
theorem jn (ns:List Int):SeqAt.shaped (toP (ae ns))=true:=by
 have h:=nN ns
 unfold SeqAt.shaped ae
 rw [toP,fG,PyData.canLay0,PyData.depth,h.1,Bool.true_and]
 exact decide_eq_true (by have:=h.2; omega)
theorem m8 (ns ms:List Int):PyData.eqv (toP (ae ns)) (toP (ae ms))=decide (ns=ms):=by
 unfold ae
 rw [toP,toP,fG,fG,PyData.eqv,o_]
theorem cZ {H:Hp}:∀ ns:List Int,Reps H (ns.map .int) (ns.map V.int)
 | []=>bj
 | n :: r=>bc (bq n) (cZ r)
def aL (ns ms:List Int):D:=.tup [ae ns,ae ms]
section
variable {X:Cx}
end
abbrev DSt:=List (Option D)
abbrev Own:=Addr->Option (Nat×List Nat)
mutual
def Sep (G H:Hp) (O:Own) (i:Nat):D->List Nat->V->Prop
 | .non,_,v=>v = .non
 | .bl b,_,v=>v = .bl b
 | .int n,_,v=>v = .int n
 | .str x,_,v=>v = .str x
 | .tup ds,π,v=>∃ a xs,v = .ref a/\G a=some (.tup xs)/\Seps G H O i ds 0 π xs
 | .lst ds,π,v=>∃ a xs,v = .ref a/\O a=some (i,π)/\H a=some (.lst xs)/\Seps G H O i ds 0 π xs
 | .dct,_,_=>False
 | .dic ks ds,π,v=>∃ a xs,v = .ref a/\O a=some (i,π)/\H a=some (.dK (ks.zip xs))/\ks.length=ds.length/\Seps G H O i ds 0 π xs
 | .obj C ks ds,π,v=>∃ a dx xs,v = .ref a/\O a=some (i,π)/\H a=some (.ins C dx (ks.zip xs))/\ks.length=ds.length/\Seps G H O i ds 0 π xs
 | .scr _ _,_,_=>False
 | .ext _,_,_=>False
def Seps (G H:Hp) (O:Own) (i:Nat):List D->Nat->List Nat->List V->Prop
 | [],_,_,xs=>xs=[]
 | d :: ds,k,π,xs=>∃ v vs,xs=v :: vs/\Sep G H O i d (k :: π) v/\Seps G H O i ds (k + 1) π vs
end
def cr (G G':Hp):Prop:=∀ a xs,G a=some (.tup xs)->G' a=some (.tup xs)
theorem aB.ts {G G':Hp} (h:aB G G'):cr G G':=λa xs e=>h a _ e
mutual
theorem Sep.map {G H G' H':Hp} {O O':Own} {i i':Nat} {f:List Nat->List Nat} (hG:cr G G') (hf:∀ k π,f (k :: π)=k :: f π) :
 ∀ (d:D) (π:List Nat) (v:V),(∀ a τ,O a=some (i,τ++π)->O' a=some (i',f (τ++π))/\H' a=H a)->Sep G H O i d π v->Sep G' H' O' i' d (f π) v
 | .non,_,_,_,h=>by rw [Sep] at *; exact h
 | .bl b,_,_,_,h=>by rw [Sep] at *; exact h
 | .int n,_,_,_,h=>by rw [Sep] at *; exact h
 | .str x,_,_,_,h=>by rw [Sep] at *; exact h
 | .tup ds,π,v,hO,h=>by
  rw [Sep] at *
  obtain ⟨a,xs,h1,h2,h3⟩:=h
  exact ⟨a,xs,h1,hG _ _ h2,Seps.map hG hf ds 0 π xs (λa τ _=>hO a τ) h3⟩
 | .lst ds,π,v,hO,h=>by
  rw [Sep] at *
  obtain ⟨a,xs,h1,h2,h3,h4⟩:=h
  have q:=hO a [] h2
  exact ⟨a,xs,h1,q.1,q.2.trans h3,Seps.map hG hf ds 0 π xs (λa τ _=>hO a τ) h4⟩
 | .dic ks ds,π,v,hO,h=>by
  rw [Sep] at *
  obtain ⟨a,xs,h1,h2,h3,h5,h4⟩:=h
  have q:=hO a [] h2
  exact ⟨a,xs,h1,q.1,q.2.trans h3,h5,Seps.map hG hf ds 0 π xs (λa τ _=>hO a τ) h4⟩
 | .obj C ks ds,π,v,hO,h=>by
  rw [Sep] at *
  obtain ⟨a,dx,xs,h1,h2,h3,h5,h4⟩:=h
  have q:=hO a [] h2
  exact ⟨a,dx,xs,h1,q.1,q.2.trans h3,h5,Seps.map hG hf ds 0 π xs (λa τ _=>hO a τ) h4⟩
 | .dct,_,_,_,h=>by rw [Sep] at h; exact h.elim
 | .scr _ _,_,_,_,h=>by rw [Sep] at h; exact h.elim
 | .ext _,_,_,_,h=>by rw [Sep] at h; exact h.elim
theorem Seps.map {G H G' H':Hp} {O O':Own} {i i':Nat} {f:List Nat->List Nat} (hG:cr G G') (hf:∀ k π,f (k :: π)=k :: f π) :
 ∀ (ds:List D) (k:Nat) (π:List Nat) (xs:List V),(∀ a τ,τ≠[]->O a=some (i,τ++π)->O' a=some (i',f (τ++π))/\H' a=H a)->Seps G H O i ds k π xs->Seps G' H' O' i' ds k (f π) xs
 | [],_,_,_,_,h=>by rw [Seps] at *; exact h
 | d :: ds,k,π,xs,hO,h=>by
  rw [Seps] at *
  obtain ⟨v,vs,h1,h2,h3⟩:=h
  refine ⟨v,vs,h1,?_,Seps.map hG hf ds (k + 1) π vs hO h3⟩
  rw [<- hf]
  refine Sep.map hG hf d (k :: π) v (λa τ e=>?_) h2
  have e' : τ++k :: π=(τ++[k])++π:=by simp
  rw [e'] at e ⊢
  exact hO a (τ++[k]) (by simp) e
end
theorem Sep.keep {G H G' H':Hp} {O O':Own} {i i':Nat} {d:D} {π:List Nat} {v:V} (hG:cr G G') (hO:∀ a τ,O a=some (i,τ++π)->O' a=some (i',τ++π)/\H' a=H a) (h:Sep G H O i d π v):Sep G' H' O' i' d π v :=
 Sep.map (f:=id) hG (λ_ _=>rfl) d π v hO h
theorem Seps.keep {G H G' H':Hp} {O O':Own} {i i':Nat} {ds:List D} {k:Nat} {π:List Nat} {xs:List V} (hG:cr G G') (hO:∀ a τ,τ≠[]->O a=some (i,τ++π)->O' a=some (i',τ++π)/\H' a=H a) (h:Seps G H O i ds k π xs):Seps G' H' O' i' ds k π xs :=
 Seps.map (f:=id) hG (λ_ _=>rfl) ds k π xs hO h
mutual
theorem Sep.rep {G H G':Hp} {O:Own} {i:Nat} (hG:cr G G'):∀ (d:D) (π:List Nat) (v:V),(∀ a τ (o:HO),O a=some (i,τ++π)->H a=some o->G' a=some o)->Sep G H O i d π v->Rep G' d v
 | .non,_,_,_,h=>by rw [Sep] at h; rw [Rep]; exact h
 | .bl b,_,_,_,h=>by rw [Sep] at h; rw [Rep]; exact h
 | .int n,_,_,_,h=>by rw [Sep] at h; rw [Rep]; exact h
 | .str x,_,_,_,h=>by rw [Sep] at h; rw [Rep]; exact h
 | .tup ds,π,v,hO,h=>by
  rw [Sep] at h; rw [Rep]
  obtain ⟨a,xs,h1,h2,h3⟩:=h
  exact ⟨a,xs,h1,hG _ _ h2,Seps.rep hG ds 0 π xs (λa τ ys _=>hO a τ ys) h3⟩
 | .lst ds,π,v,hO,h=>by
  rw [Sep] at h; rw [Rep]
  obtain ⟨a,xs,h1,h2,h3,h4⟩:=h
  exact ⟨a,xs,h1,hO a [] _ h2 h3,Seps.rep hG ds 0 π xs (λa τ ys _=>hO a τ ys) h4⟩
 | .dic ks ds,π,v,hO,h=>by
  rw [Sep] at h; rw [Rep]
  obtain ⟨a,xs,h1,h2,h3,h5,h4⟩:=h
  exact ⟨a,xs,h1,hO a [] _ h2 h3,h5,Seps.rep hG ds 0 π xs (λa τ ys _=>hO a τ ys) h4⟩
 | .obj C ks ds,π,v,hO,h=>by
  rw [Sep] at h; rw [Rep]
  obtain ⟨a,dx,xs,h1,h2,h3,h5,h4⟩:=h
  exact ⟨a,dx,xs,h1,hO a [] _ h2 h3,h5,Seps.rep hG ds 0 π xs (λa τ ys _=>hO a τ ys) h4⟩
 | .dct,_,_,_,h=>by rw [Sep] at h; exact h.elim
 | .scr _ _,_,_,_,h=>by rw [Sep] at h; exact h.elim
 | .ext _,_,_,_,h=>by rw [Sep] at h; exact h.elim
theorem Seps.rep {G H G':Hp} {O:Own} {i:Nat} (hG:cr G G'):∀ (ds:List D) (k:Nat) (π:List Nat) (xs:List V),(∀ a τ (o:HO),τ≠[]->O a=some (i,τ++π)->H a=some o->G' a=some o)->Seps G H O i ds k π xs->Reps G' ds xs
 | [],_,_,_,_,h=>by rw [Seps] at h; rw [Reps]; exact h
 | d :: ds,k,π,xs,hO,h=>by
  rw [Seps] at h; rw [Reps]
  obtain ⟨v,vs,h1,h2,h3⟩:=h
  refine ⟨v,vs,h1,Sep.rep hG d (k :: π) v (λa τ ys e q=>?_) h2,Seps.rep hG ds (k + 1) π vs hO h3⟩
  have e' : τ++k :: π=(τ++[k])++π:=by simp
  rw [e'] at e
  exact hO a (τ++[k]) ys (by simp) e q
end
mutual
def imm:D->Bool
 | .tup ds=>imms ds
 | .lst _=>false
 | .dct=>false
 | .dic _ _=>false
 | .obj _ _ _=>false
 | .scr _ _=>false
 | .ext _=>false
 | _=>true
def imms:List D->Bool
 | []=>true
 | d :: ds=>imm d&&imms ds
end
mutual
theorem Rep.sep {G H:Hp} {O:Own} {i:Nat}:∀ (d:D) (π:List Nat) (v:V),imm d=true->Rep G d v->Sep G H O i d π v
 | .non,_,_,_,h=>by rw [Rep] at h; rw [Sep]; exact h
 | .bl b,_,_,_,h=>by rw [Rep] at h; rw [Sep]; exact h
 | .int n,_,_,_,h=>by rw [Rep] at h; rw [Sep]; exact h
 | .str x,_,_,_,h=>by rw [Rep] at h; rw [Sep]; exact h
 | .tup ds,π,v,hi,h=>by
  rw [Rep] at h; rw [Sep]
  obtain ⟨a,xs,h1,h2,h3⟩:=h
  exact ⟨a,xs,h1,h2,Reps.sep ds 0 π xs (by rw [imm] at hi; exact hi) h3⟩
 | .lst ds,_,_,hi,_=>by rw [imm] at hi; cases hi
 | .dct,_,_,hi,_=>by rw [imm] at hi; cases hi
 | .dic _ _,_,_,hi,_=>by rw [imm] at hi; cases hi
 | .obj _ _ _,_,_,hi,_=>by rw [imm] at hi; cases hi
 | .scr _ _,_,_,hi,_=>by rw [imm] at hi; cases hi
 | .ext _,_,_,hi,_=>by rw [imm] at hi; cases hi
theorem Reps.sep {G H:Hp} {O:Own} {i:Nat}:∀ (ds:List D) (k:Nat) (π:List Nat) (xs:List V),imms ds=true->Reps G ds xs->Seps G H O i ds k π xs
 | [],_,_,_,_,h=>by rw [Reps] at h; rw [Seps]; exact h
 | d :: ds,k,π,xs,hi,h=>by
  rw [Reps] at h; rw [Seps]
  rw [imms,Bool.and_eq_true] at hi
  obtain ⟨v,vs,h1,h2,h3⟩:=h
  exact ⟨v,vs,h1,Rep.sep d (k :: π) v hi.1 h2,Reps.sep ds (k + 1) π vs hi.2 h3⟩
end
mutual
theorem Sep.imm {G H:Hp} {O:Own} {i:Nat}:∀ (d:D) (π:List Nat) (v:V),L2.imm d=true->Sep G H O i d π v->Rep G d v
 | .non,_,_,_,h=>by rw [Sep] at h; rw [Rep]; exact h
 | .bl b,_,_,_,h=>by rw [Sep] at h; rw [Rep]; exact h
 | .int n,_,_,_,h=>by rw [Sep] at h; rw [Rep]; exact h
 | .str x,_,_,_,h=>by rw [Sep] at h; rw [Rep]; exact h
 | .tup ds,π,v,hi,h=>by
  rw [Sep] at h; rw [Rep]
  obtain ⟨a,xs,h1,h2,h3⟩:=h
  exact ⟨a,xs,h1,h2,Seps.imm ds 0 π xs (by rw [L2.imm] at hi; exact hi) h3⟩
 | .lst ds,_,_,hi,_=>by rw [L2.imm] at hi; cases hi
 | .dct,_,_,hi,_=>by rw [L2.imm] at hi; cases hi
 | .dic _ _,_,_,hi,_=>by rw [L2.imm] at hi; cases hi
 | .obj _ _ _,_,_,hi,_=>by rw [L2.imm] at hi; cases hi
 | .scr _ _,_,_,hi,_=>by rw [L2.imm] at hi; cases hi
 | .ext _,_,_,hi,_=>by rw [L2.imm] at hi; cases hi
theorem Seps.imm {G H:Hp} {O:Own} {i:Nat}:∀ (ds:List D) (k:Nat) (π:List Nat) (xs:List V),imms ds=true->Seps G H O i ds k π xs->Reps G ds xs
 | [],_,_,_,_,h=>by rw [Seps] at h; rw [Reps]; exact h
 | d :: ds,k,π,xs,hi,h=>by
  rw [Seps] at h; rw [Reps]
  rw [imms,Bool.and_eq_true] at hi
  obtain ⟨v,vs,h1,h2,h3⟩:=h
  exact ⟨v,vs,h1,Sep.imm d (k :: π) v hi.1 h2,Seps.imm ds (k + 1) π vs hi.2 h3⟩
end
mutual
theorem Rep.imms {G G':Hp} (hG:cr G G'):∀ (d:D) (v:V),L2.imm d=true->Rep G d v->Rep G' d v
 | .non,_,_,h=>by rw [Rep] at *; exact h
 | .bl b,_,_,h=>by rw [Rep] at *; exact h
 | .int n,_,_,h=>by rw [Rep] at *; exact h
 | .str x,_,_,h=>by rw [Rep] at *; exact h
 | .tup ds,v,hi,h=>by
  rw [Rep] at *
  obtain ⟨a,xs,h1,h2,h3⟩:=h
  exact ⟨a,xs,h1,hG _ _ h2,Reps.imms hG ds xs (by rw [L2.imm] at hi; exact hi) h3⟩
 | .lst ds,_,hi,_=>by rw [L2.imm] at hi; cases hi
 | .dct,_,hi,_=>by rw [L2.imm] at hi; cases hi
 | .dic _ _,_,hi,_=>by rw [L2.imm] at hi; cases hi
 | .obj _ _ _,_,hi,_=>by rw [L2.imm] at hi; cases hi
 | .scr _ _,_,hi,_=>by rw [L2.imm] at hi; cases hi
 | .ext _,_,hi,_=>by rw [L2.imm] at hi; cases hi
theorem Reps.imms {G G':Hp} (hG:cr G G'):∀ (ds:List D) (xs:List V),L2.imms ds=true->Reps G ds xs->Reps G' ds xs
 | [],_,_,h=>by rw [Reps] at *; exact h
 | d :: ds,xs,hi,h=>by
  rw [Reps] at *
  rw [L2.imms,Bool.and_eq_true] at hi
  obtain ⟨v,vs,h1,h2,h3⟩:=h
  exact ⟨v,vs,h1,Rep.imms hG d v hi.1 h2,Reps.imms hG ds vs hi.2 h3⟩
end
theorem Seps.length {G H:Hp} {O:Own} {i:Nat}:∀ {ds:List D} {k:Nat} {π:List Nat} {xs:List V},Seps G H O i ds k π xs->xs.length=ds.length
 | [],_,_,_,h=>by rw [Seps] at h; subst h; rfl
 | d :: ds,k,π,xs,h=>by
  rw [Seps] at h
  obtain ⟨v,vs,rfl,_,h3⟩:=h
  simp [Seps.length h3]
inductive WrO where
 | inl (xs:List V) | inr (kvs:List (Key×V)) | ins (C dx:Addr) (fs:List (Str×V))
def WrO.ho:WrO->HO
 | .inl xs=>.lst xs
 | .inr kvs=>.dK kvs
 | .ins C dx fs=>.ins C dx fs
theorem WrO.ne {m:WrO} {xs:List V} (h:m.ho = .tup xs):False:=by cases m <;> cases h
structure Ctx where
 G:Hp
 H:Hp
 O:Own
 mu:List (Option V)
 np:Nat
def bG (G H:Hp) (O:Own):List (D×V)->Prop
 | []=>True
 | (d,v) :: r=>Sep G H O (2 * r.length + 1) d [] v/\bG G H O r
def Nw (C:Ctx) (a:Addr) (l:Nat):Prop:=C.H a=none\/∃ π,C.O a=some (l,π)
def NT (o:HO):Prop:=∀ ps q,o≠.tbl ps q
theorem WrO.nt (x:WrO):NT x.ho:=by cases x <;> (intro _ _ z; cases z)
structure RO (C:Ctx) (ow:List Bool) (G:Hp) (ρ:DSt) (σ:St) (H:Hp) (pd:List (D×V)) (O:Own):Prop where
 len : ρ.length=σ.length
 gh:aB G H
 g0:aB C.G G
 gn:∀ a o,G a=some o->C.G a=some o\/C.H a=none
 og:∀ a l,O a=some l->G a=none/\(∃ xs:WrO,H a=some xs.ho)/\Nw C a l.1
 cok:∀ a l π,C.O a=some (l,π)->(∃ (i:Nat) (v:V),l=2 * i/\C.mu[i]? = some (some v))\/∃ j,l=2 * j + 1/\j<C.np
 fr:∀ a o,C.H a=some o->C.O a=none->NT o->H a=some o
 ft:∀ a ps q,H a=some (.tbl ps q)->G a=none
 al:∀ a,H a=none->C.H a=none
 mp:∀ (i:Nat) v,C.mu[i]? = some (some v)->σ[i]? = some (some v)
 sl:∀ (i:Nat) d,ρ[i]? = some (some d)->∃ v,σ[i]? = some (some v)/\if ow[i]? = some true then Sep G H O (2 * i) d [] v else Rep G d v
 pn:bG G H O pd
 np:C.np<=pd.length
def R (C:Ctx) (ow:List Bool) (G:Hp) (ρ:DSt) (σ:St) (H:Hp) (pd:List (D×V)):Prop:=∃ O,RO C ow G ρ σ H pd O
theorem bG.keep {G H G' H':Hp} {O O':Own} (hG:cr G G'):∀ {pd:List (D×V)},(∀ a j π,j<pd.length->O a=some (2 * j + 1,π)->O' a=some (2 * j + 1,π)/\H' a=H a)->bG G H O pd->bG G' H' O' pd
 | [],_,_=>trivial
 | (d,v) :: r,hO,⟨h1,h2⟩=>⟨h1.keep hG λa τ e=>hO a r.length _ (by simp) e,bG.keep hG (λa j π hj=>hO a j π (by simp; omega)) h2⟩
section
variable {C:Ctx} {ow:List Bool} {G:Hp} {ρ:DSt} {σ:St} {H:Hp} {pd:List (D×V)} {O:Own}
theorem RO.new (h:RO C ow G ρ σ H pd O) {p:Addr} (hp:H p=none) (o:HO) (nt:NT o:=by intro _ _ z; cases z):RO C ow (upd G p o) ρ σ (upd H p o) pd O/\aB G (upd G p o):=by
 have gp:G p=none:=by
  cases e:G p with
  | none=>rfl
  | some z=>rw [h.gh _ _ e] at hp; cases hp
 have sG:=oY gp o
 have ne:∀ a l,O a=some l->a≠p:=λa l e z=>by
  obtain ⟨_,⟨xs,q⟩,_⟩:=h.og a l e
  rw [z,hp] at q; cases q
 refine ⟨⟨h.len,?_,λa u e=>sG _ _ (h.g0 a u e),?_,?_,h.cok,?_,?_,?_,h.mp,?_,?_,h.np⟩,sG⟩
 ·intro a u e
  by_cases z:a=p
  ·subst z; rw [ay] at e ⊢; exact e
  ·rw [ah z] at e ⊢; exact h.gh _ _ e
 ·intro a u e
  by_cases z:a=p
  ·subst z; exact .inr (h.al _ hp)
  ·rw [ah z] at e; exact h.gn a u e
 ·intro a l e
  have z:=ne a l e
  rw [ah z,ah z]
  exact h.og a l e
 ·intro a u e n t
  rw [ah (av (h.fr a u e n t) hp)]
  exact h.fr a u e n t
 ·intro a ps q e
  by_cases z:a=p
  ·subst z; rw [ay] at e; cases e; exact absurd rfl (nt ps q)
  ·rw [ah z] at e ⊢; exact h.ft a ps q e
 ·intro a e
  by_cases z:a=p
  ·subst z; rw [ay] at e; cases e
  ·rw [ah z] at e; exact h.al a e
 ·intro i d e
  obtain ⟨v,h1,h2⟩:=h.sl i d e
  refine ⟨v,h1,?_⟩
  split at h2
  ·rename_i c; rw [if_pos c]; exact h2.keep sG.ts λa τ q=>⟨q,ah (ne a _ q)⟩
  ·rename_i c; rw [if_neg c]; exact h2.mono sG
 ·exact bG.keep sG.ts (λa j π _ q=>⟨q,ah (ne a _ q)⟩) h.pn
theorem RO.newL (h:RO C ow G ρ σ H pd O) {p:Addr} (hp:H p=none) {xs:List V} {ds:List D} (hi:imms ds=true) (hr:Reps G ds xs) :
 R C ow G ρ σ (upd H p (.lst xs)) ((.lst ds,.ref p) :: pd):=by
 have gp:G p=none:=by
  cases e:G p with
  | none=>rfl
  | some z=>rw [h.gh _ _ e] at hp; cases hp
 have ne:∀ a l,O a=some l->a≠p:=λa l e z=>by
  obtain ⟨_,⟨xs,q⟩,_⟩:=h.og a l e
  rw [z,hp] at q; cases q
 let O':Own:=λa=>if a=p then some (2 * pd.length + 1,[]) else O a
 have old:∀ a l,O a=some l->O' a=some l:=λa l e=>by
  show (if a=p then _ else _)=_
  rw [if_neg (ne a _ e),e]
 refine ⟨O',h.len,?_,h.g0,h.gn,?_,h.cok,?_,?_,?_,h.mp,?_,⟨?_,?_⟩,Nat.le_succ_of_le h.np⟩
 ·intro a u e
  rw [ah (λz=>by rw [z,gp] at e; cases e)]
  exact h.gh _ _ e
 ·intro a l e
  by_cases z:a=p
  ·subst z; exact ⟨gp,⟨.inl xs,ay⟩,.inl (h.al _ hp)⟩
  ·rw [ah z]
   change (if a=p then _ else _)=_ at e
   rw [if_neg z] at e
   exact h.og a _ e
 ·intro a u e n t
  rw [ah (av (h.fr a u e n t) hp)]
  exact h.fr a u e n t
 ·intro a ps q e
  by_cases z:a=p
  ·subst z; rw [ay] at e; cases e
  ·rw [ah z] at e; exact h.ft a ps q e
 ·intro a e
  by_cases z:a=p
  ·subst z; rw [ay] at e; cases e
  ·rw [ah z] at e; exact h.al a e
 ·intro i d e
  obtain ⟨v,h1,h2⟩:=h.sl i d e
  refine ⟨v,h1,?_⟩
  split at h2
  ·rename_i c; rw [if_pos c]; exact h2.keep (λ_ _ z=>z) λa τ q=>⟨old a _ q,ah (ne a _ q)⟩
  ·rename_i c; rw [if_neg c]; exact h2
 ·rw [Sep]
  exact ⟨p,xs,rfl,by show (if p=p then _ else _)=_; rw [if_pos rfl],ay,hr.sep ds 0 [] xs hi⟩
 ·exact bG.keep (λ_ _ z=>z) (λa j π hj q=>⟨old a _ q,ah (ne a _ q)⟩) h.pn
end
theorem Seps.snoc {G H:Hp} {O:Own} {i:Nat} {d:D} {v:V}:∀ {ds:List D} {k:Nat} {π:List Nat} {xs:List V},Seps G H O i ds k π xs->Sep G H O i d ((k + ds.length) :: π) v->Seps G H O i (ds++[d]) k π (xs++[v])
 | [],k,π,xs,h,hd=>by rw [Seps] at h; subst h; show Seps _ _ _ _ [d] _ _ [v]; rw [Seps]; exact ⟨v,[],rfl,by simpa using hd,by rw [Seps]⟩
 | e :: ds,k,π,xs,h,hd=>by
  rw [Seps] at h
  obtain ⟨u,us,rfl,h2,h3⟩:=h
  show Seps _ _ _ _ (e :: (ds++[d])) _ _ (u :: (us++[v]))
  rw [Seps]
  refine ⟨u,us++[v],rfl,h2,Seps.snoc h3 ?_⟩
  have:k + 1 + ds.length=k + (e :: ds).length:=by simp; omega
  rw [this]; exact hd
theorem Seps.set {G H:Hp} {O:Own} {i:Nat} {d:D} {v:V}:∀ {ds:List D} {k:Nat} {π:List Nat} {xs:List V} {j:Nat},Seps G H O i ds k π xs->Sep G H O i d ((k + j) :: π) v->Seps G H O i (ds.set j d) k π (xs.set j v)
 | [],k,π,xs,j,h,hd=>by rw [Seps] at h; subst h; simp; rw [Seps]
 | e :: ds,k,π,xs,0,h,hd=>by
  rw [Seps] at h
  obtain ⟨u,us,rfl,h2,h3⟩:=h
  simp only [List.set_cons_zero]; rw [Seps]
  exact ⟨v,us,rfl,by simpa using hd,h3⟩
 | e :: ds,k,π,xs,j + 1,h,hd=>by
  rw [Seps] at h
  obtain ⟨u,us,rfl,h2,h3⟩:=h
  simp only [List.set_cons_succ]; rw [Seps]
  refine ⟨u,_,rfl,h2,Seps.set h3 ?_⟩
  have:k + 1 + j=k + (j + 1):=by omega
  rw [this]; exact hd
theorem Seps.at {G H:Hp} {O:Own} {i:Nat} {d:D}:∀ {ds:List D} {k:Nat} {π:List Nat} {xs:List V} {j:Nat},Seps G H O i ds k π xs->ds[j]? = some d->∃ v,xs[j]? = some v/\Sep G H O i d ((k + j) :: π) v
 | [],k,π,xs,j,h,e=>by simp at e
 | e :: ds,k,π,xs,0,h,q=>by
  rw [Seps] at h
  obtain ⟨u,us,rfl,h2,h3⟩:=h
  simp at q; subst q
  exact ⟨u,rfl,by simpa using h2⟩
 | e :: ds,k,π,xs,j + 1,h,q=>by
  rw [Seps] at h
  obtain ⟨u,us,rfl,h2,h3⟩:=h
  obtain ⟨v,h4,h5⟩:=Seps.at (j:=j) h3 (by simpa using q)
  refine ⟨v,by simpa using h4,?_⟩
  have:k + 1 + j=k + (j + 1):=by omega
  rw [<- this]; exact h5
section
variable {C:Ctx} {ow:List Bool} {G:Hp} {ρ:DSt} {σ:St} {H:Hp} {pd:List (D×V)} {O:Own}
theorem dq {α:Type} {l:List (Option α)} {i j:Nat} {x:Option α} {d : α} (h:(l.set i x)[j]? = some (some d)):(j=i/\x=some d)\/(j≠i/\l[j]? = some (some d)):=by
 rw [List.getElem?_set] at h
 by_cases e:i=j
 ·rw [if_pos e] at h
  split at h
  ·exact .inl ⟨e.symm,Option.some.inj h⟩
  ·cases h
 ·rw [if_neg e] at h; exact .inr ⟨λz=>e z.symm,h⟩
theorem dA {α:Type} {l:List (Option α)} {i:Nat} {x:Option α} (h:l[i]? = some x):i<l.length:=(List.getElem?_eq_some_iff.mp h).1
theorem RO.setS (h:RO C ow G ρ σ H pd O) {i:Nat} {d:D} {v:V} (hi:ow[i]?≠some true) (hm:∀ v,C.mu[i]?≠some (some v)) (r:Rep G d v):RO C ow G (ρ.set i (some d)) (σ.set i (some v)) H pd O:=by
 refine ⟨by simp [h.len],h.gh,h.g0,h.gn,h.og,h.cok,h.fr,h.ft,h.al,?_,?_,h.pn,h.np⟩
 ·intro j u e
  have:i≠j:=λz=>hm u (z ▸ e)
  rw [List.getElem?_set_ne this]
  exact h.mp j u e
 ·intro j e q
  rcases dq q with ⟨rfl,z⟩ | ⟨z,q'⟩
  ·cases z
   have hl:j<σ.length:=by have:=dA q; rw [List.length_set,h.len] at this; exact this
   exact ⟨v,by rw [List.getElem?_set_self hl],by rw [if_neg hi]; exact r⟩
  ·obtain ⟨u,h1,h2⟩:=h.sl j e q'
   exact ⟨u,by rw [List.getElem?_set_ne (Ne.symm z)]; exact h1,h2⟩
def lab (f:Nat->List Nat->Nat×List Nat) (O:Own):Own:=λa=>(O a).map λl=>f l.1 l.2
theorem bI {f:Nat->List Nat->Nat×List Nat} {a:Addr} {l:Nat} {π:List Nat} (h:O a=some (l,π)):lab f O a=some (f l π):=by unfold lab; rw [h]; rfl
theorem gD {f:Nat->List Nat->Nat×List Nat} {a:Addr} {m:Nat×List Nat} (h:lab f O a=some m):∃ l π,O a=some (l,π)/\m=f l π:=by
 unfold lab at h
 cases e:O a with
 | none=>rw [e] at h; cases h
 | some l=>rw [e] at h; exact ⟨l.1,l.2,rfl,(Option.some.inj h).symm⟩
theorem ca {i j:Nat} : 2 * i≠2 * j + 1:=by omega
theorem RO.setO {d:D} {v:V} (h:RO C ow G ρ σ H ((d,v) :: pd) O) {i:Nat} (hi:ow[i]? = some true) (hm:∀ v,C.mu[i]?≠some (some v)) (hn:C.np<=pd.length) :
 R C ow G (ρ.set i (some d)) (σ.set i (some v)) H pd:=by
 refine ⟨lab (λl π=>if l=2 * pd.length + 1 then (2 * i,π) else (l,π)) O,by simp [h.len],h.gh,h.g0,h.gn,?_,h.cok,h.fr,h.ft,h.al,?_,?_,?_,hn⟩
 ·intro a m e
  obtain ⟨l,π,e1,rfl⟩:=gD e
  obtain ⟨q1,q2,q3⟩:=h.og a _ e1
  refine ⟨q1,q2,?_⟩
  try dsimp only
  split
  ·rename_i z
   rcases q3 with q3 | ⟨_,q3⟩
   ·exact .inl q3
   ·rcases h.cok _ _ _ q3 with ⟨k,_,q4,_⟩ | ⟨k,q4,q5⟩
    ·exact absurd (q4.symm.trans z) ca
    ·omega
  ·exact q3
 ·intro j u e
  have:i≠j:=λz=>hm u (z ▸ e)
  rw [List.getElem?_set_ne this]
  exact h.mp j u e
 ·intro j e q
  rcases dq q with ⟨rfl,z⟩ | ⟨z,q'⟩
  ·cases z
   have hl:j<σ.length:=by have:=dA q; rw [List.length_set,h.len] at this; exact this
   refine ⟨v,by rw [List.getElem?_set_self hl],?_⟩
   rw [if_pos hi]
   exact h.pn.1.keep (λ_ _ z=>z) λa τ q=>⟨by rw [bI q,if_pos rfl],rfl⟩
  ·obtain ⟨u,h1,h2⟩:=h.sl j e q'
   refine ⟨u,by rw [List.getElem?_set_ne (Ne.symm z)]; exact h1,?_⟩
   split at h2
   ·rename_i c; rw [if_pos c]; exact h2.keep (λ_ _ z=>z) λa τ q=>⟨by rw [bI q,if_neg ca],rfl⟩
   ·rename_i c; rw [if_neg c]; exact h2
 ·exact bG.keep (λ_ _ z=>z) (λa j π hj q=>⟨by rw [bI q,if_neg (by omega)],rfl⟩) h.pn.2
theorem RO.move (h:RO C ow G ρ σ H pd O) {i:Nat} {d:D} (e : ρ[i]? = some (some d)) (hi:ow[i]? = some true) (hm:∀ v,C.mu[i]?≠some (some v)) :
 ∃ v,σ[i]? = some (some v)/\R C ow G (ρ.set i none) σ H ((d,v) :: pd):=by
 obtain ⟨v,hv,s⟩:=h.sl i d e
 rw [if_pos hi] at s
 refine ⟨v,hv,lab (λl π=>if l=2 * i then (2 * pd.length + 1,π) else (l,π)) O,by simp [h.len],h.gh,h.g0,h.gn,?_,h.cok,h.fr,h.ft,h.al,h.mp,?_,⟨?_,?_⟩,Nat.le_succ_of_le h.np⟩
 ·intro a m e
  obtain ⟨l,π,e1,rfl⟩:=gD e
  obtain ⟨q1,q2,q3⟩:=h.og a _ e1
  refine ⟨q1,q2,?_⟩
  try dsimp only
  split
  ·rename_i z
   rcases q3 with q3 | ⟨_,q3⟩
   ·exact .inl q3
   ·rcases h.cok _ _ _ q3 with ⟨k,u,q4,q5⟩ | ⟨k,q4,_⟩
    ·have:k=i:=by have:=q4.symm.trans z; omega
     exact absurd (this ▸ q5) (hm u)
    ·omega
  ·exact q3
 ·intro j e q
  rcases dq q with ⟨rfl,z⟩ | ⟨z,q'⟩
  ·cases z
  ·obtain ⟨u,h1,h2⟩:=h.sl j e q'
   refine ⟨u,h1,?_⟩
   split at h2
   ·rename_i c; rw [if_pos c]; exact h2.keep (λ_ _ z=>z) λa τ q=>⟨by rw [bI q,if_neg (by omega)],rfl⟩
   ·rename_i c; rw [if_neg c]; exact h2
 ·exact s.keep (λ_ _ z=>z) λa τ q=>⟨by rw [bI q,if_pos rfl],rfl⟩
 ·exact bG.keep (λ_ _ z=>z) (λa j π hj q=>⟨by rw [bI q,if_neg (λz=>ca z.symm)],rfl⟩) h.pn
def hasL (O:Own) (l:Nat) (a:Addr):Bool:=match O a with
 | some m=>m.1 == l
 | none=>false
theorem dZ {l:Nat} {a:Addr}:hasL O l a=true↔∃ π,O a=some (l,π):=by
 unfold hasL
 cases e:O a with
 | none=>simp
 | some m=>obtain ⟨m1,m2⟩:=m; simp
theorem RO.share {d:D} {v:V} (h:RO C ow G ρ σ H ((d,v) :: pd) O) (hn:C.np<=pd.length):∃ G',aB G G'/\R C ow G' ρ σ H pd/\Rep G' d v:=by
 let l₀:=2 * pd.length + 1
 let G':Hp:=λa=>if hasL O l₀ a=true then H a else G a
 have sG:aB G G':=λa o e=>by
  show (if _ then _ else _)=_
  split
  ·exact h.gh _ _ e
  ·exact e
 have inH:∀ a τ (o:HO),O a=some (l₀,τ)->H a=some o->G' a=some o:=λa τ xs q e=>by
  show (if _ then _ else _)=_
  rw [if_pos (dZ.mpr ⟨_,q⟩)]; exact e
 refine ⟨G',sG,⟨λa=>if hasL O l₀ a=true then none else O a,h.len,?_,λa o e=>sG _ _ (h.g0 _ _ e),?_,?_,h.cok,h.fr,(λa ps q e=>by
  show (if _ then _ else _)=_
  split
  ·rename_i c
   obtain ⟨τ,c⟩:=dZ.mp c
   obtain ⟨_,⟨xs,z⟩,_⟩:=h.og a _ c
   rw [z] at e; exact absurd (Option.some.inj e) (WrO.nt xs _ _)
  ·exact h.ft a ps q e),h.al,h.mp,?_,?_,hn⟩,h.pn.1.rep sG.ts d [] v (λa τ xs q e=>inH a _ xs q e)⟩
 ·intro a o e
  change (if _ then _ else _)=_ at e
  split at e
  ·exact e
  ·exact h.gh _ _ e
 ·intro a o e
  change (if _ then _ else _)=_ at e
  split at e
  ·rename_i c
   obtain ⟨π,q⟩:=dZ.mp c
   obtain ⟨_,_,q3⟩:=h.og a _ q
   rcases q3 with q3 | ⟨_,q3⟩
   ·exact .inr q3
   ·rcases h.cok _ _ _ q3 with ⟨k,_,q4,_⟩ | ⟨k,q4,q5⟩
    ·exact absurd q4.symm ca
    ·have q4' : 2 * pd.length + 1=2 * k + 1:=q4
     omega
  ·exact h.gn a o e
 ·intro a l e
  try dsimp only at e
  split at e
  ·cases e
  ·rename_i c
   obtain ⟨q1,q2,q3⟩:=h.og a l e
   exact ⟨by show (if _ then _ else _)=_; rw [if_neg c]; exact q1,q2,q3⟩
 ·intro j e q
  obtain ⟨u,h1,h2⟩:=h.sl j e q
  refine ⟨u,h1,?_⟩
  split at h2
  ·rename_i c; rw [if_pos c]
   refine h2.keep sG.ts λa τ q=>⟨?_,rfl⟩
   rw [if_neg,q]
   intro z
   obtain ⟨π,z⟩:=dZ.mp z
   rw [q] at z
   have:=(Prod.mk.inj (Option.some.inj z)).1
   omega
  ·rename_i c; rw [if_neg c]; exact h2.mono sG
 ·refine bG.keep sG.ts (λa j π hj q=>⟨?_,rfl⟩) h.pn.2
  rw [if_neg,q]
  intro z
  obtain ⟨π,z⟩:=dZ.mp z
  rw [q] at z
  have:=(Prod.mk.inj (Option.some.inj z)).1
  omega
theorem RO.write (h:RO C ow G ρ σ H pd O) {i:Nat} {ds:List D} (e : ρ[i]? = some (some (.lst ds))) (hi:ow[i]? = some true) :
 ∃ a xs,σ[i]? = some (some (.ref a))/\H a=some (.lst xs)/\Seps G H O (2 * i) ds 0 [] xs /\
  ∀ ds' xs',Seps G H O (2 * i) ds' 0 [] xs'->RO C ow G (ρ.set i (some (.lst ds'))) σ (upd H a (.lst xs')) pd O:=by
 obtain ⟨v,hv,s⟩:=h.sl i _ e
 rw [if_pos hi,Sep] at s
 obtain ⟨a,xs,rfl,hO,hH,hs⟩:=s
 refine ⟨a,xs,hv,hH,hs,λds' xs' hs'=>?_⟩
 obtain ⟨g0,_,nw⟩:=h.og a _ hO
 have ne:∀ b l π,O b=some (l,π)->(l≠2 * i\/π≠[])->b≠a:=λb l π q n z=>by
  subst z
  rw [hO] at q
  obtain ⟨q1,q2⟩:=Prod.mk.inj (Option.some.inj q)
  rcases n with n | n
  ·exact n q1.symm
  ·exact n q2.symm
 refine ⟨by simp [h.len],?_,h.g0,h.gn,?_,h.cok,?_,?_,?_,h.mp,?_,?_,h.np⟩
 ·intro b o q
  rw [ah (λz=>by rw [z,g0] at q; cases q)]; exact h.gh _ _ q
 ·intro b l q
  obtain ⟨q1,⟨ys,q2⟩,q3⟩:=h.og b l q
  refine ⟨q1,?_,q3⟩
  by_cases z:b=a
  ·subst z; exact ⟨.inl _,ay⟩
  ·rw [ah z]; exact ⟨ys,q2⟩
 ·intro b o q n t
  by_cases z:b=a
  ·subst z
   rcases nw with nw | ⟨_,nw⟩
   ·rw [nw] at q; cases q
   ·rw [nw] at n; cases n
  ·rw [ah z]; exact h.fr b o q n t
 ·intro b ps q e
  by_cases z:b=a
  ·subst z; rw [ay] at e; cases e
  ·rw [ah z] at e; exact h.ft b ps q e
 ·intro b q
  by_cases z:b=a
  ·subst z; rw [ay] at q; cases q
  ·rw [ah z] at q; exact h.al b q
 ·intro j u q
  rcases dq q with ⟨rfl,z⟩ | ⟨z,q'⟩
  ·cases z
   refine ⟨_,hv,?_⟩
   rw [if_pos hi,Sep]
   exact ⟨a,xs',rfl,hO,ay,hs'.keep (λ_ _ z=>z) λb τ hτ q=>⟨q,ah (ne b _ _ q (.inr (by simpa using hτ)))⟩⟩
  ·obtain ⟨w,h1,h2⟩:=h.sl j u q'
   refine ⟨w,h1,?_⟩
   split at h2
   ·rename_i c; rw [if_pos c]; exact h2.keep (λ_ _ z=>z) λb τ q=>⟨q,ah (ne b _ _ q (.inl (by omega)))⟩
   ·rename_i c; rw [if_neg c]; exact h2
 ·exact bG.keep (λ_ _ z=>z) (λb j π hj q=>⟨q,ah (ne b _ _ q (.inl (λz=>ca z.symm)))⟩) h.pn
theorem RO.join {d:D} {v:V} (h:RO C ow G ρ σ H ((d,v) :: pd) O) (i n:Nat) (hn:C.np<=pd.length) :
 ∃ O',RO C ow G ρ σ H pd O'/\Sep G H O' (2 * i) d [n] v/\∀ (l:Nat) ds k π xs,l≠2 * pd.length + 1->Seps G H O l ds k π xs->Seps G H O' l ds k π xs:=by
 refine ⟨lab (λl π=>if l=2 * pd.length + 1 then (2 * i,π++[n]) else (l,π)) O,⟨h.len,h.gh,h.g0,h.gn,?_,h.cok,h.fr,h.ft,h.al,h.mp,?_,?_,hn⟩,?_,?_⟩
 ·intro a m e
  obtain ⟨l,π,e1,rfl⟩:=gD e
  obtain ⟨q1,q2,q3⟩:=h.og a _ e1
  refine ⟨q1,q2,?_⟩
  try dsimp only
  split
  ·rename_i z
   rcases q3 with q3 | ⟨_,q3⟩
   ·exact .inl q3
   ·rcases h.cok _ _ _ q3 with ⟨k,_,q4,_⟩ | ⟨k,q4,q5⟩
    ·exact absurd (q4.symm.trans z) ca
    ·omega
  ·exact q3
 ·intro j e q
  obtain ⟨u,h1,h2⟩:=h.sl j e q
  refine ⟨u,h1,?_⟩
  split at h2
  ·rename_i c; rw [if_pos c]; exact h2.keep (λ_ _ z=>z) λa τ q=>⟨by rw [bI q,if_neg ca],rfl⟩
  ·rename_i c; rw [if_neg c]; exact h2
 ·exact bG.keep (λ_ _ z=>z) (λa j π hj q=>⟨by rw [bI q,if_neg (by omega)],rfl⟩) h.pn.2
 ·exact Sep.map (f:=λπ=>π++[n]) (λ_ _ z=>z) (λ_ _=>rfl) d [] v (λa τ q=>⟨by rw [bI q,if_pos rfl],rfl⟩) h.pn.1
 ·intro l ds k π xs hl hs
  exact hs.keep (λ_ _ z=>z) λa τ _ q=>⟨by rw [bI q,if_neg hl],rfl⟩
end
def bor (js:List Nat) (ow:List Bool):List Bool:=ow.mapIdx λj b=>b && !js.contains j
theorem cz {js:List Nat} {ow:List Bool} {j:Nat}:(bor js ow)[j]? = some true↔ow[j]? = some true/\js.contains j=false:=by
 unfold bor
 rw [List.getElem?_mapIdx]
 cases e:ow[j]? with
 | none=>simp
 | some b=>cases b <;> simp
def kj (ρ:DSt) (js:List Nat) (n l:Nat):Bool:=if l % 2=0 then (match ρ[l / 2]? with | some (some _)=>!js.contains (l / 2) | _=>false) else decide (l / 2<n)
def gW (js:List Nat) (l:Nat):Bool:=decide (l % 2=0)&&js.contains (l / 2)
def cJ (f:Nat->Bool) (O:Own):Own:=λa=>match O a with
 | some m=>if f m.1=true then some m else none
 | none=>none
theorem fw {f:Nat->Bool} {O:Own} {a:Addr} {m:Nat×List Nat} (h:O a=some m) (hf:f m.1=true):cJ f O a=some m:=by unfold cJ; rw [h]; show (if _ then _ else _)=_; rw [if_pos hf]
theorem cE {f:Nat->Bool} {O:Own} {a:Addr} {m:Nat×List Nat} (h:cJ f O a=some m):O a=some m/\f m.1=true:=by
 unfold cJ at h
 cases e:O a with
 | none=>rw [e] at h; cases h
 | some n =>
  rw [e] at h
  change (if _ then _ else _)=_ at h
  split at h
  ·rename_i c; cases h; exact ⟨rfl,c⟩
  ·cases h
def isSm {α:Type}:Option α->Bool
 | some _=>true
 | none=>false
section
variable {C:Ctx} {ow:List Bool} {G:Hp} {ρ:DSt} {σ:St} {H:Hp} {pd:List (D×V)} {O:Own}
def gBor (js:List Nat) (G H:Hp) (O:Own):Hp:=λa=>if isSm (cJ (gW js) O a)=true then H a else G a
def cBor (js:List Nat) (G H:Hp) (O:Own) (ρ:DSt) (σ:St) (n:Nat):Ctx:=⟨gBor js G H O,H,cJ (kj ρ js n) O,σ,n⟩
theorem g_ (h:RO C ow G ρ σ H pd O) (js:List Nat):aB G (gBor js G H O):=λa o e=>by
 show (if _ then _ else _)=_
 split
 ·exact h.gh _ _ e
 ·exact e
theorem gg {α:Type} {o:Option α} (h:isSm o=true):∃ x,o=some x:=by cases o with | none=>cases h | some x=>exact ⟨x,rfl⟩
theorem RO.enter (h:RO C ow G ρ σ H pd O) (js:List Nat):RO (cBor js G H O ρ σ pd.length) (bor js ow) (gBor js G H O) ρ σ H pd (cJ (kj ρ js pd.length) O):=by
 have sG:=g_ h js
 refine ⟨h.len,?_,λ_ _ e=>e,λ_ _ e=>.inl e,?_,?_,λ_ _ e _ _=>e,(λa ps q e=>by
  show (if _ then _ else _)=_
  split
  ·rename_i c
   obtain ⟨m,c⟩:=gg c
   obtain ⟨_,⟨xs,z⟩,_⟩:=h.og a m (cE c).1
   rw [z] at e; exact absurd (Option.some.inj e) (WrO.nt xs _ _)
  ·exact h.ft a ps q e),λ_ e=>e,λ_ _ e=>e,?_,?_,Nat.le_refl _⟩
 ·intro a o e
  change (if _ then _ else _)=_ at e
  split at e
  ·exact e
  ·exact h.gh _ _ e
 ·intro a l e
  obtain ⟨e1,e2⟩:=cE e
  obtain ⟨q1,q2,q3⟩:=h.og a l e1
  refine ⟨?_,q2,.inr ⟨l.2,e⟩⟩
  ·show (if _ then _ else _)=_
   rw [if_neg]; exact q1
   intro z
   obtain ⟨m,z⟩:=gg z
   obtain ⟨z1,z2⟩:=cE z
   rw [e1] at z1; cases z1
   unfold gW at z2; unfold kj at e2
   simp only [Bool.and_eq_true,decide_eq_true_eq] at z2
   rw [if_pos z2.1] at e2
   split at e2
   ·rw [z2.2] at e2; cases e2
   ·cases e2
 ·intro a l π e
  obtain ⟨e1,e2⟩:=cE e
  unfold kj at e2
  split at e2
  ·rename_i c
   split at e2
   ·rename_i d hd
    obtain ⟨v,hv,_⟩:=h.sl _ _ hd
    exact .inl ⟨l / 2,v,by omega,hv⟩
   ·cases e2
  ·exact .inr ⟨l / 2,by omega,of_decide_eq_true e2⟩
 ·intro j d e
  obtain ⟨v,h1,h2⟩:=h.sl j d e
  refine ⟨v,h1,?_⟩
  by_cases c:ow[j]? = some true
  ·rw [if_pos c] at h2
   by_cases c2:js.contains j=true
   ·rw [if_neg (λz=>by rw [cz] at z; rw [c2] at z; exact absurd z.2 (by decide))]
    refine h2.rep sG.ts d [] v λa τ xs q e=>?_
    show (if _ then _ else _)=_
    rw [if_pos]; exact e
    rw [fw q]; rfl
    unfold gW
    simp only [Bool.and_eq_true,decide_eq_true_eq]
    exact ⟨by omega,by rw [show 2 * j / 2=j by omega]; exact c2⟩
   ·rw [if_pos (cz.mpr ⟨c,by simpa using c2⟩)]
    refine h2.keep sG.ts λa τ q=>⟨fw q ?_,rfl⟩
    unfold kj
    show (if 2 * j % 2=0 then _ else _)=_
    rw [if_pos (by omega),show 2 * j / 2=j by omega,e]
    simp at c2 ⊢; exact c2
  ·rw [if_neg c] at h2
   rw [if_neg (λz=>c (cz.mp z).1)]
   exact h2.mono sG
 ·refine bG.keep sG.ts (λa j π hj q=>⟨fw q ?_,rfl⟩) h.pn
  unfold kj
  show (if (2 * j + 1) % 2=0 then _ else _)=_
  rw [if_neg (by omega),show (2 * j + 1) / 2=j by omega]
  simpa using hj
def Kp (ow:List Bool) (ρ ρ':DSt):Prop:=∀ (j:Nat),ow[j]?≠some true->ρ'[j]? = ρ[j]?
def jI (js:List Nat) (O:Own) (G2:Hp):Hp:=λa=>if isSm (cJ (gW js) O a)=true then none else G2 a
def qX (js:List Nat) (O O2:Own):Own:=λa=>match O2 a with
 | some l=>some l
 | none=>cJ (gW js) O a
theorem RO.leave (h:RO C ow G ρ σ H pd O) {js:List Nat} {G2:Hp} {ρ2:DSt} {H2:Hp} {pd2:List (D×V)} {O2:Own}
 (h2:RO (cBor js G H O ρ σ pd.length) (bor js ow) G2 ρ2 σ H2 pd2 O2) (kp:Kp (bor js ow) ρ ρ2) :
 RO C ow (jI js O G2) ρ2 σ H2 pd2 (qX js O O2)/\aB G (jI js O G2)/\cr G2 (jI js O G2):=by
 have sG:=g_ h js
 have dm:∀ a m,cJ (gW js) O a=some m->O a=some m/\G a=none/\∃ xs:WrO,H a=some xs.ho/\G2 a=some xs.ho:=λa m e=>by
  obtain ⟨e1,e2⟩:=cE e
  obtain ⟨q1,⟨xs,q2⟩,q3⟩:=h.og a m e1
  refine ⟨e1,q1,xs,q2,h2.g0 a _ ?_⟩
  show (if _ then _ else _)=_
  rw [if_pos (by rw [e]; rfl)]; exact q2
 have nd:∀ a,G a≠none->¬ isSm (cJ (gW js) O a)=true:=λa g z=>by
  obtain ⟨m,z⟩:=gg z
  exact g (dm a m z).2.1
 have sG3:aB G (jI js O G2):=λa o e=>by
  show (if _ then _ else _)=_
  rw [if_neg (nd a (by rw [e]; simp))]
  exact h2.g0 a o (sG a o e)
 have ts:cr G2 (jI js O G2):=λa xs e=>by
  show (if _ then _ else _)=_
  rw [if_neg]; exact e
  intro z
  obtain ⟨m,z⟩:=gg z
  obtain ⟨_,_,ys,_,q⟩:=dm a m z
  rw [e] at q; exact (WrO.ne (Option.some.inj q).symm).elim
 have o2:∀ a l,O2 a=some l->qX js O O2 a=some l:=λa l e=>by show (match O2 a with | some l=>some l | none=>_)=_; rw [e]
 refine ⟨⟨h2.len,?_,λa o e=>sG3 _ _ (h.g0 _ _ e),?_,?_,h.cok,?_,(λa ps q e=>by show (if _ then _ else _)=_; split <;> first | rfl | exact h2.ft a ps q e),λa e=>h.al a (h2.al a e),h.mp,?_,?_,Nat.le_trans h.np h2.np⟩,sG3,ts⟩
 ·intro a o e
  change (if _ then _ else _)=_ at e
  split at e
  ·cases e
  ·exact h2.gh _ _ e
 ·intro a o e
  change (if _ then _ else _)=_ at e
  split at e
  ·cases e
  ·rename_i c
   rcases h2.gn a o e with q | q
   ·change (if _ then _ else _)=_ at q
    rw [if_neg c] at q
    exact h.gn a o q
   ·exact .inr (h.al a q)
 ·intro a l e
  change (match O2 a with | some l=>some l | none=>_)=_ at e
  cases q:O2 a with
  | some l' =>
   rw [q] at e; cases e
   obtain ⟨q1,q2,q3⟩:=h2.og a l q
   refine ⟨by show (if _ then _ else _)=_; split <;> first | rfl | exact q1,q2,?_⟩
   rcases q3 with q3 | ⟨q3,q4⟩
   ·exact .inl (h.al a q3)
   ·exact (h.og a _ (cE q4).1).2.2
  | none =>
   rw [q] at e
   change cJ (gW js) O a=some l at e
   obtain ⟨e1,q1,xs,q2,q3⟩:=dm a l e
   refine ⟨by show (if _ then _ else _)=_; rw [if_pos (by rw [e]; rfl)],⟨xs,h2.gh _ _ q3⟩,(h.og a l e1).2.2⟩
 ·intro a o e n t
  have q:=h.fr a o e n t
  refine h2.fr a o q ?_ t
  show cJ _ O a=none
  cases z:cJ (kj ρ js pd.length) O a with
  | none=>rfl
  | some m =>
   obtain ⟨z1,_⟩:=cE z
   obtain ⟨_,_,z3⟩:=h.og a m z1
   rcases z3 with z3 | ⟨_,z3⟩
   ·rw [z3] at e; cases e
   ·rw [z3] at n; cases n
 ·intro j d e
  by_cases c:(bor js ow)[j]? = some true
  ·obtain ⟨v,q1,q2⟩:=h2.sl j d e
   rw [if_pos c] at q2
   refine ⟨v,q1,?_⟩
   rw [if_pos (cz.mp c).1]
   exact q2.keep ts λa τ q=>⟨o2 _ _ q,rfl⟩
  ·rw [kp j c] at e
   obtain ⟨v,q1,q2⟩:=h.sl j d e
   refine ⟨v,q1,?_⟩
   by_cases c2:ow[j]? = some true
   ·rw [if_pos c2] at q2 ⊢
    have hj:js.contains j=true:=by
     cases z:js.contains j with
     | true=>rfl
     | false=>exact absurd (cz.mpr ⟨c2,z⟩) c
    refine q2.keep sG3.ts λa τ q=>?_
    have dd:cJ (gW js) O a=some (2 * j,τ++[]):=fw q (by
     unfold gW
     simp only [Bool.and_eq_true,decide_eq_true_eq]
     exact ⟨by omega,by rw [show 2 * j / 2=j by omega]; exact hj⟩)
    obtain ⟨_,_,xs,q4,q5⟩:=dm a _ dd
    refine ⟨?_,by rw [q4]; exact h2.gh _ _ q5⟩
    show (match O2 a with | some l=>some l | none=>_)=_
    cases z:O2 a with
    | some l=>have:=(h2.og a l z).1; rw [q5] at this; cases this
    | none=>exact dd
   ·rw [if_neg c2] at q2 ⊢
    exact q2.mono sG3
 ·exact bG.keep ts (λa j π hj q=>⟨o2 _ _ q,rfl⟩) h2.pn
end
abbrev ME:=DSt->(D->DSt->Prop)->Prop
abbrev MT:=DSt->(Bool->DSt->Prop)->Prop
abbrev MA:=DSt->(List D->DSt->Prop)->Prop
def SE (ow:List Bool) (t:TE) (m:ME):Prop:=∀ (C:Ctx) (G:Hp) (ρ:DSt) (σ:St) (H:Hp) (pd:List (D×V)) (q:D->DSt->Prop) (Q:VK),R C ow G ρ σ H pd->m ρ q ->
 (∀ d ρ' v G' H',q d ρ'->aB G G'->Kp ow ρ ρ'->R C ow G' ρ' σ H' pd->Rep G' d v->Q v H')->t σ H Q
def SF (ow:List Bool) (t:TE) (m:ME):Prop:=∀ (C:Ctx) (G:Hp) (ρ:DSt) (σ:St) (H:Hp) (pd:List (D×V)) (q:D->DSt->Prop) (Q:VK),R C ow G ρ σ H pd->m ρ q ->
 (∀ d ρ' v G' H',q d ρ'->aB G G'->Kp ow ρ ρ'->R C ow G' ρ' σ H' ((d,v) :: pd)->Q v H')->t σ H Q
def STe (ow:List Bool) (t:TT) (m:MT):Prop:=∀ (C:Ctx) (G:Hp) (ρ:DSt) (σ:St) (H:Hp) (pd:List (D×V)) (q:Bool->DSt->Prop) (Q:Bool->Hp->Prop),R C ow G ρ σ H pd->m ρ q ->
 (∀ b ρ' G' H',q b ρ'->aB G G'->Kp ow ρ ρ'->R C ow G' ρ' σ H' pd->Q b H')->t σ H Q
def SA (ow:List Bool) (n:Nat) (t:TA) (m:MA):Prop:=∀ (C:Ctx) (G:Hp) (ρ:DSt) (σ:St) (H:Hp) (pd:List (D×V)) (q:List D->DSt->Prop) (Q:List V->Hp->Prop),R C ow G ρ σ H pd->m ρ q ->
 (∀ ds ρ' vs G' H',q ds ρ'->aB G G'->Kp ow ρ ρ'->R C ow G' ρ' σ H' pd->Reps G' ds vs->vs.length=n->Q vs H')->t σ H Q
structure QE (X:Cx) (ow:List Bool) (e:Expr) (m:ME):Prop where
 ex:∃ t,PE X e t/\SE ow t m
structure QF (X:Cx) (ow:List Bool) (e:Expr) (m:ME):Prop where
 ex:∃ t,PE X e t/\SF ow t m
structure QT (X:Cx) (ow:List Bool) (e:Expr) (m:MT):Prop where
 ex:∃ t,PT X e t/\STe ow t m
structure QW (X:Cx) (ow:List Bool) (e:Expr) (m:MT):Prop where
 ex:∃ t,PW X e t/\STe ow t m
structure QA (X:Cx) (ow:List Bool) (es:List Expr) (m:MA):Prop where
 ex:∃ t,PA X es t/\SA ow es.length t m
theorem Kp.refl {ow:List Bool} {ρ:DSt}:Kp ow ρ ρ:=λ_ _=>rfl
theorem Kp.trans {ow:List Bool} {ρ ρ1 ρ2:DSt} (a:Kp ow ρ ρ1) (b:Kp ow ρ1 ρ2):Kp ow ρ ρ2:=λj h=>(b j h).trans (a j h)
theorem R.gh {C:Ctx} {ow:List Bool} {G:Hp} {ρ:DSt} {σ:St} {H:Hp} {pd:List (D×V)} (h:R C ow G ρ σ H pd):aB G H:=let ⟨_,h⟩:=h; h.gh
theorem R.np {C:Ctx} {ow:List Bool} {G:Hp} {ρ:DSt} {σ:St} {H:Hp} {pd:List (D×V)} (h:R C ow G ρ σ H pd):C.np<=pd.length:=let ⟨_,h⟩:=h; h.np
section
variable {X:Cx} {ow:List Bool} {a b c e:Expr} {ma mb mc:ME} {pos:Pos}
def mVar (i:Nat):ME:=λρ q=>match ρ[i]? with
 | some (some d)=>q d ρ
 | _=>False
theorem aa (i:Nat) {x:Str} (hs:ow[i]?≠some true:=by decide) (hN:X.N[i]? = some x:=by rfl) (hv:Vis X.env.scope x:=by first | exact Or.inl rfl | exact Or.inr (Or.inl rfl) | exact Or.inr (Or.inr rfl)) (hd:(x == ("__debug__":Str))=false:=by decide)
 (hcd:(x == ("__classdict__":Str))=false:=by decide):QE X ow (.Name x pos) (mVar i):=⟨_,cF hN hv hd hcd,λC G ρ σ H pd q Q r h k=>by
 unfold mVar at h
 split at h
 ·rename_i d e
  obtain ⟨O,ro⟩:=r
  obtain ⟨v,h1,h2⟩:=ro.sl i d e
  rw [if_neg hs] at h2
  exact ⟨v,h1,k d ρ v G H h (aB.refl _) Kp.refl ⟨O,ro⟩ h2⟩
 ·exact h.elim⟩
def mC (d:D):ME:=λρ q=>q d ρ
theorem qe_c {v:V} {d:D} (h:PE X e (tC v)) (hr:∀ G,Rep G d v):QE X ow e (mC d):=⟨_,h,λC G ρ σ H pd q Q r h k=>k d ρ v G H h (aB.refl _) Kp.refl r (hr G)⟩
theorem ad {i j}:QE X ow (.Constant (.int i) j pos) (mC (.int i)):=qe_c iE λ_=>bq _
theorem dX {i j}:QE X ow (.Constant (.bool i) j pos) (mC (.bl i)):=qe_c pe_bl λ_=>bZ _
theorem dU {x:Str} {i:Int} (hg:Gl X x) (hm:∃ t,X.mg x=some (.int i t)) (hd:(x == ("__debug__":Str))=false:=by decide):QE X ow (.Name x pos) (mC (.int i)):=by
 obtain ⟨t,hm⟩:=hm
 exact qe_c (p6 (v:=.int i) hg hm ⟨t,rfl⟩ hd) λ_=>bq _
theorem iJ {ta tb:TE} (ha:SE ow ta ma) (hb:SE ow tb mb) {C:Ctx} {G:Hp} {ρ:DSt} {σ:St} {H:Hp} {pd:List (D×V)} {f:D->D->DSt->Prop} {Q:V->V->Hp->Prop}
 (r:R C ow G ρ σ H pd) (h:ma ρ λx ρ1=>mb ρ1 λy ρ2=>f x y ρ2)
 (k:∀ dx dy ρ' x y G' H',f dx dy ρ'->aB G G'->Kp ow ρ ρ'->R C ow G' ρ' σ H' pd->Rep G' dx x->Rep G' dy y->Q x y H'):ta σ H λx H1=>tb σ H1 λy H2=>Q x y H2:=by
 refine ha C G ρ σ H pd _ _ r h λdx ρ1 x G1 H1 h1 s1 k1 r1 p1=>?_
 refine hb C G1 ρ1 σ H1 pd _ _ r1 h1 λdy ρ2 y G2 H2 h2 s2 k2 r2 p2=>?_
 exact k dx dy ρ2 x y G2 H2 h2 (s1.trans s2) (k1.trans k2) r2 (Rep.mono s2 _ _ p1) p2
def DOp (r:R2) (f:D->D->(D->Prop)->Prop):Prop:=∀ (G H:Hp) (x y:V) (dx dy:D) (q:D->Prop) (Q:VK),aB G H->Rep G dx x->Rep G dy y->f dx dy q->(∀ d v,q d->Rep G d v->Q v H)->r x y H Q
def mOp (f:D->D->(D->Prop)->Prop) (ma mb:ME):ME:=λρ q=>ma ρ λx ρ1=>mb ρ1 λy ρ2=>f x y λd=>q d ρ2
theorem kD {r:R2} {f:D->D->(D->Prop)->Prop} {ta tb:TE} (hd:DOp r f) (ha:SE ow ta ma) (hb:SE ow tb mb):SE ow (tOp r ta tb) (mOp f ma mb):=λC G ρ σ H pd q Q hr h k=>by
 refine iJ ha hb hr h λdx dy ρ' x y G' H' hf s kp r' p1 p2=>?_
 exact hd G' H' x y dx dy _ _ r'.gh p1 p2 hf λd v hq p=>k d ρ' v G' H' hq s kp r' p
theorem aE {op:Operator} {r:R2} {f:D->D->(D->Prop)->Prop} (ho:OpR X (binaryOp op) r) (hd:DOp r f) (ha:QE X ow a ma) (hb:QE X ow b mb):QE X ow (.BinOp a op b pos) (mOp f ma mb):=by
 obtain ⟨ta,pa,sa⟩:=ha; obtain ⟨tb,pb,sb⟩:=hb
 exact ⟨_,kR ho pa pb,kD hd sa sb⟩
theorem gA {op:CmpOp} {r:R2} {f:D->D->(D->Prop)->Prop} (ho:OpR X (compareOp op) r) (hd:DOp r f) (ha:QE X ow a ma) (hb:QE X ow b mb) (hm:behindInMarks op b=false):QE X ow (.Compare a [op] [b] pos) (mOp f ma mb):=by
 obtain ⟨ta,pa,sa⟩:=ha; obtain ⟨tb,pb,sb⟩:=hb
 exact ⟨_,pA ho pa pb hm,kD hd sa sb⟩
theorem aF {r:R2} {f:D->D->(D->Prop)->Prop} (ho:IxR X r) (hd:DOp r f) (ha:QE X ow a ma) (hb:QE X ow b mb) (hs:iB b):QE X ow (.Subscript a b pos) (mOp f ma mb):=by
 obtain ⟨ta,pa,sa⟩:=ha; obtain ⟨tb,pb,sb⟩:=hb
 exact ⟨_,qH ho pa pb hs,kD hd sa sb⟩
def mB (m:ME):MT:=λρ q=>m ρ λd ρ'=>match d with
 | .bl b=>q b ρ'
 | _=>False
theorem cC {G:Hp} {b:Bool} {v:V} (h:Rep G (.bl b) v):v = .bl b:=by rw [Rep] at h; exact h
theorem ax {G:Hp} {b:Int} {v:V} (h:Rep G (.int b) v):v = .int b:=by rw [Rep] at h; exact h
theorem qT {t:TE} {m:ME} (h:SE ow t m):STe ow (qK t) (mB m):=λC G ρ σ H pd q Q r hm k=>by
 refine h C G ρ σ H pd _ _ r hm λd ρ' v G' H' hq s kp r' p=>?_
 cases d with
 | bl b=>exact ⟨b,cC p,k b ρ' G' H' hq s kp r'⟩
 | _=>exact hq.elim
theorem a4 {op:CmpOp} {r:R2} {f:D->D->(D->Prop)->Prop} (ho:OpR X (compareOp op) r) (hd:DOp r f) (ha:QE X ow a ma) (hb:QE X ow b mb) (hm:behindInMarks op b=false):QT X ow (.Compare a [op] [b] pos) (mB (mOp f ma mb)):=by
 obtain ⟨ta,pa,sa⟩:=ha; obtain ⟨tb,pb,sb⟩:=hb
 exact ⟨_,pC ho pa pb hm,qT (kD hd sa sb)⟩
theorem bg (h:QE X ow e ma) (he:∀ whole,isTrue e X.env whole=(do let v <- whole; standAt e.pos; holding [v] (truthy v)):=by intro _; rfl):QT X ow e (mB ma):=by
 obtain ⟨ta,pa,sa⟩:=h
 exact ⟨_,sm pa he,qT sa⟩
def mIf {α:Type} (m:MT) (x y:DSt->(α->DSt->Prop)->Prop):DSt->(α->DSt->Prop)->Prop:=λρ q=>m ρ λb ρ1=>if b=true then x ρ1 q else y ρ1 q
def nA (b:Bool):MT:=λρ q=>q b ρ
theorem qR {t t1 t2:TT} {m m1 m2:MT} (h:STe ow t m) (h1:STe ow t1 m1) (h2:STe ow t2 m2):STe ow (λσ H Q=>t σ H λc H1=>if c=true then t1 σ H1 Q else t2 σ H1 Q) (mIf m m1 m2):=λC G ρ σ H pd q Q r hm k=>by
 refine h C G ρ σ H pd _ _ r hm λb ρ' G' H' hq s kp r'=>?_
 cases b with
 | true=>rw [if_pos rfl] at hq ⊢; exact h1 C G' ρ' σ H' pd _ _ r' hq λb ρ2 G2 H2 hq2 s2 kp2 r2=>k b ρ2 G2 H2 hq2 (s.trans s2) (kp.trans kp2) r2
 | false=>rw [if_neg (by decide)] at hq ⊢; exact h2 C G' ρ' σ H' pd _ _ r' hq λb ρ2 G2 H2 hq2 s2 kp2 r2=>k b ρ2 G2 H2 hq2 (s.trans s2) (kp.trans kp2) r2
theorem ke (b:Bool):STe ow (λ_ H Q=>Q b H) (nA b):=λC G ρ σ H pd q Q r hm k=>k b ρ G H hm (aB.refl _) Kp.refl r
variable {mt mu mv:MT} {rest:List Expr}
theorem kW (h:QT X ow a mt):QW X ow (.BoolOp .And [a] pos) mt:=by obtain ⟨t,p,s⟩:=h; exact ⟨_,qc p,s⟩
theorem eS (h:QT X ow a mt):QW X ow (.BoolOp .Or [a] pos) mt:=by obtain ⟨t,p,s⟩:=h; exact ⟨_,tV p,s⟩
theorem m9 (h:QT X ow a mt) (h2:QW X ow (.BoolOp .And (b :: rest) pos) mu):QW X ow (.BoolOp .And (a :: b :: rest) pos) (mIf mt mu (nA false)):=by
 obtain ⟨t,p,s⟩:=h; obtain ⟨t2,p2,s2⟩:=h2; exact ⟨_,tu p p2,qR s s2 (ke false)⟩
theorem fU (h:QT X ow a mt) (h2:QW X ow (.BoolOp .Or (b :: rest) pos) mu):QW X ow (.BoolOp .Or (a :: b :: rest) pos) (mIf mt (nA true) mu):=by
 obtain ⟨t,p,s⟩:=h; obtain ⟨t2,p2,s2⟩:=h2; exact ⟨_,pw_or p p2,qR s (ke true) s2⟩
theorem QW.qt (h:QW X ow e mt):QT X ow e mt:=by obtain ⟨t,p,s⟩:=h; exact ⟨_,p.pt,s⟩
def mNot (m:MT):MT:=λρ q=>m ρ λb ρ'=>q (!b) ρ'
theorem bz (h:QT X ow a mt):QT X ow (.UnaryOp .Not a pos) (mNot mt):=by
 obtain ⟨t,p,s⟩:=h
 exact ⟨_,so p,λC G ρ σ H pd q Q r hm k=>s C G ρ σ H pd _ _ r hm λb ρ' G' H' hq s kp r'=>k _ ρ' G' H' hq s kp r'⟩
def mV (m:MT):ME:=λρ q=>m ρ λb ρ'=>q (.bl b) ρ'
theorem gC {op} (h:QE X ow a ma):QE X ow (.BoolOp op [a] pos) ma:=by obtain ⟨t,p,s⟩:=h; exact ⟨_,sD p,s⟩
theorem rP (h:QE X ow a ma):QE X ow (.UnaryOp .Not a pos) (mV (mNot (mB ma))):=by
 obtain ⟨t,p,s⟩:=h
 refine ⟨_,tw p,λC G ρ σ H pd q Q r hm k=>?_⟩
 refine s C G ρ σ H pd _ _ r hm λd ρ' v G' H' hq s kp r' p=>?_
 cases d with
 | bl b=>exact ⟨b,cC p,k _ ρ' _ G' H' hq s kp r' (bZ _)⟩
 | _=>exact hq.elim
theorem eT (h:QE X ow a ma) (h2:QE X ow (.BoolOp .And (b :: rest) pos) mb):QE X ow (.BoolOp .And (a :: b :: rest) pos) (mIf (mB ma) mb (mC (.bl false))):=by
 obtain ⟨t,p,s⟩:=h; obtain ⟨t2,p2,s2⟩:=h2
 refine ⟨_,tJ p p2,λC G ρ σ H pd q Q r hm k=>?_⟩
 refine s C G ρ σ H pd _ _ r hm λd ρ' v G' H' hq s kp r' p=>?_
 cases d with
 | bl b =>
  refine ⟨b,cC p,?_⟩
  change (if b=true then _ else _) at hq
  cases b with
  | true=>rw [if_pos rfl] at hq ⊢; exact s2 C G' ρ' σ H' pd _ _ r' hq λd ρ2 v G2 H2 hq2 z2 kp2 r2 p2=>k d ρ2 v G2 H2 hq2 (s.trans z2) (kp.trans kp2) r2 p2
  | false=>rw [if_neg (by decide)] at hq ⊢; exact k _ ρ' _ G' H' hq s kp r' (bZ _)
 | _=>exact hq.elim
theorem QF.qe (h:QF X ow e ma):QE X ow e ma:=by
 obtain ⟨t,p,s⟩:=h
 refine ⟨_,p,λC G ρ σ H pd q Q r hm k=>s C G ρ σ H pd _ _ r hm λd ρ' v G' H' hq s kp r'=>?_⟩
 obtain ⟨O,r'⟩:=r'
 obtain ⟨G2,s2,r2,p2⟩:=r'.share r.np
 exact k d ρ' v G2 H' hq (s.trans s2) kp r2 p2
def mImm (m:ME):ME:=λρ q=>m ρ λd ρ'=>imm d=true/\q d ρ'
theorem QE.qf (h:QE X ow e ma):QF X ow e (mImm ma):=by
 obtain ⟨t,p,s⟩:=h
 refine ⟨_,p,λC G ρ σ H pd q Q r hm k=>s C G ρ σ H pd _ _ r hm λd ρ' v G' H' hq s kp r' p=>?_⟩
 obtain ⟨O,r'⟩:=r'
 exact k d ρ' v G' H' hq.2 s kp ⟨O,r'.len,r'.gh,r'.g0,r'.gn,r'.og,r'.cok,r'.fr,r'.ft,r'.al,r'.mp,r'.sl,⟨p.sep d [] v hq.1,r'.pn⟩,Nat.le_succ_of_le r'.np⟩
theorem j8 {js:List Nat} {ρ ρ':DSt} (h:Kp (bor js ow) ρ ρ'):Kp ow ρ ρ':=λj n=>h j λz=>n (cz.mp z).1
theorem QE.bor (js:List Nat) (h:QE X (bor js ow) e ma):QE X ow e (mImm ma):=by
 obtain ⟨t,p,s⟩:=h
 refine ⟨_,p,λC G ρ σ H pd q Q r hm k=>?_⟩
 obtain ⟨O,r⟩:=r
 refine s _ _ ρ σ H pd _ _ ⟨_,r.enter js⟩ hm λd ρ' v G' H' hq s kp r' p=>?_
 obtain ⟨O',r'⟩:=r'
 obtain ⟨r2,s2,ts⟩:=r.leave r' kp
 exact k d ρ' v _ H' hq.2 s2 (j8 kp) ⟨_,r2⟩ (p.imms ts d v hq.1)
theorem QF.bor (js:List Nat) (h:QF X (bor js ow) e ma):QF X ow e ma:=by
 obtain ⟨t,p,s⟩:=h
 refine ⟨_,p,λC G ρ σ H pd q Q r hm k=>?_⟩
 obtain ⟨O,r⟩:=r
 refine s _ _ ρ σ H pd _ _ ⟨_,r.enter js⟩ hm λd ρ' v G' H' hq s kp r'=>?_
 obtain ⟨O',r'⟩:=r'
 obtain ⟨r2,s2,ts⟩:=r.leave r' kp
 exact k d ρ' v _ H' hq s2 (j8 kp) ⟨_,r2⟩
theorem QT.bor (js:List Nat) (h:QT X (bor js ow) e mt):QT X ow e mt:=by
 obtain ⟨t,p,s⟩:=h
 refine ⟨_,p,λC G ρ σ H pd q Q r hm k=>?_⟩
 obtain ⟨O,r⟩:=r
 refine s _ _ ρ σ H pd _ _ ⟨_,r.enter js⟩ hm λd ρ' G' H' hq s kp r'=>?_
 obtain ⟨O',r'⟩:=r'
 obtain ⟨r2,s2,ts⟩:=r.leave r' kp
 exact k d ρ' _ H' hq s2 (j8 kp) ⟨_,r2⟩
def lP:MA:=λρ q=>q [] ρ
def eI (m:ME) (r:MA):MA:=λρ q=>m ρ λd ρ1=>r ρ1 λds ρ2=>q (d :: ds) ρ2
variable {mr:MA} {es:List Expr}
theorem aj:QA X ow [] lP:=⟨_,dl,λC G ρ σ H pd q Q r h k=>k [] ρ [] G H h (aB.refl _) Kp.refl r bj rfl⟩
theorem af (ha:QE X ow e ma) (hr:QA X ow es mr) (hs:starEach (e :: es) X.env=(false,eval e X.env) :: starEach es X.env:=by rfl):QA X ow (e :: es) (eI ma mr):=by
 obtain ⟨t,p,s⟩:=ha; obtain ⟨t2,p2,s2⟩:=hr
 refine ⟨_,bC p p2 hs,λC G ρ σ H pd q Q r hm k=>?_⟩
 refine s C G ρ σ H pd _ _ r hm λd ρ' v G' H' hq z kp r' p=>?_
 refine s2 C G' ρ' σ H' pd _ _ r' hq λds ρ2 vs G2 H2 hq2 z2 kp2 r2 p2 hl=>?_
 exact k (d :: ds) ρ2 (v :: vs) G2 H2 hq2 (z.trans z2) (kp.trans kp2) r2 (bc (Rep.mono z2 _ _ p) p2) (by simp [hl])
def mTup (m:MA):ME:=λρ q=>m ρ λds ρ'=>q (.tup ds) ρ'
def mLst (m:MA):ME:=λρ q=>m ρ λds ρ'=>q (.lst ds) ρ'
def mLstI (m:MA):ME:=λρ q=>m ρ λds ρ'=>imms ds=true/\q (.lst ds) ρ'
theorem cw {n:Nat} (h:n<=1000):n<=sizeLine:=Nat.le_of_lt (bY h)
theorem iW {x1} (h:QA X ow es mr) (hl:es.length<=1000:=by decide):QE X ow (.Tuple es x1 pos) (mTup mr):=by
 obtain ⟨t,p,s⟩:=h
 refine ⟨_,nZ p,λC G ρ σ H pd q Q r hm k=>s C G ρ σ H pd _ _ r hm λds ρ' vs G' H' hq z kp r' p hn=>⟨cw (by omega),λa ha=>?_⟩⟩
 obtain ⟨O,r'⟩:=r'
 obtain ⟨r2,s2⟩:=r'.new ha (.tup vs)
 exact k _ ρ' _ _ _ hq (z.trans s2) kp ⟨O,r2⟩ (ld ay (Reps.mono s2 _ _ p))
theorem dD (h:QA X ow es mr) (hl:es.length<=1000:=by decide):QE X ow (.List es pos) (mLst mr):=by
 obtain ⟨t,p,s⟩:=h
 refine ⟨_,jL p,λC G ρ σ H pd q Q r hm k=>s C G ρ σ H pd _ _ r hm λds ρ' vs G' H' hq z kp r' p hn=>⟨cw (by omega),λa ha=>?_⟩⟩
 obtain ⟨O,r'⟩:=r'
 obtain ⟨r2,s2⟩:=r'.new ha (.lst vs)
 exact k _ ρ' _ _ _ hq (z.trans s2) kp ⟨O,r2⟩ (eX ay (Reps.mono s2 _ _ p))
theorem dO (h:QA X ow es mr) (hl:es.length<=1000:=by decide):QF X ow (.List es pos) (mLstI mr):=by
 obtain ⟨t,p,s⟩:=h
 refine ⟨_,jL p,λC G ρ σ H pd q Q r hm k=>s C G ρ σ H pd _ _ r hm λds ρ' vs G' H' hq z kp r' p hn=>⟨cw (by omega),λa ha=>?_⟩⟩
 obtain ⟨O,r'⟩:=r'
 exact k _ ρ' _ _ _ hq.2 z kp (r'.newL ha hq.1 p)
def fW (r:List V->Hp->VK->Prop) (f:List D->(D->Prop)->Prop):Prop:=∀ (G H:Hp) (xs:List V) (ds:List D) (q:D->Prop) (Q:VK),aB G H->Reps G ds xs->f ds q->(∀ d v,q d->Rep G d v->Q v H)->r xs H Q
def mCB (f:List D->(D->Prop)->Prop) (m:MA):ME:=λρ q=>m ρ λds ρ'=>f ds λd=>q d ρ'
theorem se_cb {r:List V->Hp->VK->Prop} {f:List D->(D->Prop)->Prop} {t:TA} {n:Nat} (hd:fW r f) (s:SA ow n t mr):SE ow (tCB r t) (mCB f mr):=λC G ρ σ H pd q Q hr hm k =>
 s C G ρ σ H pd _ _ hr hm λds ρ' vs G' H' hq z kp r' p hn=>hd G' H' vs ds _ _ r'.gh p hq λd v hq p=>k d ρ' v G' H' hq z kp r' p
variable {x:Str} {p':Pos}
theorem aD {id:String} {r:List V->Hp->VK->Prop} {f:List D->(D->Prop)->Prop} (hc:cL X (.builtin id) r) (hd:fW r f) (hg:Gl X x) (hm:X.mg x=none) (hv:bootBuiltins x=some (.builtin id)) (ha:QA X ow (e :: es) mr) (hn:x ≠ "__name__":=by decide) (hdb:(x == ("__debug__":Str))=false:=by decide)
 (he:starEach (e :: es) X.env=(false,eval e X.env) :: starEach es X.env:=by rfl) (hpl:(backTo pos (starEach es X.env)).any (·.1)=false:=by rfl):QE X ow (.Call (.Name x p') (e :: es) [] pos) (mCB f mr):=by
 obtain ⟨t,p,s⟩:=ha
 exact ⟨_,gr hc hg hm hv p hn hdb he hpl,se_cb hd s⟩
end
def fI (g:Int->Int->Int):D->D->(D->Prop)->Prop:=λa b q=>match a,b with
 | .int i,.int j=>q (.int (g i j))
 | _,_=>False
def fIC (C:Int->Int->Prop) (g:Int->Int->Int):D->D->(D->Prop)->Prop:=λa b q=>match a,b with
 | .int i,.int j=>C i j/\q (.int (g i j))
 | _,_=>False
def fB (g:Int->Int->Bool):D->D->(D->Prop)->Prop:=λa b q=>match a,b with
 | .int i,.int j=>q (.bl (g i j))
 | _,_=>False
theorem dI {g:Int->Int->Int}:DOp (rI0 λi j=>.int (g i j)) (fI g):=λG H x y dx dy q Q s p1 p2 hf k=>by
 unfold fI at hf
 split at hf
 ·exact ⟨_,_,ax p1,ax p2,k _ _ hf (bq _)⟩
 ·exact hf.elim
theorem dIC {C:Int->Int->Prop} {g:Int->Int->Int}:DOp (rI C λi j=>.int (g i j)) (fIC C g):=λG H x y dx dy q Q s p1 p2 hf k=>by
 unfold fIC at hf
 split at hf
 ·exact ⟨_,_,ax p1,ax p2,hf.1,k _ _ hf.2 (bq _)⟩
 ·exact hf.elim
theorem dB {g:Int->Int->Bool}:DOp (rI0 λi j=>.bl (g i j)) (fB g):=λG H x y dx dy q Q s p1 p2 hf k=>by
 unfold fB at hf
 split at hf
 ·exact ⟨_,_,ax p1,ax p2,k _ _ hf (bZ _)⟩
 ·exact hf.elim
def eqD (a b:D):Bool:=PyData.eqv (toP a) (toP b)
def okD (a:D):Bool:=SeqAt.shaped (toP a)
def fEq:D->D->(D->Prop)->Prop:=λa b q=>match a,b with
 | .int i,.int j=>q (.bl (decide (i=j)))
 | a,b=>okD a=true/\okD b=true/\q (.bl (eqD a b))
def fNe:D->D->(D->Prop)->Prop:=λa b q=>match a,b with
 | .int i,.int j=>q (.bl (!decide (i=j)))
 | a,b=>okD a=true/\okD b=true/\q (.bl (!eqD a b))
theorem kK (i j:Int):eqD (.int i) (.int j)=decide (i=j):=by
 unfold eqD; rw [toP,toP,PyData.eqv]; first | rfl | (rw [Bool.beq_eq_decide_eq])
theorem gi (i:Int):okD (.int i)=true:=by unfold okD; rw [toP]; rfl
theorem dEq:DOp rEqD fEq:=λG H x y dx dy q Q s p1 p2 hf k=>by
 have main:okD dx=true/\okD dy=true/\q (.bl (eqD dx dy)):=by
  unfold fEq at hf
  split at hf
  ·exact ⟨gi _,gi _,by rw [kK]; exact hf⟩
  ·exact hf
 exact ⟨dx,dy,Rep.mono s _ _ p1,Rep.mono s _ _ p2,main.1,main.2.1,k _ _ main.2.2 (bZ _)⟩
theorem dNe:DOp rNeD fNe:=λG H x y dx dy q Q s p1 p2 hf k=>by
 have main:okD dx=true/\okD dy=true/\q (.bl (!eqD dx dy)):=by
  unfold fNe at hf
  split at hf
  ·exact ⟨gi _,gi _,by rw [kK]; exact hf⟩
  ·exact hf
 exact ⟨dx,dy,Rep.mono s _ _ p1,Rep.mono s _ _ p2,main.1,main.2.1,k _ _ main.2.2 (bZ _)⟩
def isNon:D->Bool
 | .non=>true
 | _=>false
def fIsB:D->D->(D->Prop)->Prop:=λa b q=>match a,b with
 | .bl x,.bl y=>q (.bl (x == y))
 | _,_=>False
def db:D->Bool
 | .non=>true
 | .bl _=>true
 | .int _=>true
 | .str _=>true
 | _=>false
def eqF:D->D->Bool
 | .non,.non=>true
 | .bl a,.bl b=>a == b
 | .bl a,.int b=>(if a then 1 else 0) == b
 | .int a,.bl b=>a == (if b then 1 else 0)
 | .int a,.int b=>a == b
 | .str a,.str b=>a == b
 | _,_=>false
def toV:D->V
 | .non=>.non
 | .bl b=>.bl b
 | .int i=>.int i
 | .str x=>.str x
 | _=>.non
theorem dY {G:Hp} {d:D} {v:V} (h:Rep G d v) (f:db d=true):v=toV d:=by
 cases d <;> first | (rw [Rep] at h; exact h) | cases f
theorem pw:∀ {a b:D},db a=true->db b=true->eqV (toV a) (toV b)=eqF a b:=by
 intro a b f g
 cases a <;> cases b <;> first | rfl | exact absurd f Bool.false_ne_true | exact absurd g Bool.false_ne_true
theorem fF {d:D} (f:db d=true):eJ (toV d)=true:=by
 cases d <;> first | rfl | cases f
theorem de {G:Hp}:∀ {ds:List D} {xs:List V},Reps G ds xs->ds.all db=true->xs=ds.map toV
 | [],xs,h,_=>by rw [Reps] at h; subst h; rfl
 | d :: ds,xs,h,f=>by
  rw [Reps] at h
  obtain ⟨v,vs,rfl,h1,h2⟩:=h
  rw [List.all_cons,Bool.and_eq_true] at f
  rw [dY h1 f.1,de h2 f.2]; rfl
def inD (a:D) (ds:List D):Bool:=ds.any λy=>eqF y a
theorem iG {a:D} (f:db a=true):∀ {ds:List D},ds.all db=true->inV (toV a) (ds.map toV)=inD a ds
 | [],_=>rfl
 | d :: ds,g=>by
  rw [List.all_cons,Bool.and_eq_true] at g
  have:=iG f g.2
  unfold inV inD at *
  rw [List.map_cons,List.any_cons,List.any_cons,pw g.1 f,this]
theorem gR:∀ {ds:List D},ds.all db=true->(ds.map toV).all eJ=true
 | [],_=>rfl
 | d :: ds,g=>by
  rw [List.all_cons,Bool.and_eq_true] at g
  rw [List.map_cons,List.all_cons,fF g.1,gR g.2]; rfl
def fIn (neg:Bool):D->D->(D->Prop)->Prop:=λa b q=>match b with
 | .lst ds=>db a=true/\ds.all db=true/\q (.bl (if neg then !inD a ds else inD a ds))
 | .tup ds=>db a=true/\ds.all db=true/\q (.bl (if neg then !inD a ds else inD a ds))
 | _=>False
theorem dIn {K:PySem.W.Frag} {neg:Bool}:DOp (rIn K neg) (fIn neg):=λG H x y dx dy q Q s p1 p2 hf k=>by
 unfold fIn at hf
 split at hf
 ·rw [Rep] at p2
  obtain ⟨a,xs,rfl,h1,h2⟩:=p2
  obtain ⟨f1,f2,hq⟩:=hf
  refine ⟨a,xs,rfl,.inl (SqL.of (s _ _ h1)),?_,?_,?_⟩
  ·rw [dY p1 f1]; exact fF f1
  ·rw [de h2 f2]; exact gR f2
  ·rw [dY p1 f1,de h2 f2,iG f1 f2]; exact k _ _ hq (bZ _)
 ·rw [Rep] at p2
  obtain ⟨a,xs,rfl,h1,h2⟩:=p2
  obtain ⟨f1,f2,hq⟩:=hf
  refine ⟨a,xs,rfl,.inr (SqT.of (s _ _ h1)),?_,?_,?_⟩
  ·rw [dY p1 f1]; exact fF f1
  ·rw [de h2 f2]; exact gR f2
  ·rw [dY p1 f1,de h2 f2,iG f1 f2]; exact k _ _ hq (bZ _)
 ·exact hf.elim
def atD (ds:List D) (i:Int) (q:D->Prop):Prop:=match atI ds i with
 | some d=>q d
 | none=>False
def fIx (K:PySem.W.Frag):D->D->(D->Prop)->Prop:=λa b q=>match a,b with
 | .lst ds,.int i=>atD ds i q
 | .tup ds,.int i=>atD ds i q
 | .scr φ ns,.int i=>(∀ a H,φ a->SqL K H a (ns.map V.int))/\match atI ns i with
  | some n=>q (.int n)
  | none=>False
 | _,_=>False
theorem dS {G:Hp}:∀ {ds:List D} {xs:List V} {j:Nat} {d:D},Reps G ds xs->ds[j]? = some d->∃ v,xs[j]? = some v/\Rep G d v
 | [],_,_,_,_,e=>by simp at e
 | d :: ds,xs,0,e,h,q=>by rw [Reps] at h; obtain ⟨v,vs,rfl,h1,_⟩:=h; simp at q; subst q; exact ⟨v,rfl,h1⟩
 | d :: ds,xs,j + 1,e,h,q=>by
  rw [Reps] at h
  obtain ⟨v,vs,rfl,_,h2⟩:=h
  obtain ⟨u,e1,e2⟩:=dS (j:=j) h2 (by simpa using q)
  exact ⟨u,by simpa using e1,e2⟩
theorem jg {G:Hp} {ds:List D} {xs:List V} {i:Int} {d:D} (h:Reps G ds xs) (e:atI ds i=some d):∃ v,atI xs i=some v/\Rep G d v:=by
 unfold atI at *
 rw [h.length]
 cases q:ixN ds.length i with
 | none=>rw [q] at e; cases e
 | some j=>rw [q] at e; exact dS h e
theorem lA {α β:Type} {f : α->β} {xs:List α} {i:Int} {x : α} (h:atI xs i=some x):atI (xs.map f) i=some (f x):=by
 unfold atI at *
 rw [List.length_map]
 cases q:ixN xs.length i with
 | none=>rw [q] at h; cases h
 | some j=>rw [q] at h; rw [show (Option.some j).bind _=(xs.map f)[j]? from rfl,List.getElem?_map,show xs[j]? = some x from h]; rfl
theorem dIx {K:PySem.W.Frag}:DOp (rIx K) (fIx K):=λG H x y dx dy q Q s p1 p2 hf k=>by
 unfold fIx at hf
 split at hf
 ·rw [Rep] at p1
  obtain ⟨a,xs,rfl,h1,h2⟩:=p1
  unfold atD at hf
  split at hf
  ·rename_i e
   obtain ⟨v,e1,e2⟩:=jg h2 e
   exact .inl ⟨a,xs,_,v,rfl,ax p2,SqL.of (s _ _ h1),e1,k _ _ hf e2⟩
  ·exact hf.elim
 ·rw [Rep] at p1
  obtain ⟨a,xs,rfl,h1,h2⟩:=p1
  unfold atD at hf
  split at hf
  ·rename_i e
   obtain ⟨v,e1,e2⟩:=jg h2 e
   exact .inr (.inl ⟨a,xs,_,v,rfl,ax p2,SqT.of (s _ _ h1),e1,k _ _ hf e2⟩)
  ·exact hf.elim
 ·rw [Rep] at p1
  obtain ⟨a,rfl,h1⟩:=p1
  obtain ⟨hk,hf⟩:=hf
  split at hf
  ·rename_i e
   refine .inl ⟨a,_,_,_,rfl,ax p2,?_,lA e,k _ _ hf (bq _)⟩
   rcases h1 with ⟨o,h1⟩ | h1
   ·exact .inl (.inr ⟨o,s _ _ h1⟩)
   ·exact hk a H h1
  ·exact hf.elim
 ·exact hf.elim
def fLen (K:PySem.W.Frag):List D->(D->Prop)->Prop:=λds q=>match ds with
 | [.lst ds]=>q (.int ds.length)
 | [.tup ds]=>q (.int ds.length)
 | [.scr φ ns]=>(∀ a H,φ a->SqL K H a (ns.map V.int))/\q (.int ns.length)
 | _=>False
theorem aN {G:Hp} {ds:List D} {v:V} (h:Rep G (.lst ds) v):∃ a xs,v = .ref a/\G a=some (.lst xs)/\Reps G ds xs:=by rw [Rep] at h; exact h
theorem dr {G:Hp} {ds:List D} {v:V} (h:Rep G (.tup ds) v):∃ a xs,v = .ref a/\G a=some (.tup xs)/\Reps G ds xs:=by rw [Rep] at h; exact h
theorem j_ {G:Hp} {φ:Addr->Prop} {ns:List Int} {v:V} (h:Rep G (.scr φ ns) v):∃ a,v = .ref a/\((∃ o,G a=some (.frz o (.lst (ns.map V.int))))\/φ a):=by rw [Rep] at h; exact h
theorem bi {G:Hp} {d:D} {xs:List V} (h:Reps G [d] xs):∃ v,xs=[v]/\Rep G d v:=by
 rw [Reps] at h; obtain ⟨v,vs,rfl,h1,h2⟩:=h; rw [Reps] at h2; subst h2; exact ⟨v,rfl,h1⟩
theorem d3 {G:Hp} {d e:D} {xs:List V} (h:Reps G [d,e] xs):∃ v u,xs=[v,u]/\Rep G d v/\Rep G e u:=by
 rw [Reps] at h; obtain ⟨v,vs,rfl,h1,h2⟩:=h; obtain ⟨u,rfl,h3⟩:=bi h2; exact ⟨v,u,rfl,h1,h3⟩
theorem dG {K:PySem.W.Frag}:fW (λxs H Q=>∃ p ys,xs=[.ref p]/\(SqL K H p ys\/SqT K H p ys)/\Q (.int ys.length) H) (fLen K):=λG H xs ds q Q s p hf k=>by
 unfold fLen at hf
 split at hf
 ·obtain ⟨v,rfl,p1⟩:=bi p
  obtain ⟨a,xs,rfl,h1,h2⟩:=aN p1
  exact ⟨a,xs,rfl,.inl (SqL.of (s _ _ h1)),by rw [h2.length]; exact k _ _ hf (bq _)⟩
 ·obtain ⟨v,rfl,p1⟩:=bi p
  obtain ⟨a,xs,rfl,h1,h2⟩:=dr p1
  exact ⟨a,xs,rfl,.inr (SqT.of (s _ _ h1)),by rw [h2.length]; exact k _ _ hf (bq _)⟩
 ·obtain ⟨v,rfl,p1⟩:=bi p
  obtain ⟨a,rfl,h1⟩:=j_ p1
  rename_i φ ns
  have hS:SqL K H a (ns.map V.int):=by
   rcases h1 with ⟨o,h1⟩ | h1
   ·exact .inl (.inr ⟨o,s _ _ h1⟩)
   ·exact hf.1 a H h1
  exact ⟨a,_,rfl,.inl hS,by rw [List.length_map]; exact k _ _ hf.2 (bq _)⟩
 ·exact hf.elim
def fMax:List D->(D->Prop)->Prop:=λds q=>match ds with
 | [.int i,.int j]=>q (.int (if j > i then j else i))
 | _=>False
def fMin:List D->(D->Prop)->Prop:=λds q=>match ds with
 | [.int i,.int j]=>q (.int (if j<i then j else i))
 | _=>False
theorem dMax:fW (λxs H Q=>∃ i j,xs=[.int i,.int j]/\Q (.int (if j > i then j else i)) H) fMax:=λG H xs ds q Q s p hf k=>by
 unfold fMax at hf
 split at hf
 ·obtain ⟨v,u,rfl,p1,p2⟩:=d3 p
  rw [ax p1,ax p2]
  exact ⟨_,_,rfl,k _ _ hf (bq _)⟩
 ·exact hf.elim
theorem mR:fW (λxs H Q=>∃ i j,xs=[.int i,.int j]/\Q (.int (if j<i then j else i)) H) fMin:=λG H xs ds q Q s p hf k=>by
 unfold fMin at hf
 split at hf
 ·obtain ⟨v,u,rfl,p1,p2⟩:=d3 p
  rw [ax p1,ax p2]
  exact ⟨_,_,rfl,k _ _ hf (bq _)⟩
 ·exact hf.elim
section
variable {X:Cx} {ow:List Bool} {a b c e:Expr} {ma mb mc:ME} {pos:Pos} {mr:MA} {es:List Expr}
def mIsT (T:String) (m:ME):ME:=λρ q=>m ρ λd ρ'=>match lF d T with
 | some b=>q (.bl b) ρ'
 | none=>False
theorem cN {T:String} {x y:Str} {p1 p2:Pos} (hg:Gl X x) (hm:X.mg x=none) (hv:bootBuiltins x=some (.builtin "isinstance")) (ha:QE X ow a ma) (ht:PE X (.Name y p2) (tC (.ty T)))
 (hn:x ≠ "__name__":=by decide) (hdb:(x == ("__debug__":Str))=false:=by decide)
 (hs:starEach [.Name y p2] X.env=[(false,eval (.Name y p2) X.env)]:=by rfl)
 (he:starEach [a,.Name y p2] X.env=(false,eval a X.env) :: starEach [.Name y p2] X.env:=by rfl) (hpl:(backTo pos (starEach [.Name y p2] X.env)).any (·.1)=false:=by rfl) :
 QE X ow (.Call (.Name x p1) [a,.Name y p2] [] pos) (mIsT T ma):=by
 obtain ⟨t,p,s⟩:=ha
 refine ⟨_,gr jE hg hm hv (bC p (bC ht dl hs) he) hn hdb he hpl,λC G ρ σ H pd q Q r hm k=>s C G ρ σ H pd _ _ r hm λd ρ' v G' H' hq s kp r' p=>?_⟩
 cases e:lF d T with
 | none=>rw [e] at hq; exact hq.elim
 | some b=>rw [e] at hq; exact ⟨v,T,d,b,rfl,Rep.mono r'.gh _ _ p,e,k _ ρ' _ G' H' hq s kp r' (bZ _)⟩
def nE (f g:D->D->(D->Prop)->Prop) (ma mb mc:ME):ME:=λρ q=>ma ρ λx ρ1=>mb ρ1 λy ρ2=>f x y λz=>match z with
 | .bl k=>if k=true then mc ρ2 λw ρ3=>g y w λd=>q d ρ3 else q (.bl false) ρ2
 | _=>False
theorem oW {r r':R2} {f g:D->D->(D->Prop)->Prop} {ta tb tc:TE} (hf:DOp r f) (hg:DOp r' g) (ha:SE ow ta ma) (hb:SE ow tb mb) (hc:SE ow tc mc):SE ow (ny r r' ta tb tc) (nE f g ma mb mc):=λC G ρ σ H pd q Q hr h k=>by
 refine iJ (Q:=λx y H2=>r x y H2 _) ha hb hr h λdx dy ρ' x y G' H' h1 s kp r1 p1 p2=>?_
 refine hf G' H' x y dx dy _ _ r1.gh p1 p2 h1 λd v hq p=>?_
 cases d with
 | bl b =>
  refine ⟨b,cC p,?_⟩
  change (if b=true then _ else _) at hq
  cases b with
  | true =>
   rw [if_pos rfl] at hq ⊢
   refine hc C G' ρ' σ H' pd _ _ r1 hq λdw ρ3 w G3 H3 h3 s3 kp3 r3 p3=>?_
   exact hg G3 H3 y w dy dw _ _ r3.gh (Rep.mono s3 _ _ p2) p3 h3 λd v hq p=>k d ρ3 v G3 H3 hq (s.trans s3) (kp.trans kp3) r3 p
  | false=>rw [if_neg (by decide)] at hq ⊢; exact k _ ρ' _ G' H' hq s kp r1 (bZ _)
 | _=>exact hq.elim
theorem i7 {op op':CmpOp} {r r':R2} {f g:D->D->(D->Prop)->Prop} (ho:OpR X (compareOp op) r) (ho':OpR X (compareOp op') r') (hf:DOp r f) (hg:DOp r' g) (ha:QE X ow a ma) (hb:QE X ow b mb) (hc:QE X ow c mc)
 (hm:lastMarks [op,op'] [b,c]=false:=by with_unfolding_all rfl):QE X ow (.Compare a [op,op'] [b,c] pos) (nE f g ma mb mc):=by
 obtain ⟨ta,pa,sa⟩:=ha; obtain ⟨tb,pb,sb⟩:=hb; obtain ⟨tc,pc,sc⟩:=hc
 exact ⟨_,pk ho ho' pa pb pc hm,oW hf hg sa sb sc⟩
def eU (r:List V->Hp->VK->Prop) (f:List D->(List D->Prop)->Prop):Prop:=∀ (G H:Hp) (xs:List V) (ds:List D) (q:List D->Prop) (Q:VK),aB G H->Reps G ds xs->f ds q ->
 (∀ es ys p,q es->Reps G es ys->H p=none->Q (.ref p) (upd H p (.lst ys)))->r xs H Q
def mNew (f:List D->(List D->Prop)->Prop) (m:MA):ME:=λρ q=>m ρ λds ρ'=>f ds λes=>imms es=true/\q (.lst es) ρ'
def pp (f:List D->(List D->Prop)->Prop) (m:MA):ME:=λρ q=>m ρ λds ρ'=>f ds λes=>q (.lst es) ρ'
theorem kb {r:List V->Hp->VK->Prop} {f:List D->(List D->Prop)->Prop} {t:TA} {n:Nat} (hd:eU r f) (s:SA ow n t mr):SF ow (λσ H Q=>t σ H λxs H1=>r xs H1 Q) (mNew f mr):=λC G ρ σ H pd q Q hr hm k =>
 s C G ρ σ H pd _ _ hr hm λds ρ' vs G' H' hq z kp r' p hn=>hd G' H' vs ds _ _ r'.gh p hq λes ys a hq p ha=>by
  obtain ⟨O,r'⟩:=r'
  exact k _ ρ' _ _ _ hq.2 z kp (r'.newL ha hq.1 p)
theorem mS {r:List V->Hp->VK->Prop} {f:List D->(List D->Prop)->Prop} {t:TA} {n:Nat} (hd:eU r f) (s:SA ow n t mr):SE ow (λσ H Q=>t σ H λxs H1=>r xs H1 Q) (pp f mr):=λC G ρ σ H pd q Q hr hm k =>
 s C G ρ σ H pd _ _ hr hm λds ρ' vs G' H' hq z kp r' p hn=>hd G' H' vs ds _ _ r'.gh p hq λes ys a hq p ha=>by
  obtain ⟨O,r'⟩:=r'
  obtain ⟨r2,s2⟩:=r'.new ha (.lst ys)
  exact k _ ρ' _ _ _ hq (z.trans s2) kp ⟨O,r2⟩ (eX ay (Reps.mono s2 _ _ p))
theorem oA {ta tb:TE} (ha:SE ow ta ma) (hb:SE ow tb mb):SA ow 2 (λσ H Q=>ta σ H λx H1=>tb σ H1 λy H2=>Q [x,y] H2) (eI ma (eI mb lP)):=λC G ρ σ H pd q Q hr hm k =>
 iJ (Q:=λx y H2=>Q [x,y] H2) ha hb hr hm λdx dy ρ' x y G' H' h1 s kp r1 p1 p2=>k [dx,dy] ρ' [x,y] G' H' h1 s kp r1 (bc p1 (bc p2 bj)) rfl
theorem cH {G:Hp}:∀ {ds es:List D} {xs ys:List V},Reps G ds xs->Reps G es ys->Reps G (ds++es) (xs++ys)
 | [],es,xs,ys,h,h2=>by rw [Reps] at h; subst h; exact h2
 | d :: ds,es,xs,ys,h,h2=>by rw [Reps] at h; obtain ⟨v,vs,rfl,h1,h3⟩:=h; exact bc h1 (cH h3 h2)
theorem jH {G:Hp} {ds:List D} {xs:List V} (h:Reps G ds xs):∀ n:Nat,Reps G (List.replicate n ds).flatten (List.replicate n xs).flatten
 | 0=>by simp; exact bj
 | n + 1=>by simp [List.replicate_succ]; exact cH h (jH h n)
def fCat:List D->(List D->Prop)->Prop:=λds q=>match ds with
 | [.lst xs,.lst ys]=>xs.length + ys.length<=1000/\q (xs++ys)
 | _=>False
theorem dCat:eU (λxs H Q=>∃ x y,xs=[x,y]/\rCat x y H Q) fCat:=λG H xs ds q Q s p hf k=>by
 unfold fCat at hf
 split at hf
 ·obtain ⟨v,u,rfl,p1,p2⟩:=d3 p
  rw [Rep] at p1 p2
  obtain ⟨a1,xs,rfl,h1,h2⟩:=p1
  obtain ⟨a2,ys,rfl,h3,h4⟩:=p2
  exact ⟨_,_,rfl,a1,a2,xs,ys,rfl,rfl,s _ _ h1,s _ _ h3,cw (by rw [h2.length,h4.length]; exact hf.1),λp hp=>k _ _ p hf.2 (cH h2 h4) hp⟩
 ·exact hf.elim
def fRep:List D->(List D->Prop)->Prop:=λds q=>match ds with
 | [.lst xs,.int n]=>(-(2 ^ 63)<=n/\n<2 ^ 63/\xs.length * n.toNat<=1000)/\q (List.replicate n.toNat xs).flatten
 | _=>False
theorem dRep:eU (λxs H Q=>∃ x y,xs=[x,y]/\rRep x y H Q) fRep:=λG H xs ds q Q s p hf k=>by
 unfold fRep at hf
 split at hf
 ·obtain ⟨v,u,rfl,p1,p2⟩:=d3 p
  obtain ⟨a1,xs,rfl,h1,h2⟩:=aN p1
  rw [ax p2]
  exact ⟨_,_,rfl,a1,_,xs,rfl,rfl,s _ _ h1,hf.1.1,hf.1.2.1,cw (by rw [h2.length]; exact hf.1.2.2),λp hp=>k _ _ p hf.2 (jH h2 _) hp⟩
 ·exact hf.elim
def mMk (f:List D->(List D->Prop)->Prop) (ma mb:ME):ME:=mNew f (eI ma (eI mb lP))
def mMkS (f:List D->(List D->Prop)->Prop) (ma mb:ME):ME:=pp f (eI ma (eI mb lP))
def R2ok (r:R2):List V->Hp->VK->Prop:=λxs H Q=>match xs with
 | [x,y]=>r x y H Q
 | _=>False
theorem eU.r2 {r:R2} {f:List D->(List D->Prop)->Prop} (h:eU (λxs H Q=>∃ x y,xs=[x,y]/\r x y H Q) f):eU (R2ok r) f:=λG H xs ds q Q s p hf k=>by
 obtain ⟨x,y,rfl,z⟩:=h G H xs ds q Q s p hf k
 exact z
theorem o6 {op:Operator} {r:R2} {f:List D->(List D->Prop)->Prop} (ho:OpR X (binaryOp op) r) (hd:eU (λxs H Q=>∃ x y,xs=[x,y]/\r x y H Q) f) (ha:QE X ow a ma) (hb:QE X ow b mb):QF X ow (.BinOp a op b pos) (mMk f ma mb):=by
 obtain ⟨ta,pa,sa⟩:=ha; obtain ⟨tb,pb,sb⟩:=hb
 exact ⟨tOp r ta tb,kR ho pa pb,kb (r:=R2ok r) hd.r2 (oA sa sb)⟩
theorem qP {op:Operator} {r:R2} {f:List D->(List D->Prop)->Prop} (ho:OpR X (binaryOp op) r) (hd:eU (λxs H Q=>∃ x y,xs=[x,y]/\r x y H Q) f) (ha:QE X ow a ma) (hb:QE X ow b mb):QE X ow (.BinOp a op b pos) (mMkS f ma mb):=by
 obtain ⟨ta,pa,sa⟩:=ha; obtain ⟨tb,pb,sb⟩:=hb
 exact ⟨tOp r ta tb,kR ho pa pb,mS (r:=R2ok r) hd.r2 (oA sa sb)⟩
def qS:List D->(List D->Prop)->Prop:=λds q=>match ds with
 | [.lst xs]=>q xs
 | [.tup xs]=>q xs
 | _=>False
theorem fY {K:PySem.W.Frag}:eU (λxs H Q=>∃ p ys,xs=[.ref p]/\(SqL K H p ys\/SqT K H p ys)/\∀ l,H l=none->Q (.ref l) (upd H l (.lst ys))) qS:=λG H xs ds q Q s p hf k=>by
 unfold qS at hf
 split at hf
 ·obtain ⟨v,rfl,p1⟩:=bi p
  obtain ⟨a,xs,rfl,h1,h2⟩:=aN p1
  exact ⟨a,xs,rfl,.inl (SqL.of (s _ _ h1)),λl hl=>k _ _ l hf h2 hl⟩
 ·obtain ⟨v,rfl,p1⟩:=bi p
  obtain ⟨a,xs,rfl,h1,h2⟩:=dr p1
  exact ⟨a,xs,rfl,.inr (SqT.of (s _ _ h1)),λl hl=>k _ _ l hf h2 hl⟩
 ·exact hf.elim
variable {x:Str} {p':Pos}
theorem b9 {id:String} {r:List V->Hp->VK->Prop} {f:List D->(List D->Prop)->Prop} (hc:cL X (.type id) r) (hd:eU r f) (hg:Gl X x) (hm:X.mg x=none) (hv:bootBuiltins x=some (.type id)) (ha:QA X ow (e :: es) mr) (hn:x ≠ "__name__":=by decide) (hdb:(x == ("__debug__":Str))=false:=by decide)
 (he:starEach (e :: es) X.env=(false,eval e X.env) :: starEach es X.env:=by rfl) (hpl:(backTo pos (starEach es X.env)).any (·.1)=false:=by rfl):QF X ow (.Call (.Name x p') (e :: es) [] pos) (mNew f mr):=by
 obtain ⟨t,p,s⟩:=ha
 exact ⟨_,ir hc hg hm hv p hn hdb he hpl,kb hd s⟩
theorem kg {id:String} {r:List V->Hp->VK->Prop} {f:List D->(List D->Prop)->Prop} (hc:cL X (.type id) r) (hd:eU r f) (hg:Gl X x) (hm:X.mg x=none) (hv:bootBuiltins x=some (.type id)) (ha:QA X ow (e :: es) mr) (hn:x ≠ "__name__":=by decide) (hdb:(x == ("__debug__":Str))=false:=by decide)
 (he:starEach (e :: es) X.env=(false,eval e X.env) :: starEach es X.env:=by rfl) (hpl:(backTo pos (starEach es X.env)).any (·.1)=false:=by rfl):QE X ow (.Call (.Name x p') (e :: es) [] pos) (pp f mr):=by
 obtain ⟨t,p,s⟩:=ha
 exact ⟨_,ir hc hg hm hv p hn hdb he hpl,mS hd s⟩
theorem e8 {id:String} {r:List V->Hp->VK->Prop} {f:List D->(List D->Prop)->Prop} (hc:cL X (.builtin id) r) (hd:eU r f) (hg:Gl X x) (hm:X.mg x=none) (hv:bootBuiltins x=some (.builtin id)) (ha:QA X ow (e :: es) mr) (hn:x ≠ "__name__":=by decide) (hdb:(x == ("__debug__":Str))=false:=by decide)
 (he:starEach (e :: es) X.env=(false,eval e X.env) :: starEach es X.env:=by rfl) (hpl:(backTo pos (starEach es X.env)).any (·.1)=false:=by rfl):QF X ow (.Call (.Name x p') (e :: es) [] pos) (mNew f mr):=by
 obtain ⟨t,p,s⟩:=ha
 exact ⟨_,gr hc hg hm hv p hn hdb he hpl,kb hd s⟩
variable {lo hi:Option Expr} {ml mh:MO} {p2:Pos}
end
def bN (f:Nat->Option Nat) (O:Own):Own:=λa=>match O a with
 | some m=>(f m.1).map λl=>(l,m.2)
 | none=>none
theorem lm {f:Nat->Option Nat} {O:Own} {a:Addr} {l l':Nat} {π:List Nat} (h:O a=some (l,π)) (hf:f l=some l'):bN f O a=some (l',π):=by unfold bN; rw [h]; show (f l).map _=_; rw [hf]; rfl
theorem d9 {f:Nat->Option Nat} {O:Own} {a:Addr} {l':Nat} {π:List Nat} (h:bN f O a=some (l',π)):∃ l,O a=some (l,π)/\f l=some l':=by
 unfold bN at h
 cases e:O a with
 | none=>rw [e] at h; cases h
 | some m =>
  rw [e] at h
  change (f m.1).map _=_ at h
  cases e2:f m.1 with
  | none=>rw [e2] at h; cases h
  | some l=>rw [e2] at h; cases h; exact ⟨m.1,rfl,e2⟩
theorem lS {f:Nat->Option Nat} {O:Own} {a:Addr} {l:Nat} {π:List Nat} (h:O a=some (l,π)) (hf:f l=none):bN f O a=none:=by unfold bN; rw [h]; show (f l).map _=_; rw [hf]; rfl
def msV:List Bool->List V->List (Option V)
 | b :: bs,v :: vs=>(if b=true then some v else none) :: msV bs vs
 | _,_=>[]
theorem iz:∀ {mu:List Bool} {vs:List V} {k:Nat} {v:V},(msV mu vs)[k]? = some (some v)->mu[k]? = some true/\vs[k]? = some v
 | [],vs,k,v,h=>by simp [msV] at h
 | b :: bs,[],k,v,h=>by simp [msV] at h
 | b :: bs,u :: vs,0,v,h=>by
  simp only [msV,List.getElem?_cons_zero,Option.some.injEq] at h
  split at h
  ·rename_i c; cases h; subst c; exact ⟨rfl,rfl⟩
  ·cases h
 | b :: bs,u :: vs,k + 1,v,h=>by
  simp only [msV,List.getElem?_cons_succ] at h
  simpa using iz h
theorem jO:∀ {mu:List Bool} {vs:List V} {k:Nat} {v:V},mu[k]? = some true->vs[k]? = some v->(msV mu vs)[k]? = some (some v)
 | [],vs,k,v,h,_=>by simp at h
 | b :: bs,[],k,v,_,h=>by simp at h
 | b :: bs,u :: vs,0,v,h,h2=>by simp at h h2; subst h; subst h2; simp [msV]
 | b :: bs,u :: vs,k + 1,v,h,h2=>by simp only [msV,List.getElem?_cons_succ]; exact jO (by simpa using h) (by simpa using h2)
section
variable {C:Ctx} {ow mu:List Bool} {G:Hp} {ρ:DSt} {σ:St} {H:Hp} {pd:List (D×V)} {O:Own} {fin fbk:Nat->Option Nat}
theorem RO.into (ro:RO C ow G ρ σ H pd O) {ds:List D} {vs:List V} (hl:ds.length=vs.length)
 (hs:∀ (k:Nat) d,ds[k]? = some d->∃ v,vs[k]? = some v/\if mu[k]? = some true then ∃ l,Sep G H O l d [] v/\fin l=some (2 * k) else Rep G d v)
 (hc:∀ l l',fin l=some l'->∃ k,l'=2 * k/\mu[k]? = some true/\k<vs.length) :
 RO ⟨G,H,bN fin O,msV mu vs,0⟩ mu G (ds.map some) (vs.map some) H [] (bN fin O):=by
 refine ⟨by simp [hl],ro.gh,λ_ _ e=>e,λ_ _ e=>.inl e,?_,?_,λ_ _ e _ _=>e,ro.ft,λ_ e=>e,?_,?_,trivial,Nat.le_refl _⟩
 ·intro a m e
  obtain ⟨l',π⟩:=m
  obtain ⟨l,e1,e2⟩:=d9 e
  obtain ⟨q1,q2,_⟩:=ro.og a _ e1
  exact ⟨q1,q2,.inr ⟨π,e⟩⟩
 ·intro a l' π e
  obtain ⟨l,e1,e2⟩:=d9 e
  obtain ⟨k,rfl,h2,h3⟩:=hc _ _ e2
  exact .inl ⟨k,vs[k],rfl,jO h2 (List.getElem?_eq_getElem h3)⟩
 ·intro k v e
  rw [List.getElem?_map,(iz e).2]; rfl
 ·intro k d e
  rw [List.getElem?_map] at e
  cases e1:ds[k]? with
  | none=>rw [e1] at e; cases e
  | some d' =>
   rw [e1] at e
   cases e
   obtain ⟨v,h1,h2⟩:=hs k d e1
   refine ⟨v,by rw [List.getElem?_map,h1]; rfl,?_⟩
   split at h2
   ·rename_i c
    rw [if_pos c]
    obtain ⟨l,h3,h4⟩:=h2
    exact h3.keep (λ_ _ z=>z) λa τ q=>⟨lm q h4,rfl⟩
   ·rename_i c; rw [if_neg c]; exact h2
def jX (fin fbk:Nat->Option Nat) (O O2:Own):Own:=λa=>match O2 a with
 | some m=>(fbk m.1).map λl=>(l,m.2)
 | none=>match bN fin O a with
  | some _=>none
  | none=>O a
theorem RO.out (ro:RO C ow G ρ σ H pd O) {vs:List V} {G2:Hp} {ρ2:DSt} {σ2:St} {H2:Hp} {pd2 pd3:List (D×V)} {O2:Own} {ρ3:DSt} {ow2:List Bool} {np:Nat} {mv:List (Option V)}
 (ri:RO ⟨G,H,bN fin O,mv,np⟩ ow2 G2 ρ2 σ2 H2 pd2 O2) (hib:∀ l0 l' l,fin l0=some l'->fbk l'=some l->l=l0)
 (hlen : ρ3.length=σ.length) (hnp:C.np<=pd3.length)
 (hS:∀ (i:Nat) d,ow[i]?≠some true->ρ3[i]? = some (some d)->ρ[i]? = some (some d))
 (hO:∀ (i:Nat) d,ow[i]? = some true->ρ3[i]? = some (some d)->(fin (2 * i)=none/\ρ[i]? = some (some d))\/∃ (k:Nat) (v:V),fbk (2 * k)=some (2 * i)/\ow2[k]? = some true/\ρ2[k]? = some (some d)/\σ[i]? = some (some v)/\σ2[k]? = some (some v))
 (hP:∀ (O3:Own),(∀ a l π,O a=some (l,π)->fin l=none->O3 a=some (l,π)/\H2 a=H a)->(∀ a l l' π,O2 a=some (l',π)->fbk l'=some l->O3 a=some (l,π))->cr G G2->bG G2 H2 O3 pd3) :
 RO C ow G2 ρ3 σ H2 pd3 (jX fin fbk O O2):=by
 have keep:∀ a l π,O a=some (l,π)->fin l=none->jX fin fbk O O2 a=some (l,π)/\H2 a=H a:=λa l π e hn=>by
  have e1:=lS (f:=fin) e hn
  obtain ⟨g,⟨xs,hx⟩,_⟩:=ro.og a _ e
  have e2:O2 a=none:=by
   cases q:O2 a with
   | none=>rfl
   | some m =>
    obtain ⟨_,_,q3⟩:=ri.og a m q
    rcases q3 with q3 | ⟨π',q3⟩
    ·change H a=none at q3; rw [hx] at q3; cases q3
    ·change bN fin O a=_ at q3; rw [e1] at q3; cases q3
  constructor
  ·show (match O2 a with | some m=>_ | none=>_)=_
   rw [e2]
   show (match bN fin O a with | some _=>none | none=>O a)=_
   rw [e1]; exact e
  ·rw [ri.fr a _ hx e1 (WrO.nt xs),hx]
 have come:∀ a l l' π,O2 a=some (l',π)->fbk l'=some l->jX fin fbk O O2 a=some (l,π):=λa l l' π e hb=>by
  show (match O2 a with | some m=>_ | none=>_)=_
  rw [e]
  show (fbk l').map _=_
  rw [hb]; rfl
 have ts:cr G G2:=(aB.ts ri.g0)
 refine ⟨hlen,ri.gh,λa o e=>ri.g0 a o (ro.g0 a o e),?_,?_,ro.cok,?_,ri.ft,λa e=>ro.al a (ri.al a e),ro.mp,?_,hP _ keep come ts,hnp⟩
 ·intro a o e
  rcases ri.gn a o e with q | q
  ·exact ro.gn a o q
  ·exact .inr (ro.al a q)
 ·intro a m e
  change (match O2 a with | some m=>_ | none=>_)=_ at e
  cases q:O2 a with
  | some m' =>
   rw [q] at e
   change (fbk m'.1).map _=_ at e
   cases q2:fbk m'.1 with
   | none=>rw [q2] at e; cases e
   | some l =>
    rw [q2] at e; cases e
    obtain ⟨g1,g2,g3⟩:=ri.og a m' q
    refine ⟨g1,g2,?_⟩
    rcases g3 with g3 | ⟨π',g3⟩
    ·exact .inl (ro.al a g3)
    ·obtain ⟨l0,g4,g5⟩:=d9 g3
     have:=hib _ _ _ g5 q2
     subst this
     exact (ro.og a _ g4).2.2
  | none =>
   rw [q] at e
   change (match bN fin O a with | some _=>none | none=>O a)=_ at e
   cases q2:bN fin O a with
   | some _=>rw [q2] at e; cases e
   | none =>
    rw [q2] at e
    change O a=some m at e
    obtain ⟨g1,⟨xs,g2⟩,g3⟩:=ro.og a m e
    refine ⟨?_,⟨xs,ri.fr a _ g2 q2 (WrO.nt xs)⟩,g3⟩
    cases z:G2 a with
    | none=>rfl
    | some o =>
     rcases ri.gn a o z with z | z
     ·change G a=_ at z; rw [g1] at z; cases z
     ·change H a=_ at z; rw [g2] at z; cases z
 ·intro a o e n t
  have q:=ro.fr a o e n t
  refine ri.fr a o q ?_ t
  show bN fin O a=none
  cases z:bN fin O a with
  | none=>rfl
  | some m =>
   obtain ⟨l',π⟩:=m
   obtain ⟨l,z1,_⟩:=d9 z
   obtain ⟨_,_,z3⟩:=ro.og a _ z1
   rcases z3 with z3 | ⟨_,z3⟩
   ·rw [z3] at e; cases e
   ·rw [z3] at n; cases n
 ·intro i d e
  by_cases c:ow[i]? = some true
  ·rcases hO i d c e with ⟨h1,h2⟩ | ⟨k,v,h1,h2,h3,h4,h5⟩
   ·obtain ⟨v,q1,q2⟩:=ro.sl i d h2
    rw [if_pos c] at q2
    exact ⟨v,q1,by rw [if_pos c]; exact q2.keep ts λa τ q=>keep a _ _ q h1⟩
   ·obtain ⟨v',q1,q2⟩:=ri.sl k d h3
    rw [if_pos h2] at q2
    rw [h5] at q1; cases q1
    exact ⟨v,h4,by rw [if_pos c]; exact q2.keep (λ_ _ z=>z) λa τ q=>⟨come _ _ _ _ q h1,rfl⟩⟩
  ·obtain ⟨v,q1,q2⟩:=ro.sl i d (hS i d c e)
   rw [if_neg c] at q2
   exact ⟨v,q1,by rw [if_neg c]; exact q2.mono ri.g0⟩
end
def Ret (fr:Bool) (C:Ctx) (ow:List Bool) (G:Hp) (ρ:DSt) (σ:St) (H:Hp) (d:D) (v:V):Prop:=if fr=true then R C ow G ρ σ H [(d,v)] else R C ow G ρ σ H []/\Rep G d v
def mus:List Bool->DSt->DSt
 | true :: bs,x :: ρ=>x :: mus bs ρ
 | false :: bs,_ :: ρ=>mus bs ρ
 | true :: bs,[]=>none :: mus bs []
 | false :: bs,[]=>mus bs []
 | [],_=>[]
def bX {α:Type}:Nat->List (Option α)->List (Option α)
 | 0,_=>[]
 | n + 1,x :: ρ=>x :: bX n ρ
 | n + 1,[]=>none :: bX n []
theorem cf {α:Type}:∀ (n:Nat) (ρ:List (Option α)),(bX n ρ).length=n
 | 0,_=>rfl
 | n + 1,x :: ρ=>by simp [bX,cf n ρ]
 | n + 1,[]=>by simp [bX,cf n []]
theorem ci:∀ (mu:List Bool) (ρ:DSt),mus mu (bX mu.length ρ)=mus mu ρ
 | [],_=>by simp [mus]
 | true :: bs,x :: ρ=>by simp [bX,mus,ci bs ρ]
 | false :: bs,x :: ρ=>by simp [bX,mus,ci bs ρ]
 | true :: bs,[]=>by simp [bX,mus,ci bs []]
 | false :: bs,[]=>by simp [bX,mus,ci bs []]
theorem iM {α:Type}:∀ {n:Nat} {ρ:List (Option α)} {i:Nat} {d : α},(bX n ρ)[i]? = some (some d)->i<n/\ρ[i]? = some (some d)
 | 0,_,_,_,h=>by simp [bX] at h
 | n + 1,x :: ρ,0,d,h=>by simp [bX] at h; exact ⟨by omega,by simp [h]⟩
 | n + 1,x :: ρ,i + 1,d,h=>by simp only [bX,List.getElem?_cons_succ] at h; obtain ⟨a,b⟩:=iM h; exact ⟨by omega,by simpa using b⟩
 | n + 1,[],0,d,h=>by simp [bX] at h
 | n + 1,[],i + 1,d,h=>by simp only [bX,List.getElem?_cons_succ] at h; obtain ⟨a,b⟩:=iM h; simp at b
theorem iU {α:Type}:∀ {n:Nat} {ρ:List (Option α)} {i:Nat} {d : α},i<n->ρ[i]? = some (some d)->(bX n ρ)[i]? = some (some d)
 | 0,_,_,_,h,_=>by omega
 | n + 1,x :: ρ,0,d,h,e=>by simp at e; simp [bX,e]
 | n + 1,x :: ρ,i + 1,d,h,e=>by simp only [bX,List.getElem?_cons_succ]; exact iU (by omega) (by simpa using e)
 | n + 1,[],i,d,h,e=>by simp at e
abbrev SpD:=List D->(D->DSt->Prop)->Prop
def a_ (mu:List Bool) (fr:Bool) (sd:SpD):Sp:=λvs H Q _=>∃ (C:Ctx) (G:Hp) (ds:List D) (q:D->DSt->Prop),C.np=0/\C.mu=msV mu vs/\R C mu G (ds.map some) (vs.map some) H []/\sd ds q/\mu.length=ds.length /\
 ∀ d ρ' σ' v G' H',q d (mus mu ρ')->aB G G'->ρ'.length=mu.length->Ret fr C mu G' ρ' σ' H' d v->Q v H'
structure EndsD where
 nx:DSt->Prop
 rt:D->DSt->Prop
 bk:DSt->Prop:=λ_=>False
 ct:DSt->Prop:=λ_=>False
abbrev MS:=EndsD->DSt->Prop
structure Ks (C:Ctx) (ow:List Bool) (fr:Bool) (G:Hp) (n:EndsD) (D:Ends):Prop where
 nx:∀ ρ σ G' H,n.nx ρ->aB G G'->R C ow G' ρ σ H []->D.nx σ H
 bk:∀ ρ σ G' H,n.bk ρ->aB G G'->R C ow G' ρ σ H []->D.bk σ H
 ct:∀ ρ σ G' H,n.ct ρ->aB G G'->R C ow G' ρ σ H []->D.ct σ H
 rt:∀ d ρ σ v G' H,n.rt d ρ->aB G G'->Ret fr C ow G' ρ σ H d v->D.rt v H
theorem Ks.mono {C:Ctx} {ow:List Bool} {fr:Bool} {G G1:Hp} {n:EndsD} {D:Ends} (h:Ks C ow fr G n D) (s:aB G G1):Ks C ow fr G1 n D :=
 ⟨λρ σ G' H a b c=>h.nx ρ σ G' H a (s.trans b) c,λρ σ G' H a b c=>h.bk ρ σ G' H a (s.trans b) c,λρ σ G' H a b c=>h.ct ρ σ G' H a (s.trans b) c,λd ρ σ v G' H a b c=>h.rt d ρ σ v G' H a (s.trans b) c⟩
def f8 (C:Ctx) (mu:List Bool):Prop:=∀ (i:Nat) v,C.mu[i]? = some (some v)->mu[i]? = some true
theorem f8.no {C:Ctx} {mu:List Bool} (h:f8 C mu) {i:Nat} (hi:mu[i]?≠some true):∀ v,C.mu[i]?≠some (some v):=λv e=>hi (h i v e)
structure Md where
 mu:List Bool
 ow:List Bool
 fr:Bool
def SS (M:Md) (t:TS) (m:MS):Prop:=∀ (C:Ctx) (G:Hp) (ρ:DSt) (σ:St) (H:Hp) (n:EndsD) (D:Ends),f8 C M.mu->C.np=0->R C M.ow G ρ σ H []->m n ρ->Ks C M.ow M.fr G n D->t D σ H
structure QS (X:Cx) (M:Md) (st:Stmt) (m:MS):Prop where
 ex:∃ t,PS X st t/\SS M t m
structure QSs (X:Cx) (M:Md) (st:List Stmt) (m:MS):Prop where
 ex:∃ t,PSs X st t/\SS M t m
section
variable {X:Cx} {M:Md} {a b c e:Expr} {ma mb mc:ME} {mt:MT} {pos pos':Pos} {st:Stmt} {rest:List Stmt} {m m1 m2:MS}
def mSeq (m1 m2:MS):MS:=λn ρ=>m1 { n with nx:=λρ'=>m2 n ρ' } ρ
def mNext:MS:=λn ρ=>n.nx ρ
theorem aQ:QSs X M [] mNext:=⟨_,p8,λC G ρ σ H n D hm hn r h k=>k.nx ρ σ G H h (aB.refl _) r⟩
theorem ag (h:QS X M st m):QSs X M [st] m:=by obtain ⟨t,p,s⟩:=h; exact ⟨_,pD p,s⟩
theorem ac (h:QS X M st m1) (h2:QSs X M rest m2):QSs X M (st :: rest) (mSeq m1 m2):=by
 obtain ⟨t,p,s⟩:=h; obtain ⟨t2,p2,s2⟩:=h2
 refine ⟨_,mO p p2,λC G ρ σ H n D hm hn r h k=>s C G ρ σ H _ _ hm hn r h ?_⟩
 exact ⟨λρ' σ' G' H' h' z r'=>s2 C G' ρ' σ' H' n D hm hn r' h' (k.mono z),k.bk,k.ct,k.rt⟩
def rh:MS:=λ_ _=>False
theorem c_:QS X M st rh:=⟨_,mE,λC G ρ σ H n D hm hn r h k=>h.elim⟩
def mIfS (mt:MT) (m1 m2:MS):MS:=λn ρ=>mt ρ λb ρ1=>if b=true then m1 n ρ1 else m2 n ρ1
theorem bx {s1 s2:List Stmt} (h:QT X M.ow c mt) (h1:QSs X M s1 m1) (h2:QSs X M s2 m2):QS X M (.If c s1 s2 pos) (mIfS mt m1 m2):=by
 obtain ⟨t,p,s⟩:=h; obtain ⟨t1,p1,s1⟩:=h1; obtain ⟨t2,p2,s2⟩:=h2
 refine ⟨_,ps_if p p1 p2,λC G ρ σ H n D hm hn r h k=>s C G ρ σ H [] _ _ r h λb ρ' G' H' hq z kp r'=>?_⟩
 cases b with
 | true=>rw [if_pos rfl] at hq ⊢; exact s1 C G' ρ' σ H' n D hm hn r' hq (k.mono z)
 | false=>rw [if_neg (by decide)] at hq ⊢; exact s2 C G' ρ' σ H' n D hm hn r' hq (k.mono z)
def mRet (m:ME):MS:=λn ρ=>m ρ n.rt
theorem aM (h:QE X M.ow e ma) (hf:M.fr=false:=by rfl):QS X M (.Return (some e) pos) (mRet ma):=by
 obtain ⟨t,p,s⟩:=h
 refine ⟨_,nR p,λC G ρ σ H n D hm hn r h k=>s C G ρ σ H [] _ _ r h λd ρ' v G' H' hq z kp r' p=>k.rt d ρ' σ v G' H' hq z (by unfold Ret; rw [if_neg (by rw [hf]; decide)]; exact ⟨r',p⟩)⟩
theorem R.non {C:Ctx} {ow:List Bool} {fr:Bool} {G:Hp} {ρ:DSt} {σ:St} {H:Hp} (r:R C ow G ρ σ H []):Ret fr C ow G ρ σ H .non .non:=by
 unfold Ret
 split
 ·obtain ⟨O,r⟩:=r
  exact ⟨O,r.len,r.gh,r.g0,r.gn,r.og,r.cok,r.fr,r.ft,r.al,r.mp,r.sl,⟨by rw [Sep],trivial⟩,Nat.le_succ_of_le r.np⟩
 ·exact ⟨r,qg⟩
def lU (i:Nat) (m:ME):MS:=λn ρ=>m ρ λd ρ1=>n.nx (ρ1.set i (some d))
theorem oD {t:TE} {i:Nat} (s:SE M.ow t ma) (ho:M.ow[i]?≠some true) (hu:M.mu[i]?≠some true):SS M (oO t (gU i)) (lU i ma):=λC G ρ σ H n D hm hn r h k =>
 s C G ρ σ H [] _ _ r h λd ρ' v G' H' hq z kp r' p=>by
  obtain ⟨O,r'⟩:=r'
  exact k.nx _ _ G' H' hq z ⟨O,r'.setS ho (hm.no hu) p⟩
theorem pF {t:TE} {i:Nat} (s:SF M.ow t ma) (ho:M.ow[i]? = some true) (hu:M.mu[i]?≠some true):SS M (oO t (gU i)) (lU i ma):=λC G ρ σ H n D hm hn r h k =>
 s C G ρ σ H [] _ _ r h λd ρ' v G' H' hq z kp r'=>by
  obtain ⟨O,r'⟩:=r'
  exact k.nx _ _ G' H' hq z (r'.setO ho (hm.no hu) (by rw [hn]; exact Nat.zero_le _))
theorem aS {i:Nat} {x:Str} (hN:X.N.Nodup) (hi:X.N[i]? = some x) (hx:Loc X.env.scope x) (he:QE X M.ow e ma) (ho:M.ow[i]?≠some true:=by decide) (hu:M.mu[i]?≠some true:=by decide) (hs:swapsWith e (some (.Name x pos')) pos.line X.env=pure false:=by rfl) (hf:X.fn x=true\/X.env.scope.names.lookup x=some .local:=by first | exact .inl rfl | exact .inr rfl | assumption) :
 QS X M (.Assign [.Name x pos'] e pos) (lU i ma):=by
 obtain ⟨t,p,s⟩:=he
 exact ⟨_,j7 hN hi hx p hs hf,oD s ho hu⟩
theorem bR {i:Nat} {x:Str} (hN:X.N.Nodup) (hi:X.N[i]? = some x) (hx:Loc X.env.scope x) (he:QF X M.ow e ma) (ho:M.ow[i]? = some true:=by decide) (hu:M.mu[i]?≠some true:=by decide) (hs:swapsWith e (some (.Name x pos')) pos.line X.env=pure false:=by rfl) (hf:X.fn x=true\/X.env.scope.names.lookup x=some .local:=by first | exact .inl rfl | exact .inr rfl | assumption) :
 QS X M (.Assign [.Name x pos'] e pos) (lU i ma):=by
 obtain ⟨t,p,s⟩:=he
 exact ⟨_,j7 hN hi hx p hs hf,pF s ho hu⟩
def mPar (i j:Nat) (ma mb:ME):MS:=λn ρ=>ma ρ λx ρ1=>mb ρ1 λy ρ2=>n.nx ((ρ2.set i (some x)).set j (some y))
theorem rf {i j:Nat} {x y:Str} {px py pt:Pos} {kt k2 pt2} (hc:X.calm=true) (hN:X.N.Nodup) (hi:X.N[i]? = some x) (hj:X.N[j]? = some y) (hij:i≠j)
 (hx:X.env.scope.names.lookup x=some .local) (hy:X.env.scope.names.lookup y=some .local) (ha:QE X M.ow a ma) (hb:QE X M.ow b mb)
 (hw:swappedStores [.Tuple [.Name x px,.Name y py] kt pt] (.Tuple [a,b] k2 pt2) X.env=pure (some [x,y]))
 (oi:M.ow[i]?≠some true:=by decide) (oj:M.ow[j]?≠some true:=by decide) (ui:M.mu[i]?≠some true:=by decide) (uj:M.mu[j]?≠some true:=by decide)
 (hs1:starEach [a,b] X.env=(false,eval a X.env) :: starEach [b] X.env:=by rfl) (hs2:starEach [b] X.env=[(false,eval b X.env)]:=by rfl)
 (hs:swapsWithSole [.Tuple [.Name x px,.Name y py] kt pt] (.Tuple [a,b] k2 pt2) pos.line X.env=pure false:=by rfl) :
 QS X M (.Assign [.Tuple [.Name x px,.Name y py] kt pt] (.Tuple [a,b] k2 pt2) pos) (mPar i j ma mb):=by
 obtain ⟨ta,pa,sa⟩:=ha; obtain ⟨tb,pb,sb⟩:=hb
 refine ⟨_,sO hc hN hi hj hij hx hy (bC pa (bC pb dl hs2) hs1) hw hs,λC G ρ σ H n D hm hn r h k=>?_⟩
 refine iJ (Q:=λu w H2=>∃ v w',[u,w]=[v,w']/\D.nx ((σ.set i (some v)).set j (some w')) H2) sa sb r h λdx dy ρ' u w G' H' hq z kp r' p1 p2=>⟨u,w,rfl,?_⟩
 obtain ⟨O,r'⟩:=r'
 exact k.nx _ _ G' H' hq z ⟨O,(r'.setS oi (hm.no ui) p1).setS oj (hm.no uj) p2⟩
abbrev MG:=D->DSt->(DSt->Prop)->Prop
abbrev MGs:=List D->DSt->(DSt->Prop)->Prop
def SG (M:Md) (g:TG) (m:MG):Prop:=∀ (C:Ctx) (G:Hp) (ρ:DSt) (σ:St) (H:Hp) (pd:List (D×V)) (d:D) (v:V) (k:DSt->Prop) (K:St->Hp->Prop),f8 C M.mu->R C M.ow G ρ σ H pd->Rep G d v->m d ρ k ->
 (∀ ρ' σ',k ρ'->R C M.ow G ρ' σ' H pd->K σ' H)->g v σ H K
def SGs (M:Md) (g:TGs) (m:MGs):Prop:=∀ (C:Ctx) (G:Hp) (ρ:DSt) (σ:St) (H:Hp) (pd:List (D×V)) (d:List D) (v:List V) (k:DSt->Prop) (K:St->Hp->Prop),f8 C M.mu->R C M.ow G ρ σ H pd->Reps G d v->m d ρ k ->
 (∀ ρ' σ',k ρ'->R C M.ow G ρ' σ' H pd->K σ' H)->g v σ H K
structure QG (X:Cx) (M:Md) (e:Expr) (m:MG):Prop where
 ex:∃ t,PG X e t/\SG M t m
structure QGs (X:Cx) (M:Md) (e:List Expr) (m:MGs):Prop where
 ex:∃ t,PGs X e t/\SGs M t m
def fQ (i:Nat):MG:=λd ρ k=>k (ρ.set i (some d))
theorem aK {i:Nat} {x:Str} (hN:X.N.Nodup) (hi:X.N[i]? = some x) (hx:Loc X.env.scope x) (ho:M.ow[i]?≠some true:=by decide) (hu:M.mu[i]?≠some true:=by decide) (hf:X.fn x=true\/X.env.scope.names.lookup x=some .local:=by first | exact .inl rfl | exact .inr rfl | assumption):QG X M (.Name x pos) (fQ i) :=
 ⟨_,aO hN hi hx hf,λC G ρ σ H pd d v k K hm r p h kk=>by obtain ⟨O,r⟩:=r; exact kk _ _ h ⟨O,r.setS ho (hm.no hu) p⟩⟩
def kQ:MGs:=λds ρ k=>match ds with
 | []=>k ρ
 | _=>False
def gP (t:MG) (u:MGs):MGs:=λds ρ k=>match ds with
 | d :: ds=>t d ρ λρ1=>u ds ρ1 k
 | []=>False
def nq (t:MGs):MG:=λd ρ k=>match d with
 | .tup ds=>t ds ρ k
 | _=>False
variable {mg:MG} {mgs:MGs} {es:List Expr}
theorem cQ:QGs X M [] kQ:=⟨_,iC,λC G ρ σ H pd d v k K hm r p h kk=>by
 cases d with
 | nil=>rw [Reps] at p; exact ⟨p,kk _ _ h r⟩
 | cons _ _=>exact h.elim⟩
theorem aX (h1:QG X M e mg) (h2:QGs X M es mgs) (hs:(assignEach (e :: es) X.env).map (·.2)=assign e X.env :: (assignEach es X.env).map (·.2):=by rfl):QGs X M (e :: es) (gP mg mgs):=by
 obtain ⟨t,p,s⟩:=h1; obtain ⟨t2,p2,s2⟩:=h2
 refine ⟨_,cM p p2 hs,λC G ρ σ H pd d v k K hm r p h kk=>?_⟩
 cases d with
 | nil=>exact h.elim
 | cons d ds =>
  rw [Reps] at p
  obtain ⟨v,vs,rfl,p1,p3⟩:=p
  exact ⟨v,vs,rfl,s C G ρ σ H pd d v _ _ hm r p1 h λρ' σ' h' r'=>s2 C G ρ' σ' H pd ds vs k K hm r' p3 h' kk⟩
def g8 (n:Nat) (m:MGs):Prop:=∀ ds ρ k,m ds ρ k->ds.length=n
theorem bh:g8 0 kQ:=λds ρ k h=>by cases ds with | nil=>rfl | cons _ _=>exact h.elim
theorem au {n:Nat} {i:Nat} (h:g8 n mgs):g8 (n + 1) (gP (fQ i) mgs):=λds ρ k q=>by
 cases ds with
 | nil=>exact q.elim
 | cons d ds=>simp [h ds _ _ q]
theorem dH {kk:Nat} {n:Nat} (hc:X.calm=true) (h:QGs X M es mgs) (ht:g8 n mgs)
 (hn:(assignEach es X.env).length=n:=by rfl) (hst:(assignEach es X.env).findIdx? (·.1)=none:=by rfl):QG X M (.Tuple es kk pos) (nq mgs):=by
 obtain ⟨t,p,s⟩:=h
 refine ⟨_,jV hc p hn hst,λC G ρ σ H pd d v k K hm r p h kk=>?_⟩
 cases d with
 | tup ds =>
  obtain ⟨a,xs,rfl,h1,h2⟩:=dr p
  exact ⟨a,xs,rfl,SqT.of (r.gh _ _ h1),by rw [h2.length]; exact ht _ _ _ h,s C G ρ σ H pd ds xs k K hm r h2 h kk⟩
 | _=>exact h.elim
def mAsg (m:ME) (g:MG):MS:=λn ρ=>m ρ λd ρ1=>g d ρ1 n.nx
theorem gL {tg:Expr} (he:QE X M.ow e ma) (hg:QG X M tg mg) (hs:swapsWithSole [tg] e pos.line X.env=pure false:=by rfl) (hw:swappedStores [tg] e X.env=pure none:=by rfl)
 (h1:(assignEach [tg] X.env).map (·.2)=[assign tg X.env]:=by rfl):QS X M (.Assign [tg] e pos) (mAsg ma mg):=by
 obtain ⟨t,p,s⟩:=he; obtain ⟨t2,p2,s2⟩:=hg
 refine ⟨_,iA p p2 hs hw h1,λC G ρ σ H n D hm hn r h k=>s C G ρ σ H [] _ _ r h λd ρ' v G' H' hq z kp r' p=>?_⟩
 exact s2 C G' ρ' σ H' [] d v _ _ hm r' p hq λρ2 σ2 h2 r2=>k.nx ρ2 σ2 G' H' h2 z r2
def mDrop (m:ME):MS:=λn ρ=>m ρ λ_ ρ1=>n.nx ρ1
theorem eA (he:QE X M.ow e ma) (hs:swapsWith e none pos.line X.env=pure false:=by rfl):QS X M (.Expr e pos) (mDrop ma):=by
 obtain ⟨t,p,s⟩:=he
 exact ⟨_,dz p hs,λC G ρ σ H n D hm hn r h k=>s C G ρ σ H [] _ _ r h λd ρ' v G' H' hq z kp r' p=>k.nx ρ' σ G' H' hq z r'⟩
def k_ (i:Nat) (m:ME):MS:=λn ρ=>match ρ[i]? with
 | some (some (.lst _))=>m ρ λd ρ1=>match ρ1[i]? with
  | some (some (.lst ds))=>ds.length<1000/\n.nx (ρ1.set i (some (.lst (ds++[d]))))
  | _=>False
 | _=>False
theorem eB {i:Nat} {x:Str} {apos cpos npos:Pos} (hN:X.N[i]? = some x) (he:QF X M.ow e ma) (ho:M.ow[i]? = some true:=by decide)
 (hv:Vis X.env.scope x:=by first | exact Or.inl rfl | exact Or.inr (Or.inl rfl) | exact Or.inr (Or.inr rfl)) (hd:(x == ("__debug__":Str))=false:=by decide) (hcd:(x == ("__classdict__":Str))=false:=by decide)
 (hbase:attributeBase (.Name x npos) "append" X.env (eval (.Name x npos) X.env)=eval (.Name x npos) X.env:=by rfl)
 (hfew:((backTo cpos (starEach [e] X.env)).all (λx=>!x.1)&&(backToKw cpos (keywordEach [] X.env)).all (λx=>x.1.isSome)
  && decide ([e].length + ([]:List Keyword).length + (if ([]:List Keyword).isEmpty then 0 else 1)<30))=true:=by rfl)
 (hline:(apos.endLine == cpos.line)=true:=by rfl) (hst:starEach [e] X.env=[(false,eval e X.env)]:=by rfl)
 (hs:swapsWith (.Call (.Attribute (.Name x npos) "append" apos) [e] [] cpos) none pos.line X.env=pure false:=by rfl) :
 QS X M (.Expr (.Call (.Attribute (.Name x npos) "append" apos) [e] [] cpos) pos) (k_ i ma):=by
 obtain ⟨t,p,s⟩:=he
 refine ⟨_,dz (kE PySem.F.plainAttrs_list PySem.F.slot_list_append PySem.F.type_list_append ix (cF hN hv hd hcd) (bC p dl hst) hbase hfew hline hst (by rfl)) hs,λC G ρ σ H n D hm hn r h k=>?_⟩
 unfold k_ at h
 split at h
 ·rename_i ds e1
  obtain ⟨O,ro⟩:=r
  obtain ⟨a,xs,h1,h2,_,_⟩:=ro.write e1 ho
  refine ⟨.ref a,h1,.inl ⟨rfl,xs,SqL.of h2⟩,?_⟩
  refine s C G ρ σ H [] _ _ ⟨O,ro⟩ h λd ρ' v G' H' hq z kp r'=>?_
  split at hq
  ·rename_i ds' e2
   obtain ⟨O',r'⟩:=r'
   obtain ⟨O2,r2,s2,s3⟩:=r'.join i ds'.length (by rw [hn]; exact Nat.zero_le _)
   obtain ⟨a',xs',g1,g2,g3,g4⟩:=r2.write e2 ho
   rw [h1] at g1; cases g1
   have hl:=g3.length
   refine ⟨a,xs',v,rfl,rfl,g2,by rw [hl]; exact bY (Nat.le_of_lt hq.1),?_⟩
   exact k.nx _ _ G' _ hq.2 z ⟨O2,g4 _ _ (g3.snoc (by simpa using s2))⟩
  ·exact hq.elim
 ·exact h.elim
def mSetI (i:Nat) (mk m:ME):MS:=λn ρ=>m ρ λd ρ1=>match ρ1[i]? with
 | some (some (.lst _))=>mk ρ1 λk ρ2=>match ρ2[i]? with
  | some (some (.lst ds))=>match k with
   | .int j=>match ixN ds.length j with
    | some p=>n.nx (ρ2.set i (some (.lst (ds.set p d))))
    | none=>False
   | _=>False
  | _=>False
 | _=>False
theorem eZ {i:Nat} {x:Str} {npos spos:Pos} (hN:X.N[i]? = some x) (he:QF X M.ow e ma) (hk:QE X M.ow b mb) (ho:M.ow[i]? = some true:=by decide)
 (hv:Vis X.env.scope x:=by first | exact Or.inl rfl | exact Or.inr (Or.inl rfl) | exact Or.inr (Or.inr rfl)) (hd:(x == ("__debug__":Str))=false:=by decide) (hcd:(x == ("__classdict__":Str))=false:=by decide)
 (ha:∀ v,assign (.Subscript (.Name x npos) b spos) X.env v=(do
  let ov <- holding [v] (eval (.Name x npos) X.env)
  let iv <- holding [v,ov] (eval b X.env)
  standAt spos
  holding [v,ov,iv] (setItem ov iv v)
  release [v,ov,iv] []):=by intro _; rfl)
 (hs:swapsWithSole [.Subscript (.Name x npos) b spos] e pos.line X.env=pure false:=by rfl) (hw:swappedStores [.Subscript (.Name x npos) b spos] e X.env=pure none:=by rfl)
 (h1:(assignEach [.Subscript (.Name x npos) b spos] X.env).map (·.2)=[assign (.Subscript (.Name x npos) b spos) X.env]:=by rfl) :
 QS X M (.Assign [.Subscript (.Name x npos) b spos] e pos) (mSetI i mb ma):=by
 obtain ⟨t,p,s⟩:=he; obtain ⟨t2,p2,s2⟩:=hk
 refine ⟨_,iA p (nH (cF hN hv hd hcd) p2 gt ha) hs hw h1,λC G ρ σ H n D hm hn r h k=>s C G ρ σ H [] _ _ r h λd ρ' v G' H' hq z kp r'=>?_⟩
 split at hq
 ·rename_i ds0 e0
  obtain ⟨O0,ro⟩:=r'
  obtain ⟨a,xs,hu,_,_,_⟩:=ro.write e0 ho
  refine ⟨.ref a,hu,?_⟩
  refine s2 C G' ρ' σ H' _ _ _ ⟨O0,ro⟩ hq λdk ρ2 jv G2 H2 hq2 z2 kp2 r2 pj=>?_
  split at hq2
  ·rename_i ds e2
   cases dk with
   | int j =>
    dsimp only at hq2
    split at hq2
    ·rename_i pl e3
     obtain ⟨O',r2⟩:=r2
     obtain ⟨O2,r3,w2,w3⟩:=r2.join i pl (by rw [hn]; exact Nat.zero_le _)
     obtain ⟨a',xs',g1,g2,g3,g4⟩:=r3.write e2 ho
     rw [hu] at g1; cases g1
     refine ⟨a,xs',j,pl,rfl,ax pj,g2,by rw [g3.length]; exact e3,?_⟩
     exact k.nx _ _ G2 _ hq2 (z.trans z2) ⟨O2,g4 _ _ (g3.set (by simpa using w2))⟩
    ·exact hq2.elim
   | _=>exact hq2.elim
  ·exact hq2.elim
 ·exact hq.elim
def tX (mt:MT) (mb:MS):MS:=λn ρ=>∃ W:Nat->DSt->Prop,(∃ k,W k ρ)/\∀ k ρ,W k ρ->mt ρ λb ρ1 =>
 if b=true then mb { n with nx:=λρ'=>∃ k',k'<k/\W k' ρ',ct:=λρ'=>∃ k',k'<k/\W k' ρ',bk:=n.nx } ρ1 else n.nx ρ1
theorem jq {body:List Stmt} (hp:PassesOwn (model X.prog X.w) X.A X.env X.xe) (hc:QT X M.ow c mt) (hb:QSs X M body m):QS X M (.While c body [] pos) (tX mt m):=by
 obtain ⟨t,p,s⟩:=hc; obtain ⟨t2,p2,s2⟩:=hb
 refine ⟨_,nB hp p p2,λC G ρ σ H n D hm hn r h k=>?_⟩
 obtain ⟨W,⟨k0,w0⟩,turn⟩:=h
 refine ⟨λj σ' H'=>∃ G' ρ',aB G G'/\R C M.ow G' ρ' σ' H' []/\W j ρ',⟨k0,G,ρ,aB.refl _,r,w0⟩,?_⟩
 rintro j σ' H' ⟨G',ρ',z,r',w⟩
 refine s C G' ρ' σ' H' [] _ _ r' (turn j ρ' w) λb ρ1 G1 H1 hq z1 kp r1=>?_
 cases b with
 | true =>
  rw [if_pos rfl] at hq ⊢
  refine ⟨λσ2 H2=>∃ j',j'<j/\∃ G2 ρ2,aB G G2/\R C M.ow G2 ρ2 σ2 H2 []/\W j' ρ2,λσ2 H2 h=>h,?_⟩
  refine s2 C G1 ρ1 σ' H1 _ _ hm hn r1 hq ⟨?_,?_,?_,?_⟩
  ·rintro ρ2 σ2 G2 H2 ⟨j',hj,w'⟩ z2 r2; exact ⟨j',hj,G2,ρ2,z.trans (z1.trans z2),r2,w'⟩
  ·intro ρ2 σ2 G2 H2 h z2 r2; exact k.nx ρ2 σ2 G2 H2 h (z.trans (z1.trans z2)) r2
  ·rintro ρ2 σ2 G2 H2 ⟨j',hj,w'⟩ z2 r2; exact ⟨j',hj,G2,ρ2,z.trans (z1.trans z2),r2,w'⟩
  ·intro d ρ2 σ2 v G2 H2 h z2 r2; exact k.rt d ρ2 σ2 v G2 H2 h (z.trans (z1.trans z2)) r2
 | false=>rw [if_neg (by decide)] at hq ⊢; exact k.nx ρ1 σ' G1 H1 hq (z.trans z1) r1
def jJ (J:It) (G:Hp) (ds:List D):Prop:=∀ (C:Ctx) (ow:List Bool) (G':Hp) (ρ:DSt) (σ:St) (H:Hp) (pd:List (D×V)) (i:Nat),aB G G'->R C ow G' ρ σ H pd ->
 (ds.length<=i->J.stop i H)/\∀ d,ds[i]? = some d->J.go i H/\∀ x H',J.yld i H x H'->∃ G2,aB G' G2/\R C ow G2 ρ σ H' pd/\Rep G2 d x
def SI (ow:List Bool) (wi:TI) (mi:MA):Prop:=∀ (C:Ctx) (G:Hp) (ρ:DSt) (σ:St) (H:Hp) (pd:List (D×V)) (q:List D->DSt->Prop) (Q:It->Hp->Prop),R C ow G ρ σ H pd->mi ρ q ->
 (∀ ds ρ' G' H' J,q ds ρ'->aB G G'->Kp ow ρ ρ'->R C ow G' ρ' σ H' pd->jJ J G' ds->Q J H')->wi σ H Q
structure QI (X:Cx) (ow:List Bool) (tg iter:Expr) (mi:MA):Prop where
 ex:∃ t,PI X tg iter t/\SI ow t mi
def forD (g:MG) (mb:MS) (n:EndsD) (ds:List D) (ρ:DSt):Prop:=∃ I:Nat->DSt->Prop,I 0 ρ /\
 (∀ i d ρ,ds[i]? = some d->I i ρ->g d ρ λρ1=>mb { n with nx:=I (i + 1),ct:=I (i + 1),bk:=n.nx } ρ1)/\∀ ρ,I ds.length ρ->n.nx ρ
def mFor (mi:MA) (g:MG) (mb:MS):MS:=λn ρ=>mi ρ λds ρ1=>forD g mb n ds ρ1
theorem cn {mi:MA} {tg iter:Expr} {body:List Stmt} (hp:PassesOwn (model X.prog X.w) X.A X.env X.xe) (hc:X.calm=true) (hi:QI X M.ow tg iter mi) (hg:QG X M tg mg) (hb:QSs X M body m)
 (hs:∀ x,foldedSetIterable iter X.env x=pure x:=by intro _; rfl):QS X M (.For tg iter body [] pos) (mFor mi mg m):=by
 obtain ⟨ti,pi,si⟩:=hi; obtain ⟨tg',pg,sg⟩:=hg; obtain ⟨tb,pb,sb⟩:=hb
 refine ⟨_,mL hp hc pi pg pb hs,λC G ρ σ H n D hm hn r h k=>si C G ρ σ H [] _ _ r h λds ρ0 G0 H0 J hq z0 kp r0 jo=>?_⟩
 obtain ⟨I,i0,turn,fin⟩:=hq
 refine ⟨λi j σ' H'=>j=ds.length - i/\i<=ds.length/\∃ G' ρ',aB G0 G'/\R C M.ow G' ρ' σ' H' []/\I i ρ',⟨_,rfl,Nat.zero_le _,G0,ρ0,aB.refl _,r0,i0⟩,?_⟩
 rintro i j σ' H' ⟨rfl,hi,G',ρ',z,r',w⟩
 obtain ⟨st,go⟩:=jo C M.ow G' ρ' σ' H' [] i z r'
 by_cases hlt:i<ds.length
 ·obtain ⟨g1,g2⟩:=go ds[i] (List.getElem?_eq_getElem hlt)
  refine .inr ⟨g1,λσ2 H2=>∃ G2 ρ2,aB G0 G2/\R C M.ow G2 ρ2 σ2 H2 []/\I (i + 1) ρ2,λσ2 H2 h=>⟨ds.length - (i + 1),by omega,rfl,hlt,h⟩,λx H1 hy=>?_⟩
  obtain ⟨G1,z1,r1,p1⟩:=g2 x H1 hy
  refine sg C G1 ρ' σ' H1 [] ds[i] x _ _ hm r1 p1 (turn i ds[i] ρ' (List.getElem?_eq_getElem hlt) w) λρ2 σ2 h2 r2=>?_
  refine sb C G1 ρ2 σ2 H1 _ _ hm hn r2 h2 ⟨?_,?_,?_,?_⟩
  ·intro ρ3 σ3 G3 H3 h3 z3 r3; exact ⟨G3,ρ3,z.trans (z1.trans z3),r3,h3⟩
  ·intro ρ3 σ3 G3 H3 h3 z3 r3; exact k.nx ρ3 σ3 G3 H3 h3 (z0.trans (z.trans (z1.trans z3))) r3
  ·intro ρ3 σ3 G3 H3 h3 z3 r3; exact ⟨G3,ρ3,z.trans (z1.trans z3),r3,h3⟩
  ·intro d ρ3 σ3 v G3 H3 h3 z3 r3; exact k.rt d ρ3 σ3 v G3 H3 h3 (z0.trans (z.trans (z1.trans z3))) r3
 ·have e:i=ds.length:=by omega
  subst e
  exact .inl ⟨st (Nat.le_refl _),k.nx ρ' σ' G' H' (fin ρ' w) (z0.trans z) r'⟩
end
section
variable {X:Cx} {ow:List Bool} {a b c e tg:Expr} {ma mb mc:ME} {pos:Pos} {mr:MA} {es:List Expr}
theorem nG {K:PySem.W.Frag} {G:Hp} {p:Addr} {xs:List V} {ds:List D} (h1:G p=some (.lst xs)) (h2:Reps G ds xs):jJ (Itl K p) G ds:=λC ow G' ρ σ H pd i z r=>by
 have hp:=r.gh _ _ (z _ _ h1)
 refine ⟨λhl=>⟨xs,SqL.of hp,by rw [h2.length]; exact hl⟩,λd e=>?_⟩
 obtain ⟨v,e1,e2⟩:=dS h2 e
 refine ⟨⟨xs,v,SqL.of hp,e1⟩,λx H' hy=>?_⟩
 obtain ⟨rfl,hy⟩:=hy
 have:=hy xs (SqL.of hp)
 rw [e1] at this; cases this
 exact ⟨G',aB.refl _,r,Rep.mono z _ _ e2⟩
def miLst (m:ME):MA:=λρ q=>m ρ λd ρ'=>match d with
 | .lst ds=>q ds ρ'
 | _=>False
theorem aR (h:QE X ow e ma):QI X ow tg e (miLst ma):=by
 obtain ⟨t,p,s⟩:=h
 refine ⟨_,ky p,λC G ρ σ H pd q Q r hm k=>s C G ρ σ H pd _ _ r hm λd ρ' v G' H' hq z kp r' p=>?_⟩
 cases d with
 | lst ds=>obtain ⟨a,xs,rfl,h1,h2⟩:=aN p; exact ⟨a,rfl,⟨xs,SqL.of (r'.gh _ _ h1)⟩,k ds ρ' G' H' _ hq z kp r' (nG h1 h2)⟩
 | _=>exact hq.elim
def gZ (lo:Int) (n:Nat):List D:=(List.range n).map λ(i:Nat)=>.int (lo + i)
theorem gm {lo:Int} {n i:Nat} {d:D} (h:(gZ lo n)[i]? = some d):i<n/\d = .int (lo + i):=by
 unfold gZ at h
 rw [List.getElem?_map] at h
 by_cases c:i<n
 ·rw [List.getElem?_range c] at h; exact ⟨c,(Option.some.inj h).symm⟩
 ·rw [List.getElem?_eq_none (by simp; omega)] at h; cases h
theorem df (lo:Int) (n:Nat):(gZ lo n).length=n:=by unfold gZ; simp
theorem mN {G:Hp} {lo:Int} {n:Nat}:jJ (Itr lo n) G (gZ lo n):=λC ow G' ρ σ H pd i z r=>by
 refine ⟨λhl=>by rw [df] at hl; exact hl,λd e=>?_⟩
 obtain ⟨h1,rfl⟩:=gm e
 refine ⟨h1,λx H' hy=>?_⟩
 obtain ⟨rfl,rfl⟩:=hy
 exact ⟨G',aB.refl _,r,bq _⟩
def miR1 (m:MA):MA:=λρ q=>m ρ λds ρ'=>match ds with
 | [.int j]=>(-(2 ^ 62)<=j/\j<2 ^ 62)/\q (gZ 0 j.toNat) ρ'
 | _=>False
def miR2 (m:MA):MA:=λρ q=>m ρ λds ρ'=>match ds with
 | [.int i,.int j]=>(-(2 ^ 62)<=i/\i<2 ^ 62/\-(2 ^ 62)<=j/\j<2 ^ 62)/\q (gZ i (j - i).toNat) ρ'
 | _=>False
theorem ic {p:Pos} (hg:Gl X "range") (hm:X.mg "range" = none) (ha:QA X ow [a] mr) (hs:starEach [a] X.env=[(false,eval a X.env)]:=by rfl):QI X ow tg (.Call (.Name "range" p) [a] [] pos) (miR1 mr):=by
 obtain ⟨t,p,s⟩:=ha
 refine ⟨_,l4 hg hm p hs,λC G ρ σ H pd q Q r hm k=>s C G ρ σ H pd _ _ r hm λds ρ' vs G' H' hq z kp r' p hn=>?_⟩
 split at hq
 ·obtain ⟨v,rfl,p1⟩:=bi p
  rw [ax p1]
  exact ⟨_,rfl,hq.1.1,hq.1.2,k _ ρ' G' H' _ hq.2 z kp r' mN⟩
 ·exact hq.elim
theorem g9 {p:Pos} (hg:Gl X "range") (hm:X.mg "range" = none) (ha:QA X ow [a,b] mr) (hs:starEach [a,b] X.env=[(false,eval a X.env),(false,eval b X.env)]:=by rfl) (hs2:starEach [b] X.env=[(false,eval b X.env)]:=by rfl):QI X ow tg (.Call (.Name "range" p) [a,b] [] pos) (miR2 mr):=by
 obtain ⟨t,p,s⟩:=ha
 refine ⟨_,lR hg hm p hs hs2,λC G ρ σ H pd q Q r hm k=>s C G ρ σ H pd _ _ r hm λds ρ' vs G' H' hq z kp r' p hn=>?_⟩
 split at hq
 ·obtain ⟨v,u,rfl,p1,p2⟩:=d3 p
  rw [ax p1,ax p2]
  exact ⟨_,_,rfl,hq.1,k _ ρ' G' H' _ hq.2 z kp r' mN⟩
 ·exact hq.elim
def lG (ds:List D):List D:=ds.mapIdx λi d=>.tup [.int i,d]
theorem ou (ds:List D):(lG ds).length=ds.length:=by unfold lG; simp
theorem gc {ds:List D} {i:Nat} {d:D} (h:(lG ds)[i]? = some d):∃ d',ds[i]? = some d'/\d = .tup [.int i,d']:=by
 unfold lG at h
 rw [List.getElem?_mapIdx] at h
 cases e:ds[i]? with
 | none=>rw [e] at h; cases h
 | some d'=>rw [e] at h; exact ⟨d',rfl,(Option.some.inj h).symm⟩
theorem sL {G:Hp} {p:Addr} {xs:List V} {ds:List D} (h1:G p=some (.lst xs)) (h2:Reps G ds xs):jJ (Ite p) G (lG ds):=λC ow G' ρ σ H pd i z r=>by
 have hp:=r.gh _ _ (z _ _ h1)
 refine ⟨λhl=>⟨xs,hp,by rw [h2.length]; rw [ou] at hl; exact hl⟩,λd e=>?_⟩
 obtain ⟨d',e0,rfl⟩:=gc e
 obtain ⟨v,e1,e2⟩:=dS h2 e0
 refine ⟨⟨xs,v,hp,e1⟩,λx H' hy=>?_⟩
 obtain ⟨a,x',ha,rfl,rfl,hy⟩:=hy
 have:=hy xs hp
 rw [e1] at this; cases this
 obtain ⟨O,r⟩:=r
 obtain ⟨r2,s2⟩:=r.new ha (.tup [.int i,v])
 exact ⟨_,s2,⟨O,r2⟩,ld ay (bc (bq _) (bc (Rep.mono (z.trans s2) _ _ e2) bj))⟩
def miEnu (m:MA):MA:=λρ q=>m ρ λds ρ'=>match ds with
 | [.lst ds]=>q (lG ds) ρ'
 | _=>False
theorem iQ {k:Nat} {tpos p:Pos} (hg:Gl X "enumerate") (hm:X.mg "enumerate" = none) (ha:QA X ow [a] mr) (hs:starEach [a] X.env=[(false,eval a X.env)]:=by rfl):QI X ow (.Tuple es k tpos) (.Call (.Name "enumerate" p) [a] [] pos) (miEnu mr):=by
 obtain ⟨t,p,s⟩:=ha
 refine ⟨_,pV hg hm p hs,λC G ρ σ H pd q Q r hm k=>s C G ρ σ H pd _ _ r hm λds ρ' vs G' H' hq z kp r' p hn=>?_⟩
 split at hq
 ·obtain ⟨v,rfl,p1⟩:=bi p
  obtain ⟨a,xs,rfl,h1,h2⟩:=aN p1
  exact ⟨a,rfl,⟨xs,r'.gh _ _ h1⟩,k _ ρ' G' H' _ hq z kp r' (sL h1 h2)⟩
 ·exact hq.elim
def qZ (i:Nat):ME:=λρ q=>match ρ[i]? with
 | some (some d)=>q d (ρ.set i none)
 | _=>False
end
inductive AK where
 | s | m (i:Nat) | t
def AK.isM:AK->Bool
 | .s=>false
 | _=>true
def gT (G:Hp) (σ:St):List AK->List D->List V->List (D×V)->Prop
 | [],[],[],[]=>True
 | .s :: ks,d :: ds,v :: vs,T=>Rep G d v/\gT G σ ks ds vs T
 | .m i :: ks,_ :: ds,v :: vs,T=>σ[i]? = some (some v)/\gT G σ ks ds vs T
 | .t :: ks,d :: ds,v :: vs,x :: T=>x=(d,v)/\gT G σ ks ds vs T
 | _,_,_,_=>False
def SAk (ow:List Bool) (ks:List AK) (t:TA) (m:MA):Prop:=∀ (C:Ctx) (G:Hp) (ρ:DSt) (σ:St) (H:Hp) (pd:List (D×V)) (q:List D->DSt->Prop) (Q:List V->Hp->Prop),R C ow G ρ σ H pd->m ρ q ->
 (∀ ds ρ' vs T G' H',q ds ρ'->aB G G'->Kp ow ρ ρ'->R C ow G' ρ' σ H' (T.reverse++pd)->gT G' σ ks ds vs T->Q vs H')->t σ H Q
structure QAk (X:Cx) (ow:List Bool) (ks:List AK) (es:List Expr) (m:MA):Prop where
 ex:∃ t,PA X es t/\SAk ow ks t m
section
variable {X:Cx} {ow:List Bool} {a b c e tg:Expr} {ma mb mc:ME} {pos:Pos} {mr:MA} {es:List Expr} {ks:List AK}
theorem am:QAk X ow [] [] lP:=⟨_,dl,λC G ρ σ H pd q Q r h k=>k [] ρ [] [] G H h (aB.refl _) Kp.refl r trivial⟩
theorem aq (ha:QE X ow e ma) (hr:QAk X ow ks es mr) (hs:starEach (e :: es) X.env=(false,eval e X.env) :: starEach es X.env:=by rfl):QAk X ow (.s :: ks) (e :: es) (eI ma mr):=by
 obtain ⟨t,p,s⟩:=ha; obtain ⟨t2,p2,s2⟩:=hr
 refine ⟨_,bC p p2 hs,λC G ρ σ H pd q Q r hm k=>s C G ρ σ H pd _ _ r hm λd ρ' v G' H' hq z kp r' p=>?_⟩
 exact s2 C G' ρ' σ H' pd _ _ r' hq λds ρ2 vs T G2 H2 hq2 z2 kp2 r2 p2=>k (d :: ds) ρ2 (v :: vs) T G2 H2 hq2 (z.trans z2) (kp.trans kp2) r2 ⟨Rep.mono z2 _ _ p,p2⟩
theorem qk_t (ha:QF X ow e ma) (hr:QAk X ow ks es mr) (hs:starEach (e :: es) X.env=(false,eval e X.env) :: starEach es X.env:=by rfl):QAk X ow (.t :: ks) (e :: es) (eI ma mr):=by
 obtain ⟨t,p,s⟩:=ha; obtain ⟨t2,p2,s2⟩:=hr
 refine ⟨_,bC p p2 hs,λC G ρ σ H pd q Q r hm k=>s C G ρ σ H pd _ _ r hm λd ρ' v G' H' hq z kp r'=>?_⟩
 exact s2 C G' ρ' σ H' _ _ _ r' hq λds ρ2 vs T G2 H2 hq2 z2 kp2 r2 p2=>k (d :: ds) ρ2 (v :: vs) ((d,v) :: T) G2 H2 hq2 (z.trans z2) (kp.trans kp2) (by simpa using r2) ⟨rfl,p2⟩
def nK (i:Nat) (r:MA):MA:=λρ q=>match ρ[i]? with
 | some (some _)=>r ρ λds ρ2=>q (.non :: ds) ρ2
 | _=>False
theorem dW (i:Nat) {x:Str} (hr:QAk X ow ks es mr) (hN:X.N[i]? = some x:=by rfl) (hv:Vis X.env.scope x:=by first | exact Or.inl rfl | exact Or.inr (Or.inl rfl) | exact Or.inr (Or.inr rfl)) (hd:(x == ("__debug__":Str))=false:=by decide)
 (hcd:(x == ("__classdict__":Str))=false:=by decide) (hs:starEach (.Name x pos :: es) X.env=(false,eval (.Name x pos) X.env) :: starEach es X.env:=by rfl):QAk X ow (.m i :: ks) (.Name x pos :: es) (nK i mr):=by
 obtain ⟨t2,p2,s2⟩:=hr
 refine ⟨_,bC (cF hN hv hd hcd) p2 hs,λC G ρ σ H pd q Q r hm k=>?_⟩
 unfold nK at hm
 split at hm
 ·rename_i d e
  obtain ⟨O,ro⟩:=r
  obtain ⟨v,h1,_⟩:=ro.sl i d e
  exact ⟨v,h1,s2 C G ρ σ H pd _ _ ⟨O,ro⟩ hm λds ρ2 vs T G2 H2 hq2 z2 kp2 r2 p2=>k (.non :: ds) ρ2 (v :: vs) T G2 H2 hq2 z2 kp2 r2 ⟨h1,p2⟩⟩
 ·exact hm.elim
def dh:List AK->List D->DSt->Option (List D)
 | [],[],_=>some []
 | .s :: ks,d :: ds,ρ=>(dh ks ds ρ).map (d :: ·)
 | .t :: ks,d :: ds,ρ=>(dh ks ds ρ).map (d :: ·)
 | .m i :: ks,_ :: ds,ρ=>match ρ[i]? with
  | some (some d)=>(dh ks ds ρ).map (d :: ·)
  | _=>none
 | _,_,_=>none
def lbs:List AK->Nat->List (Option Nat)
 | [],_=>[]
 | .s :: ks,r=>none :: lbs ks r
 | .m i :: ks,r=>some (2 * i) :: lbs ks r
 | .t :: ks,r=>some (2 * r + 1) :: lbs ks (r + 1)
def az:List AK->List Nat
 | []=>[]
 | .m i :: ks=>i :: az ks
 | _ :: ks=>az ks
def fnd (l:Nat):List (Option Nat)->Nat->Option Nat
 | [],_=>none
 | x :: xs,k=>if x=some l then some k else fnd l xs (k + 1)
theorem o0 {l:Nat}:∀ {xs:List (Option Nat)} {k j:Nat},fnd l xs k=some j->∃ i,j=k + i/\xs[i]? = some (some l)
 | [],_,_,h=>by cases h
 | x :: xs,k,j,h=>by
  unfold fnd at h
  split at h
  ·rename_i c; cases h; exact ⟨0,rfl,by simp [c]⟩
  ·obtain ⟨i,rfl,e⟩:=o0 h; exact ⟨i + 1,by omega,by simpa using e⟩
theorem jr {l:Nat}:∀ {xs:List (Option Nat)} {k:Nat},(∀ i:Nat,xs[i]?≠some (some l))->fnd l xs k=none
 | [],_,_=>rfl
 | x :: xs,k,h=>by
  unfold fnd
  rw [if_neg (λc=>h 0 (by simp [c]))]
  exact jr λi=>by simpa using h (i + 1)
theorem oQ {l:Nat}:∀ {xs:List (Option Nat)} {k i:Nat},(∀ (i j:Nat) (l:Nat),xs[i]? = some (some l)->xs[j]? = some (some l)->i=j)->xs[i]? = some (some l)->fnd l xs k=some (k + i)
 | [],_,_,_,h=>by simp at h
 | x :: xs,k,i,u,h=>by
  unfold fnd
  by_cases c:x=some l
  ·rw [if_pos c]
   have:=u 0 i l (by simp [c]) h
   subst this; rfl
  ·rw [if_neg c]
   cases i with
   | zero=>simp at h; exact absurd h c
   | succ i =>
    have:=oQ (k:=k + 1) (i:=i) (λi j l a b=>by have:=u (i + 1) (j + 1) l (by simpa using a) (by simpa using b); omega) (by simpa using h)
    rw [this]; congr 1; omega
theorem cA:∀ {ks:List AK} {r:Nat} {i l:Nat},(lbs ks r)[i]? = some (some l)->(∃ j∈az ks,l=2 * j)\/∃ j,r<=j/\l=2 * j + 1
 | [],_,_,_,h=>by simp [lbs] at h
 | .s :: ks,r,0,l,h=>by simp [lbs] at h
 | .s :: ks,r,i + 1,l,h=>by simp only [lbs,List.getElem?_cons_succ] at h; have:=cA (ks:=ks) h; simpa [az] using this
 | .m j :: ks,r,0,l,h=>by simp [lbs] at h; exact .inl ⟨j,by simp [az],h.symm⟩
 | .m j :: ks,r,i + 1,l,h=>by
  simp only [lbs,List.getElem?_cons_succ] at h
  rcases cA h with ⟨z,h1,h2⟩ | h
  ·exact .inl ⟨z,by simp [az,h1],h2⟩
  ·exact .inr h
 | .t :: ks,r,0,l,h=>by simp [lbs] at h; exact .inr ⟨r,Nat.le_refl _,h.symm⟩
 | .t :: ks,r,i + 1,l,h=>by
  simp only [lbs,List.getElem?_cons_succ] at h
  rcases cA h with ⟨z,h1,h2⟩ | ⟨j,h1,h2⟩
  ·exact .inl ⟨z,by simpa [az] using h1,h2⟩
  ·exact .inr ⟨j,by omega,h2⟩
theorem fC:∀ {ks:List AK} {r:Nat},(az ks).Nodup->∀ (i j l:Nat),(lbs ks r)[i]? = some (some l)->(lbs ks r)[j]? = some (some l)->i=j
 | [],_,_,i,j,l,h,_=>by simp [lbs] at h
 | .s :: ks,r,nd,0,j,l,h,_=>by simp [lbs] at h
 | .s :: ks,r,nd,i + 1,0,l,_,h=>by simp [lbs] at h
 | .s :: ks,r,nd,i + 1,j + 1,l,h,h2=>by simp only [lbs,List.getElem?_cons_succ] at h h2; rw [fC (ks:=ks) (by simpa [az] using nd) i j l h h2]
 | .m a :: ks,r,nd,0,0,l,_,_=>rfl
 | .m a :: ks,r,nd,0,j + 1,l,h,h2=>by
  simp only [lbs,List.getElem?_cons_succ] at h2; simp [lbs] at h
  simp only [az,List.nodup_cons] at nd
  rcases cA h2 with ⟨z,h3,h4⟩ | ⟨z,h3,h4⟩
  ·exact absurd h3 (by rw [show z=a by omega]; exact nd.1)
  ·omega
 | .m a :: ks,r,nd,i + 1,0,l,h2,h=>by
  simp only [lbs,List.getElem?_cons_succ] at h2; simp [lbs] at h
  simp only [az,List.nodup_cons] at nd
  rcases cA h2 with ⟨z,h3,h4⟩ | ⟨z,h3,h4⟩
  ·exact absurd h3 (by rw [show z=a by omega]; exact nd.1)
  ·omega
 | .m a :: ks,r,nd,i + 1,j + 1,l,h,h2=>by
  simp only [az,List.nodup_cons] at nd
  simp only [lbs,List.getElem?_cons_succ] at h h2; rw [fC (ks:=ks) nd.2 i j l h h2]
 | .t :: ks,r,nd,0,0,l,_,_=>rfl
 | .t :: ks,r,nd,0,j + 1,l,h,h2=>by
  simp only [lbs,List.getElem?_cons_succ] at h2; simp [lbs] at h
  rcases cA h2 with ⟨z,h3,h4⟩ | ⟨z,h3,h4⟩ <;> omega
 | .t :: ks,r,nd,i + 1,0,l,h2,h=>by
  simp only [lbs,List.getElem?_cons_succ] at h2; simp [lbs] at h
  rcases cA h2 with ⟨z,h3,h4⟩ | ⟨z,h3,h4⟩ <;> omega
 | .t :: ks,r,nd,i + 1,j + 1,l,h,h2=>by simp only [lbs,List.getElem?_cons_succ] at h h2; rw [fC (ks:=ks) (by simpa [az] using nd) i j l h h2]
end
theorem d8 {G H:Hp} {O:Own}:∀ {T pd:List (D×V)},bG G H O (T++pd)->bG G H O pd
 | [],_,h=>h
 | _ :: T,_,h=>d8 (T:=T) h.2
theorem iR {G H:Hp} {O:Own}:∀ {T pd:List (D×V)} {j:Nat} {x:D×V},bG G H O (T.reverse++pd)->T[j]? = some x->Sep G H O (2 * (pd.length + j) + 1) x.1 [] x.2
 | [],_,_,_,_,e=>by simp at e
 | y :: T,pd,j,x,h,e=>by
  have h':bG G H O (T.reverse++(y :: pd)):=by simpa using h
  cases j with
  | zero=>simp at e; subst e; exact (d8 h').1
  | succ j =>
   have:=iR (j:=j) h' (by simpa using e)
   rw [show pd.length + (j + 1)=(y :: pd).length + j by simp; omega]
   exact this
theorem gl {G H:Hp} {O:Own} {σ:St} {ρ:DSt}:∀ {ks:List AK} {ds ds':List D} {vs:List V} {T:List (D×V)} {r:Nat},gT G σ ks ds vs T->dh ks ds ρ=some ds' ->
 (∀ (j:Nat) x,T[j]? = some x->Sep G H O (2 * (r + j) + 1) x.1 [] x.2)->(∀ i∈az ks,∀ d,ρ[i]? = some (some d)->∃ v,σ[i]? = some (some v)/\Sep G H O (2 * i) d [] v) ->
 ds'.length=vs.length/\vs.length=ks.length/\∀ (k:Nat) d,ds'[k]? = some d->∃ v,vs[k]? = some v/\((∃ l,(lbs ks r)[k]? = some (some l)/\(ks.map AK.isM)[k]? = some true/\Sep G H O l d [] v)\/((ks.map AK.isM)[k]? = some false/\Rep G d v))
 | [],[],ds',[],[],r,_,hf,_,_=>by simp [dh] at hf; subst hf; exact ⟨rfl,rfl,λk d e=>by simp at e⟩
 | .s :: ks,d :: ds,ds',v :: vs,T,r,h,hf,hT,hS=>by
  rw [dh] at hf
  cases e:dh ks ds ρ with
  | none=>rw [e] at hf; cases hf
  | some es =>
   rw [e] at hf; cases hf
   obtain ⟨l1,l2,ih⟩:=gl (ks:=ks) h.2 e hT (λi hi=>hS i (by simpa [az] using hi))
   refine ⟨by simp [l1],by simp [l2],λk d' e'=>?_⟩
   cases k with
   | zero=>simp at e'; subst e'; exact ⟨v,rfl,.inr ⟨rfl,h.1⟩⟩
   | succ k=>obtain ⟨u,g1,g2⟩:=ih k d' (by simpa using e'); exact ⟨u,by simpa using g1,by simpa [lbs] using g2⟩
 | .m i :: ks,d :: ds,ds',v :: vs,T,r,h,hf,hT,hS=>by
  rw [dh] at hf
  cases e0 : ρ[i]? with
  | none=>rw [e0] at hf; cases hf
  | some o =>
   cases o with
   | none=>rw [e0] at hf; cases hf
   | some d0 =>
    rw [e0] at hf
    dsimp only at hf
    cases e:dh ks ds ρ with
    | none=>rw [e] at hf; cases hf
    | some es =>
     rw [e] at hf; cases hf
     obtain ⟨l1,l2,ih⟩:=gl (ks:=ks) h.2 e hT (λi hi=>hS i (by simp [az,hi]))
     refine ⟨by simp [l1],by simp [l2],λk d' e'=>?_⟩
     cases k with
     | zero =>
      simp at e'; subst e'
      obtain ⟨u,g1,g2⟩:=hS i (by simp [az]) d0 e0
      rw [h.1] at g1; cases g1
      exact ⟨v,rfl,.inl ⟨2 * i,by simp [lbs],rfl,g2⟩⟩
     | succ k=>obtain ⟨u,g1,g2⟩:=ih k d' (by simpa using e'); exact ⟨u,by simpa using g1,by simpa [lbs] using g2⟩
 | .t :: ks,d :: ds,ds',v :: vs,x :: T,r,h,hf,hT,hS=>by
  rw [dh] at hf
  cases e:dh ks ds ρ with
  | none=>rw [e] at hf; cases hf
  | some es =>
   rw [e] at hf; cases hf
   obtain ⟨l1,l2,ih⟩:=gl (ks:=ks) (r:=r + 1) h.2 e (λj x e=>by rw [show r + 1 + j=r + (j + 1) by omega]; exact hT (j + 1) x (by simpa using e)) (λi hi=>hS i (by simpa [az] using hi))
   refine ⟨by simp [l1],by simp [l2],λk d' e'=>?_⟩
   cases k with
   | zero =>
    simp at e'; subst e'
    have:=hT 0 x rfl
    rw [h.1] at this
    exact ⟨v,rfl,.inl ⟨2 * r + 1,by simp [lbs],rfl,this⟩⟩
   | succ k=>obtain ⟨u,g1,g2⟩:=ih k d' (by simpa using e'); exact ⟨u,by simpa using g1,by simpa [lbs] using g2⟩
 | [],_ :: _,_,_,_,_,h,_,_,_=>h.elim
 | [],[],_,_ :: _,_,_,h,_,_,_=>h.elim
 | [],[],_,[],_ :: _,_,h,_,_,_=>h.elim
 | .s :: _,[],_,_,_,_,h,_,_,_=>h.elim
 | .s :: _,_ :: _,_,[],_,_,h,_,_,_=>h.elim
 | .m _ :: _,[],_,_,_,_,h,_,_,_=>h.elim
 | .m _ :: _,_ :: _,_,[],_,_,h,_,_,_=>h.elim
 | .t :: _,[],_,_,_,_,h,_,_,_=>h.elim
 | .t :: _,_ :: _,_,[],_,_,h,_,_,_=>h.elim
 | .t :: _,_ :: _,_,_ :: _,[],_,h,_,_,_=>h.elim
theorem eE {G:Hp} {σ:St}:∀ {ks:List AK} {ds:List D} {vs:List V} {T:List (D×V)} {k i:Nat},gT G σ ks ds vs T->ks[k]? = some (.m i)->∃ v,vs[k]? = some v/\σ[i]? = some (some v)
 | [],_,_,_,k,i,_,e=>by simp at e
 | .s :: ks,d :: ds,v :: vs,T,0,i,h,e=>by simp at e
 | .s :: ks,d :: ds,v :: vs,T,k + 1,i,h,e=>by obtain ⟨u,g1,g2⟩:=eE (k:=k) h.2 (by simpa using e); exact ⟨u,by simpa using g1,g2⟩
 | .m j :: ks,d :: ds,v :: vs,T,0,i,h,e=>by simp at e; subst e; exact ⟨v,rfl,h.1⟩
 | .m j :: ks,d :: ds,v :: vs,T,k + 1,i,h,e=>by obtain ⟨u,g1,g2⟩:=eE (k:=k) h.2 (by simpa using e); exact ⟨u,by simpa using g1,g2⟩
 | .t :: ks,d :: ds,v :: vs,x :: T,0,i,h,e=>by simp at e
 | .t :: ks,d :: ds,v :: vs,x :: T,k + 1,i,h,e=>by obtain ⟨u,g1,g2⟩:=eE (k:=k) h.2 (by simpa using e); exact ⟨u,by simpa using g1,g2⟩
 | .s :: _,[],_,_,_,_,h,_=>h.elim
 | .s :: _,_ :: _,[],_,_,_,h,_=>h.elim
 | .m _ :: _,[],_,_,_,_,h,_=>h.elim
 | .m _ :: _,_ :: _,[],_,_,_,h,_=>h.elim
 | .t :: _,[],_,_,_,_,h,_=>h.elim
 | .t :: _,_ :: _,[],_,_,_,h,_=>h.elim
 | .t :: _,_ :: _,_ :: _,[],_,_,h,_=>h.elim
def bQ:List AK->DSt->DSt->DSt
 | .m i :: ks,x :: ρ2,ρ=>bQ ks ρ2 (ρ.set i x)
 | _ :: ks,_ :: ρ2,ρ=>bQ ks ρ2 ρ
 | _,_,ρ=>ρ
def gY:List AK->DSt->DSt->DSt
 | .s :: ks,os,ρ=>gY ks os ρ
 | .m i :: ks,o :: os,ρ=>gY ks os (ρ.set i o)
 | .t :: ks,_ :: os,ρ=>gY ks os ρ
 | _,_,ρ=>ρ
theorem gf:∀ {ks:List AK} {ρ2 ρ:DSt},ρ2.length=ks.length->gY ks (mus (ks.map AK.isM) ρ2) ρ=bQ ks ρ2 ρ
 | [],[],ρ,_=>rfl
 | .s :: ks,x :: ρ2,ρ,h=>by simp only [List.map,AK.isM,mus,gY,bQ]; exact gf (by simpa using h)
 | .m i :: ks,x :: ρ2,ρ,h=>by simp only [List.map,AK.isM,mus,gY,bQ]; exact gf (by simpa using h)
 | .t :: ks,x :: ρ2,ρ,h=>by simp only [List.map,AK.isM,mus,gY,bQ]; exact gf (by simpa using h)
theorem fm:∀ {ks:List AK} {ρ2 ρ:DSt},(bQ ks ρ2 ρ).length=ρ.length
 | [],_,_=>by simp [bQ]
 | .s :: ks,[],_=>by simp [bQ]
 | .m i :: ks,[],_=>by simp [bQ]
 | .t :: ks,[],_=>by simp [bQ]
 | .s :: ks,x :: ρ2,ρ=>by simp only [bQ]; exact fm
 | .m i :: ks,x :: ρ2,ρ=>by simp only [bQ]; rw [fm]; simp
 | .t :: ks,x :: ρ2,ρ=>by simp only [bQ]; exact fm
theorem fh:∀ {ks:List AK} {ρ2 ρ:DSt} {i:Nat},i ∉ az ks->(bQ ks ρ2 ρ)[i]? = ρ[i]?
 | [],_,_,_,_=>by simp [bQ]
 | .s :: ks,[],_,_,_=>by simp [bQ]
 | .m i :: ks,[],_,_,_=>by simp [bQ]
 | .t :: ks,[],_,_,_=>by simp [bQ]
 | .s :: ks,x :: ρ2,ρ,i,h=>by simp only [bQ]; exact fh (by simpa [az] using h)
 | .t :: ks,x :: ρ2,ρ,i,h=>by simp only [bQ]; exact fh (by simpa [az] using h)
 | .m j :: ks,x :: ρ2,ρ,i,h=>by
  simp only [bQ]
  simp only [az,List.mem_cons,not_or] at h
  rw [fh h.2,List.getElem?_set_ne (Ne.symm h.1)]
theorem eW:∀ {ks:List AK} {ρ2 ρ:DSt} {i:Nat} {d:D},(bQ ks ρ2 ρ)[i]? = some (some d)->ρ2.length=ks.length->(i ∉ az ks/\ρ[i]? = some (some d))\/∃ k:Nat,ks[k]? = some (.m i)/\ρ2[k]? = some (some d)
 | [],[],ρ,i,d,h,_=>.inl ⟨by simp [az],by simpa [bQ] using h⟩
 | .s :: ks,x :: ρ2,ρ,i,d,h,hl=>by
  simp only [bQ] at h
  rcases eW h (by simpa using hl) with ⟨h1,h2⟩ | ⟨k,h1,h2⟩
  ·exact .inl ⟨by simpa [az] using h1,h2⟩
  ·exact .inr ⟨k + 1,by simpa using h1,by simpa using h2⟩
 | .t :: ks,x :: ρ2,ρ,i,d,h,hl=>by
  simp only [bQ] at h
  rcases eW h (by simpa using hl) with ⟨h1,h2⟩ | ⟨k,h1,h2⟩
  ·exact .inl ⟨by simpa [az] using h1,h2⟩
  ·exact .inr ⟨k + 1,by simpa using h1,by simpa using h2⟩
 | .m j :: ks,x :: ρ2,ρ,i,d,h,hl=>by
  simp only [bQ] at h
  rcases eW h (by simpa using hl) with ⟨h1,h2⟩ | ⟨k,h1,h2⟩
  ·rcases dq h2 with ⟨rfl,rfl⟩ | ⟨h3,h4⟩
   ·exact .inr ⟨0,rfl,rfl⟩
   ·exact .inl ⟨by simp [az,h1,h3],h4⟩
  ·exact .inr ⟨k + 1,by simpa using h1,by simpa using h2⟩
theorem kM:∀ {ks:List AK} {r k i:Nat},ks[k]? = some (.m i)->(lbs ks r)[k]? = some (some (2 * i))
 | [],_,_,_,e=>by simp at e
 | .s :: ks,r,0,i,e=>by simp at e
 | .s :: ks,r,k + 1,i,e=>by simp only [lbs,List.getElem?_cons_succ]; exact kM (by simpa using e)
 | .m j :: ks,r,0,i,e=>by simp at e; subst e; simp [lbs]
 | .m j :: ks,r,k + 1,i,e=>by simp only [lbs,List.getElem?_cons_succ]; exact kM (by simpa using e)
 | .t :: ks,r,0,i,e=>by simp at e
 | .t :: ks,r,k + 1,i,e=>by simp only [lbs,List.getElem?_cons_succ]; exact kM (by simpa using e)
theorem fA:∀ {ks:List AK} {r k l:Nat},(lbs ks r)[k]? = some (some l)->(ks.map AK.isM)[k]? = some true
 | [],_,_,_,e=>by simp [lbs] at e
 | .s :: ks,r,0,i,e=>by simp [lbs] at e
 | .s :: ks,r,k + 1,i,e=>by simp only [lbs,List.getElem?_cons_succ] at e; simp only [List.map,List.getElem?_cons_succ]; exact fA e
 | .m j :: ks,r,0,i,e=>rfl
 | .m j :: ks,r,k + 1,i,e=>by simp only [lbs,List.getElem?_cons_succ] at e; simp only [List.map,List.getElem?_cons_succ]; exact fA e
 | .t :: ks,r,0,i,e=>rfl
 | .t :: ks,r,k + 1,i,e=>by simp only [lbs,List.getElem?_cons_succ] at e; simp only [List.map,List.getElem?_cons_succ]; exact fA e
theorem qk {ks:List AK} {k i:Nat} (h:ks[k]? = some (.m i)):i∈az ks:=by
 induction ks generalizing k with
 | nil=>simp at h
 | cons x ks ih =>
  cases k with
  | zero=>simp at h; subst h; simp [az]
  | succ k=>have:=ih (by simpa using h); cases x <;> simp [az,this]
theorem jx {C:Ctx} {ow:List Bool} {G:Hp} {ρ:DSt} {σ:St} {H:Hp} {pd T:List (D×V)} {ks:List AK} {ds ds':List D} {vs:List V} {fr:Bool} {sd:SpD} {q:D->DSt->Prop} {Q:VK} {E:XK}
 (hn:C.np<=pd.length) (r:R C ow G ρ σ H (T.reverse++pd)) (ha:gT G σ ks ds vs T) (hf:dh ks ds ρ=some ds') (nd:(az ks).Nodup) (hw:∀ i∈az ks,ow[i]? = some true)
 (h:sd ds' λd os=>q d (gY ks os ρ))
 (k:∀ d ρ' v G' H',q d ρ'->aB G G'->Kp ow ρ ρ'->(if fr=true then R C ow G' ρ' σ H' ((d,v) :: pd) else R C ow G' ρ' σ H' pd/\Rep G' d v)->Q v H'):a_ (ks.map AK.isM) fr sd vs H Q E:=by
 obtain ⟨O,ro⟩:=r
 have pn:=ro.pn
 obtain ⟨l1,l2,hat⟩:=gl (O:=O) (H:=H) (r:=pd.length) ha hf (λj x e=>iR pn e) (λi hi d e=>by
  obtain ⟨v,h1,h2⟩:=ro.sl i d e; rw [if_pos (hw i hi)] at h2; exact ⟨v,h1,h2⟩)
 let lb:=lbs ks pd.length
 let fin:Nat->Option Nat:=λl=>(fnd l lb 0).map (2 * ·)
 let fbk:Nat->Option Nat:=λl=>if l=1 then some (2 * pd.length + 1) else if l % 2=0 then (match lb[l / 2]? with | some o=>o | none=>none) else none
 have uq:=fC (ks:=ks) (r:=pd.length) nd
 have fin_at:∀ (i l:Nat),lb[i]? = some (some l)->fin l=some (2 * i):=λi l e=>by
  show (fnd l lb 0).map _=_
  rw [oQ uq e]; simp
 have fin_of:∀ l l',fin l=some l'->∃ i,l'=2 * i/\lb[i]? = some (some l):=λl l' e=>by
  change (fnd l lb 0).map _=_ at e
  cases z:fnd l lb 0 with
  | none=>rw [z] at e; cases e
  | some j=>rw [z] at e; cases e; obtain ⟨i,rfl,e2⟩:=o0 z; exact ⟨i,by show 2 * (0 + i)=2 * i; omega,e2⟩
 have fin_none:∀ l,(∀ i:Nat,lb[i]?≠some (some l))->fin l=none:=λl e=>by
  show (fnd l lb 0).map _=_
  rw [jr e]; rfl
 have ri:=ro.into (mu:=ks.map AK.isM) (fin:=fin) (ds:=ds') (vs:=vs) l1 (λj d e=>by
  obtain ⟨v,h1,h2⟩:=hat j d e
  refine ⟨v,h1,?_⟩
  rcases h2 with ⟨l,h2,h3,h4⟩ | ⟨h2,h3⟩
  ·rw [if_pos h3]; exact ⟨l,h4,fin_at j l h2⟩
  ·rw [if_neg (by rw [h2]; decide)]; exact h3) (λl l' e=>by
  obtain ⟨i,rfl,e2⟩:=fin_of l l' e
  exact ⟨i,rfl,fA e2,by have:=(List.getElem?_eq_some_iff.mp (fA e2)).1; rw [List.length_map] at this; omega⟩)
 refine ⟨_,G,ds',λd os=>q d (gY ks os ρ),rfl,rfl,⟨_,ri⟩,h,by rw [List.length_map,l1,l2],?_⟩
 intro d ρ2 σ2 v G2 H2 hq z hl hr
 rw [List.length_map] at hl
 rw [gf hl] at hq
 have out:∀ (pd2 pd3:List (D×V)) (O2:Own),RO ⟨G,H,bN fin O,msV (ks.map AK.isM) vs,0⟩ (ks.map AK.isM) G2 ρ2 σ2 H2 pd2 O2->C.np<=pd3.length ->
  (∀ (O3:Own),(∀ a l π,O a=some (l,π)->fin l=none->O3 a=some (l,π)/\H2 a=H a)->(∀ a l l' π,O2 a=some (l',π)->fbk l'=some l->O3 a=some (l,π))->cr G G2->bG G2 H2 O3 pd3) ->
  RO C ow G2 (bQ ks ρ2 ρ) σ H2 pd3 (jX fin fbk O O2):=λpd2 pd3 O2 r2 hn3 hP=>by
  refine ro.out (vs:=vs) r2 ?_ (by rw [fm]; exact ro.len) hn3 ?_ ?_ hP
  ·intro l0 l' l e1 e2
   obtain ⟨i,rfl,e3⟩:=fin_of l0 l' e1
   change (if 2 * i=1 then _ else if 2 * i % 2=0 then _ else _)=_ at e2
   rw [if_neg (by omega),if_pos (by omega),show 2 * i / 2=i by omega,e3] at e2
   exact (Option.some.inj e2).symm
  ·intro i d c e
   rcases eW e hl with ⟨_,h2⟩ | ⟨k,h1,_⟩
   ·exact h2
   ·exact absurd (hw i (qk h1)) c
  ·intro i d c e
   rcases eW e hl with ⟨h1,h2⟩ | ⟨j,h1,h2⟩
   ·refine .inl ⟨fin_none _ λj e=>?_,h2⟩
    rcases cA e with ⟨z,h3,h4⟩ | ⟨z,h3,h4⟩
    ·exact h1 (by rw [show i=z by omega]; exact h3)
    ·omega
   ·obtain ⟨u,g1,g2⟩:=eE ha h1
    have im:(ks.map AK.isM)[j]? = some true:=by rw [List.getElem?_map,h1]; rfl
    refine .inr ⟨j,u,?_,im,h2,g2,r2.mp j u (jO im g1)⟩
    show (if 2 * j=1 then _ else if 2 * j % 2=0 then _ else _)=_
    rw [if_neg (by omega),if_pos (by omega),show 2 * j / 2=j by omega,kM h1]
 have pdk:∀ (O3:Own),(∀ a l π,O a=some (l,π)->fin l=none->O3 a=some (l,π)/\H2 a=H a)->cr G G2->bG G2 H2 O3 pd:=λO3 h1 ts =>
  bG.keep ts (λa j π hj e=>h1 a _ _ e (fin_none _ λi e=>by
   rcases cA e with ⟨z,h3,h4⟩ | ⟨z,h3,h4⟩ <;> omega)) (d8 (T:=T.reverse) pn)
 have kp:Kp ow ρ (bQ ks ρ2 ρ):=λj hj=>fh λhs=>hj (hw j hs)
 refine k d (bQ ks ρ2 ρ) v G2 H2 hq z kp ?_
 unfold Ret at hr
 split at hr
 ·rename_i c
  rw [if_pos c]
  obtain ⟨O2,r2⟩:=hr
  refine ⟨_,out _ ((d,v) :: pd) O2 r2 (Nat.le_succ_of_le hn) λO3 h1 h2 ts=>⟨?_,pdk O3 h1 ts⟩⟩
  exact r2.pn.1.keep (λ_ _ z=>z) λa τ e=>⟨h2 a _ _ _ e (by show (if 2 * 0 + 1=1 then _ else _)=_; rw [if_pos rfl]),rfl⟩
 ·rename_i c
  rw [if_neg c]
  obtain ⟨⟨O2,r2⟩,p⟩:=hr
  exact ⟨⟨_,out _ pd O2 r2 hn λO3 h1 h2 ts=>pdk O3 h1 ts⟩,p⟩
section
variable {X:Cx} {ow:List Bool} {a b c e tg:Expr} {ma mb mc:ME} {pos p':Pos} {mr:MA} {es:List Expr} {ks:List AK} {x:Str}
def lj (ks:List AK) (sd:SpD) (m:MA):ME:=λρ q=>m ρ λds ρ1=>match dh ks ds ρ1 with
 | some ds'=>sd ds' λd os=>q d (gY ks os ρ1)
 | none=>False
theorem pP {k:Nat} {f:Addr} {fd:FuncData} {ps:List Str} {mu:List Bool} {sd:SpD} (F:FnOk X.prog X.w X.K X.mg X.base CX0 k f fd ps (a_ mu false sd)) (hr:Room k X.A) (hg:Gl X x) (hm:X.mg x=some (.ref f)) (hk:PySem.W.keepIn X.K (.ref f)=true) (hb:fX X.K fd ps [])
 (ha:QAk X ow ks (e :: es) mr) (hmu:mu=ks.map AK.isM:=by rfl) (nd:(az ks).Nodup:=by decide) (hw:∀ i∈az ks,ow[i]? = some true:=by decide) (hdb:(x == ("__debug__":Str))=false:=by decide)
 (he:starEach (e :: es) X.env=(false,eval e X.env) :: starEach es X.env:=by rfl) (hpl:(backTo pos (starEach es X.env)).any (·.1)=false:=by rfl):QE X ow (.Call (.Name x p') (e :: es) [] pos) (lj ks sd mr):=by
 obtain ⟨t,p,s⟩:=ha
 subst hmu
 refine ⟨_,lg F hr hg hm hk hb .nil qI p hdb he hpl,λC G ρ σ H pd q Q r hm k=>s C G ρ σ H pd _ _ r hm λds ρ' vs T G' H' hq z kp r' p=>?_⟩
 rw [List.append_nil]
 split at hq
 ·rename_i ds' ef
  exact jx (fr:=false) r.np r' p ef nd hw hq λd ρ2 v G2 H2 hq2 z2 kp2 h2=>by
   rw [if_neg (by decide)] at h2
   exact k d ρ2 v G2 H2 hq2 (z.trans z2) (kp.trans kp2) h2.1 h2.2
 ·exact hq.elim
theorem pS {k:Nat} {f:Addr} {fd:FuncData} {ps:List Str} {mu:List Bool} {sd:SpD} (F:FnOk X.prog X.w X.K X.mg X.base CX0 k f fd ps (a_ mu true sd)) (hr:Room k X.A) (hg:Gl X x) (hm:X.mg x=some (.ref f)) (hk:PySem.W.keepIn X.K (.ref f)=true) (hb:fX X.K fd ps [])
 (ha:QAk X ow ks (e :: es) mr) (hmu:mu=ks.map AK.isM:=by rfl) (nd:(az ks).Nodup:=by decide) (hw:∀ i∈az ks,ow[i]? = some true:=by decide) (hdb:(x == ("__debug__":Str))=false:=by decide)
 (he:starEach (e :: es) X.env=(false,eval e X.env) :: starEach es X.env:=by rfl) (hpl:(backTo pos (starEach es X.env)).any (·.1)=false:=by rfl):QF X ow (.Call (.Name x p') (e :: es) [] pos) (lj ks sd mr):=by
 obtain ⟨t,p,s⟩:=ha
 subst hmu
 refine ⟨_,lg F hr hg hm hk hb .nil qI p hdb he hpl,λC G ρ σ H pd q Q r hm k=>s C G ρ σ H pd _ _ r hm λds ρ' vs T G' H' hq z kp r' p=>?_⟩
 rw [List.append_nil]
 split at hq
 ·rename_i ds' ef
  exact jx (fr:=true) r.np r' p ef nd hw hq λd ρ2 v G2 H2 hq2 z2 kp2 h2=>by
   rw [if_pos rfl] at h2
   exact k d ρ2 v G2 H2 hq2 (z.trans z2) (kp.trans kp2) h2
 ·exact hq.elim
end
theorem RO.grow {C:Ctx} {mu ow:List Bool} {G:Hp} {ds:List D} {vs:List V} {H:Hp} {O:Own} (n:Nat) (h:RO C mu G (ds.map some) (vs.map some) H [] O) (ho:∀ i:Nat,i<ds.length->ow[i]? = mu[i]?) :
 RO C ow G (ds.map some++List.replicate n none) (vs.map some++List.replicate n none) H [] O:=by
 have hl:ds.length=vs.length:=by simpa using h.len
 have up:∀ {α:Type} {l:List α} {i:Nat} {d : α},(l.map some++List.replicate n none)[i]? = some (some d)->i<l.length/\(l.map some)[i]? = some (some d):=λ{α l i d} e=>by
  by_cases c:i<l.length
  ·rw [List.getElem?_append_left (by simpa using c)] at e; exact ⟨c,e⟩
  ·rw [List.getElem?_append_right (by simpa using c)] at e
   rw [List.getElem?_replicate] at e
   split at e <;> cases e
 refine ⟨by simp [hl],h.gh,h.g0,h.gn,h.og,h.cok,h.fr,h.ft,h.al,?_,?_,h.pn,h.np⟩
 ·intro i v e
  have:=h.mp i v e
  rw [List.getElem?_append_left (dA this)]; exact this
 ·intro i d e
  obtain ⟨c,e1⟩:=up e
  obtain ⟨v,h1,h2⟩:=h.sl i d e1
  exact ⟨v,by rw [List.getElem?_append_left (dA h1)]; exact h1,by rw [ho i c]; exact h2⟩
theorem RO.trim {C:Ctx} {mu ow:List Bool} {G:Hp} {ρ:DSt} {σ:St} {H:Hp} {pd:List (D×V)} {O:Own} (h:RO C ow G ρ σ H pd O) (hm:f8 C mu) (ho:∀ i:Nat,i<mu.length->ow[i]? = mu[i]?) :
 RO C mu G (bX mu.length ρ) (bX mu.length σ) H pd O:=by
 refine ⟨by rw [cf,cf],h.gh,h.g0,h.gn,h.og,h.cok,h.fr,h.ft,h.al,?_,?_,h.pn,h.np⟩
 ·intro i v e
  exact iU (lt_of_slot' (hm i v e)) (h.mp i v e)
 ·intro i d e
  obtain ⟨c,e1⟩:=iM e
  obtain ⟨v,h1,h2⟩:=h.sl i d e1
  exact ⟨v,iU c h1,by rw [<- ho i c]; exact h2⟩
where
 lt_of_slot' {l:List Bool} {i:Nat} {x:Bool} (h:l[i]? = some x):i<l.length:=(List.getElem?_eq_some_iff.mp h).1
def iK (mu:List Bool) (q:D->DSt->Prop):EndsD:=⟨λρ=>q .non (mus mu ρ),λd ρ=>q d (mus mu ρ),λ_=>False,λ_=>False⟩
theorem fnD {P:Program} {w:World} {K:PySem.W.Frag} {mg:Str->Option Value} {base:Heap} {x qual:Str} {st:Stmt} {f:Addr} {fd:FuncData} {N ps:List Str} {k:Nat} (F:Fun K x qual st f fd) (S:FnScope N ps (ai st)) (M:Md) (sd:SpD)
 (hl:∀ ds q,sd ds q->ds.length=ps.length) (ho:M.ow.take ps.length=M.mu) (hml:M.mu.length=ps.length)
 (hbody:∀ (cdv:Value) (A:Around) (outer:List Env) (s:Shared) (H:Hp) (E:XK),Room k (A.deeper (envOfC qual (ai st) s.heap.objs.size f cdv)) ->
  ∃ m,QSs (iF CX0 P w K mg base N qual (ai st) f cdv A outer s H E).nox M (bV st) m/\∀ ds q,sd ds q->m (iK M.mu q) (ds.map some++List.replicate (N.length - ps.length) none)) :
 FnOk P w K mg base CX0 (k + 1) f fd ps (a_ M.mu M.fr sd):=by
 have hov:∀ i:Nat,i<M.mu.length->M.ow[i]? = M.mu[i]?:=λi hi=>by rw [<- ho,List.getElem?_take_of_lt (by omega)]
 have hlen:∀ vs H Q E,a_ M.mu M.fr sd vs H Q E->vs.length=ps.length:=λvs H Q E ⟨C,G,ds,q,_,_,⟨O,ro⟩,h1,_,_⟩=>by
  have:=ro.len; simp at this; rw [<- this]; exact hl ds q h1
 refine F.ok S hlen λcdv A outer s H vs Q E hr hsp=>?_
 obtain ⟨m,⟨t,p,ss⟩,hm⟩:=hbody cdv A outer s H E hr
 have hvl:=hlen vs H Q E hsp
 obtain ⟨C,G,ds,q,hnp,hmu,⟨O,ro⟩,hsd,hml2,kk⟩:=hsp
 refine ⟨t,p,?_⟩
 have hmo:f8 C M.mu:=λi v e=>by rw [hmu] at e; exact (iz e).1
 have r0:R C M.ow G (ds.map some++List.replicate (N.length - ps.length) none) (start N vs) H []:=by
  unfold start; rw [hvl]
  exact ⟨O,ro.grow _ λi hi=>hov i (by omega)⟩
 refine ss C G _ _ H (iK M.mu q) _ hmo hnp r0 (hm ds q hsd) ⟨?_,λ_ _ _ _ h=>h.elim,λ_ _ _ _ h=>h.elim,?_⟩
 ·intro ρ σ G' H' h z ⟨O',r'⟩
  refine kk .non (bX M.mu.length ρ) (bX M.mu.length σ) .non G' H' (by rw [ci]; exact h) z (cf _ _) (R.non ⟨O',r'.trim hmo hov⟩)
 ·intro d ρ σ v G' H' h z hr'
  refine kk d (bX M.mu.length ρ) (bX M.mu.length σ) v G' H' (by rw [ci]; exact h) z (cf _ _) ?_
  unfold Ret at hr' ⊢
  split at hr'
  ·rename_i c; rw [if_pos c]; obtain ⟨O',r'⟩:=hr'; exact ⟨O',r'.trim hmo hov⟩
  ·rename_i c; rw [if_neg c]; obtain ⟨⟨O',r'⟩,p⟩:=hr'; exact ⟨⟨O',r'.trim hmo hov⟩,p⟩
theorem Seps.mk {G H:Hp} {O:Own} {i:Nat}:∀ {T:List (D×V)} {k:Nat} {π:List Nat},(∀ (j:Nat) x,T[j]? = some x->Sep G H O i x.1 ((k + j) :: π) x.2)->Seps G H O i (T.map (·.1)) k π (T.map (·.2))
 | [],_,_,_=>by simp; rw [Seps]
 | x :: T,k,π,h=>by
  simp only [List.map]; rw [Seps]
  exact ⟨x.2,_,rfl,by simpa using h 0 x rfl,Seps.mk λj y e=>by rw [show k + 1 + j=k + (j + 1) by omega]; exact h (j + 1) y (by simpa using e)⟩
section
variable {C:Ctx} {ow:List Bool} {G:Hp} {ρ:DSt} {σ:St} {H:Hp} {pd T:List (D×V)} {O:Own}
theorem RO.gather (h:RO C ow G ρ σ H (T.reverse++pd) O) (hn:C.np<=pd.length):∃ O',RO C ow G ρ σ H pd O'/\Seps G H O' (2 * pd.length + 1) (T.map (·.1)) 0 [] (T.map (·.2)):=by
 refine ⟨lab (λl π=>if l % 2=1/\pd.length<=l / 2 then (2 * pd.length + 1,π++[l / 2 - pd.length]) else (l,π)) O,⟨h.len,h.gh,h.g0,h.gn,?_,h.cok,h.fr,h.ft,h.al,h.mp,?_,?_,hn⟩,?_⟩
 ·intro a m e
  obtain ⟨l,π,e1,rfl⟩:=gD e
  obtain ⟨q1,q2,q3⟩:=h.og a _ e1
  refine ⟨q1,q2,?_⟩
  split
  ·rename_i z
   rcases q3 with q3 | ⟨_,q3⟩
   ·exact .inl q3
   ·rcases h.cok _ _ _ q3 with ⟨k,_,q4,_⟩ | ⟨k,q4,q5⟩
    ·omega
    ·omega
  ·exact q3
 ·intro j e q
  obtain ⟨u,h1,h2⟩:=h.sl j e q
  refine ⟨u,h1,?_⟩
  split at h2
  ·rename_i c; rw [if_pos c]; exact h2.keep (λ_ _ z=>z) λa τ q=>⟨by rw [bI q,if_neg (by omega)],rfl⟩
  ·rename_i c; rw [if_neg c]; exact h2
 ·exact bG.keep (λ_ _ z=>z) (λa j π hj q=>⟨by rw [bI q,if_neg (by omega)],rfl⟩) (d8 (T:=T.reverse) h.pn)
 ·refine Seps.mk λj x e=>?_
  have:=iR h.pn e
  refine Sep.map (f:=λπ=>π++[0 + j]) (λ_ _ z=>z) (λ_ _=>rfl) x.1 [] x.2 (λa τ q=>⟨?_,rfl⟩) this
  rw [bI q,if_pos (by omega)]
  rw [show (2 * (pd.length + j) + 1) / 2 - pd.length=0 + j by omega]
theorem RO.newT (h:RO C ow G ρ σ H pd O) {p:Addr} (hp:H p=none) {ds:List D} {vs:List V} (hs:Seps G H O (2 * pd.length + 1) ds 0 [] vs):R C ow (upd G p (.tup vs)) ρ σ (upd H p (.tup vs)) ((.tup ds,.ref p) :: pd)/\aB G (upd G p (.tup vs)):=by
 obtain ⟨r,z⟩:=h.new hp (.tup vs)
 refine ⟨⟨O,r.len,r.gh,r.g0,r.gn,r.og,r.cok,r.fr,r.ft,r.al,r.mp,r.sl,⟨?_,r.pn⟩,Nat.le_succ_of_le r.np⟩,z⟩
 rw [Sep]
 exact ⟨p,vs,rfl,ay,hs.keep z.ts λa τ _ q=>⟨q,ah (λe=>by obtain ⟨_,⟨xs,w⟩,_⟩:=h.og a _ q; rw [e,hp] at w; cases w)⟩⟩
theorem RO.newS (h:RO C ow G ρ σ H pd O) {p:Addr} (hp:H p=none) {ds:List D} {vs:List V} (hs:Seps G H O (2 * pd.length + 1) ds 0 [] vs):R C ow G ρ σ (upd H p (.lst vs)) ((.lst ds,.ref p) :: pd):=by
 have gp:G p=none:=by
  cases e:G p with
  | none=>rfl
  | some z=>rw [h.gh _ _ e] at hp; cases hp
 have ne:∀ a l,O a=some l->a≠p:=λa l e z=>by
  obtain ⟨_,⟨xs,q⟩,_⟩:=h.og a l e
  rw [z,hp] at q; cases q
 let O':Own:=λa=>if a=p then some (2 * pd.length + 1,[]) else O a
 have old:∀ a l,O a=some l->O' a=some l:=λa l e=>by
  show (if a=p then _ else _)=_
  rw [if_neg (ne a _ e),e]
 refine ⟨O',h.len,?_,h.g0,h.gn,?_,h.cok,?_,?_,?_,h.mp,?_,⟨?_,?_⟩,Nat.le_succ_of_le h.np⟩
 ·intro a u e
  rw [ah (λz=>by rw [z,gp] at e; cases e)]
  exact h.gh _ _ e
 ·intro a l e
  by_cases z:a=p
  ·subst z; exact ⟨gp,⟨.inl vs,ay⟩,.inl (h.al _ hp)⟩
  ·rw [ah z]
   change (if a=p then _ else _)=_ at e
   rw [if_neg z] at e
   exact h.og a _ e
 ·intro a u e n t
  rw [ah (av (h.fr a u e n t) hp)]
  exact h.fr a u e n t
 ·intro a ps q e
  by_cases z:a=p
  ·subst z; rw [ay] at e; cases e
  ·rw [ah z] at e; exact h.ft a ps q e
 ·intro a e
  by_cases z:a=p
  ·subst z; rw [ay] at e; cases e
  ·rw [ah z] at e; exact h.al a e
 ·intro i d e
  obtain ⟨v,h1,h2⟩:=h.sl i d e
  refine ⟨v,h1,?_⟩
  split at h2
  ·rename_i c; rw [if_pos c]; exact h2.keep (λ_ _ z=>z) λa τ q=>⟨old a _ q,ah (ne a _ q)⟩
  ·rename_i c; rw [if_neg c]; exact h2
 ·rw [Sep]
  exact ⟨p,vs,rfl,by show (if p=p then _ else _)=_; rw [if_pos rfl],ay,hs.keep (λ_ _ z=>z) λa τ _ q=>⟨old a _ q,ah (ne a _ q)⟩⟩
 ·exact bG.keep (λ_ _ z=>z) (λa j π hj q=>⟨old a _ q,ah (ne a _ q)⟩) h.pn
end
def SFm (M:Md) (t:TE) (m:ME):Prop:=∀ (C:Ctx) (G:Hp) (ρ:DSt) (σ:St) (H:Hp) (pd:List (D×V)) (q:D->DSt->Prop) (Q:VK),f8 C M.mu->R C M.ow G ρ σ H pd->m ρ q ->
 (∀ d ρ' v G' H',q d ρ'->aB G G'->R C M.ow G' ρ' σ H' ((d,v) :: pd)->Q v H')->t σ H Q
structure QM (X:Cx) (M:Md) (e:Expr) (m:ME):Prop where
 ex:∃ t,PE X e t/\SFm M t m
def SAm (M:Md) (n:Nat) (t:TA) (m:MA):Prop:=∀ (C:Ctx) (G:Hp) (ρ:DSt) (σ:St) (H:Hp) (pd:List (D×V)) (q:List D->DSt->Prop) (Q:List V->Hp->Prop),f8 C M.mu->R C M.ow G ρ σ H pd->m ρ q ->
 (∀ (T:List (D×V)) ρ' G' H',q (T.map (·.1)) ρ'->aB G G'->R C M.ow G' ρ' σ H' (T.reverse++pd)->T.length=n->Q (T.map (·.2)) H')->t σ H Q
structure QMs (X:Cx) (M:Md) (es:List Expr) (m:MA):Prop where
 ex:∃ t,PA X es t/\SAm M es.length t m
section
variable {X:Cx} {M:Md} {a b c e:Expr} {ma mb mc:ME} {pos pos':Pos} {mr:MA} {es:List Expr}
theorem QF.qm (h:QF X M.ow e ma):QM X M e ma:=by
 obtain ⟨t,p,s⟩:=h
 exact ⟨_,p,λC G ρ σ H pd q Q hm r h k=>s C G ρ σ H pd q Q r h λd ρ' v G' H' hq z kp r'=>k d ρ' v G' H' hq z r'⟩
theorem cO (i:Nat) {x:Str} (ho:M.ow[i]? = some true:=by decide) (hu:M.mu[i]?≠some true:=by decide) (hN:X.N[i]? = some x:=by rfl) (hv:Vis X.env.scope x:=by first | exact Or.inl rfl | exact Or.inr (Or.inl rfl) | exact Or.inr (Or.inr rfl)) (hd:(x == ("__debug__":Str))=false:=by decide)
 (hcd:(x == ("__classdict__":Str))=false:=by decide):QM X M (.Name x pos) (qZ i):=⟨_,cF hN hv hd hcd,λC G ρ σ H pd q Q hm r h k=>by
 unfold qZ at h
 split at h
 ·rename_i d e
  obtain ⟨O,ro⟩:=r
  obtain ⟨v,h1,h2⟩:=ro.move e ho (hm.no hu)
  exact ⟨v,h1,k d _ v G H h (aB.refl _) h2⟩
 ·exact h.elim⟩
theorem dn:QMs X M [] lP:=⟨_,dl,λC G ρ σ H pd q Q hm r h k=>k [] ρ G H h (aB.refl _) r rfl⟩
theorem be (ha:QM X M e ma) (hr:QMs X M es mr) (hs:starEach (e :: es) X.env=(false,eval e X.env) :: starEach es X.env:=by rfl):QMs X M (e :: es) (eI ma mr):=by
 obtain ⟨t,p,s⟩:=ha; obtain ⟨t2,p2,s2⟩:=hr
 refine ⟨_,bC p p2 hs,λC G ρ σ H pd q Q hm r h k=>s C G ρ σ H pd _ _ hm r h λd ρ' v G' H' hq z r'=>?_⟩
 exact s2 C G' ρ' σ H' _ _ _ hm r' hq λT ρ2 G2 H2 hq2 z2 r2 hn=>k ((d,v) :: T) ρ2 G2 H2 hq2 (z.trans z2) (by simpa using r2) (by simp [hn])
theorem gz {x1} (h:QMs X M es mr) (hl:es.length<=1000:=by decide):QM X M (.Tuple es x1 pos) (mTup mr):=by
 obtain ⟨t,p,s⟩:=h
 refine ⟨_,nZ p,λC G ρ σ H pd q Q hm r h k=>s C G ρ σ H pd _ _ hm r h λT ρ' G' H' hq z r' hn=>⟨cw (by simp; omega),λa ha=>?_⟩⟩
 obtain ⟨O,r'⟩:=r'
 obtain ⟨O2,r2,s2⟩:=r'.gather r.np
 obtain ⟨r3,z3⟩:=r2.newT ha s2
 exact k _ ρ' _ _ _ hq (z.trans z3) r3
theorem nC (h:QMs X M es mr) (hl:es.length<=1000:=by decide):QM X M (.List es pos) (mLst mr):=by
 obtain ⟨t,p,s⟩:=h
 refine ⟨_,jL p,λC G ρ σ H pd q Q hm r h k=>s C G ρ σ H pd _ _ hm r h λT ρ' G' H' hq z r' hn=>⟨cw (by simp; omega),λa ha=>?_⟩⟩
 obtain ⟨O,r'⟩:=r'
 obtain ⟨O2,r2,s2⟩:=r'.gather r.np
 exact k _ ρ' _ _ _ hq z (r2.newS ha s2)
theorem bD (h:QM X M e ma) (hf:M.fr=true:=by rfl):QS X M (.Return (some e) pos) (mRet ma):=by
 obtain ⟨t,p,s⟩:=h
 refine ⟨_,nR p,λC G ρ σ H n D hm hn r h k=>s C G ρ σ H [] _ _ hm r h λd ρ' v G' H' hq z r'=>k.rt d ρ' σ v G' H' hq z (by unfold Ret; rw [if_pos hf]; exact r')⟩
theorem la {i:Nat} {x:Str} (hN:X.N.Nodup) (hi:X.N[i]? = some x) (hx:Loc X.env.scope x) (he:QM X M e ma) (ho:M.ow[i]? = some true:=by decide) (hu:M.mu[i]?≠some true:=by decide) (hs:swapsWith e (some (.Name x pos')) pos.line X.env=pure false:=by rfl) (hf:X.fn x=true\/X.env.scope.names.lookup x=some .local:=by first | exact .inl rfl | exact .inr rfl | assumption) :
 QS X M (.Assign [.Name x pos'] e pos) (lU i ma):=by
 obtain ⟨t,p,s⟩:=he
 refine ⟨_,j7 hN hi hx p hs hf,λC G ρ σ H n D hm hn r h k=>s C G ρ σ H [] _ _ hm r h λd ρ' v G' H' hq z r'=>?_⟩
 obtain ⟨O,r'⟩:=r'
 exact k.nx _ _ G' H' hq z (r'.setO ho (hm.no hu) (by rw [hn]; exact Nat.zero_le _))
end
def jk (g:MG) (mt:MT) (me:ME) (ρ0:DSt) (ds:List D) (K:List D->Prop):Prop:=∃ I:Nat->List D->Prop,I 0 [] /\
 (∀ i d es,ds[i]? = some d->I i es->g d ρ0 λρ2=>mt ρ2 λb ρ3=>if b=true then me ρ3 λx _=>I (i + 1) (es++[x]) else I (i + 1) es)/\∀ es,I ds.length es->K es
def dF (k:Nat) (js:List Nat) (ρ:DSt):DSt:=List.replicate k none++js.map λj=>(ρ[j]?).getD none
def qQ (mi:MA) (g:MG) (mt:MT) (me:ME) (k:Nat) (js:List Nat):ME:=λρ q=>mi ρ λds ρ1=>ds.length<=1000/\jk g mt me (dF k js ρ1) ds λes=>imms es=true/\q (.lst es) ρ1
def kc (mi:MA) (g:MG) (mt:MT) (me:ME) (k:Nat) (js:List Nat):ME:=λρ q=>mi ρ λds ρ1=>ds.length<=1000/\jk g mt me (dF k js ρ1) ds λes=>q (.lst es) ρ1
structure QIf (X:Cx) (ow:List Bool) (ifs:List Expr) (m:MT):Prop where
 ex:∃ t,PIf X ifs t/\STe ow t m
theorem cb {X:Cx} {ow:List Bool}:QIf X ow [] (nA true):=⟨_,qr,ke true⟩
theorem ce {X:Cx} {ow:List Bool} {c:Expr} {mt:MT} (h:QT X ow c mt):QIf X ow [c] mt:=by obtain ⟨t,p,s⟩:=h; exact ⟨_,pT p,s⟩
section
variable {C:Ctx} {ow:List Bool} {G:Hp} {ρ:DSt} {σ:St} {H:Hp} {pd:List (D×V)} {O:Own}
theorem RO.inner (h:RO C ow G ρ σ H pd O) (own:List Str) (js:List Nat) (hj:∀ j∈js,ow[j]?≠some true) :
 RO ⟨G,H,bN (λ_=>none) O,[],0⟩ [] G (dF own.length js ρ) (bA own js σ) H [] (bN (λ_=>none) O):=by
 have no:∀ a,bN (λ_=>none) O a=none:=λa=>by unfold bN; cases O a <;> rfl
 refine ⟨by simp [dF,bA],h.gh,λ_ _ e=>e,λ_ _ e=>.inl e,λa l e=>?_,λa l π e=>?_,λ_ _ e _ _=>e,h.ft,λ_ e=>e,λi v e=>by simp at e,?_,trivial,Nat.le_refl _⟩
 ·rw [no] at e; cases e
 ·exact absurd (e.symm.trans (no a)) (by simp)
 ·intro i d e
  unfold dF at e
  by_cases c:i<own.length
  ·rw [List.getElem?_append_left (by simpa using c),List.getElem?_replicate] at e
   split at e <;> cases e
  ·rw [List.getElem?_append_right (by simpa using c),List.getElem?_map] at e
   simp only [List.length_replicate] at e
   cases z:js[i - own.length]? with
   | none=>rw [z] at e; cases e
   | some j =>
    rw [z] at e
    have e':(ρ[j]?).getD none=some d:=Option.some.inj e
    have e2 : ρ[j]? = some (some d):=by
     cases w : ρ[j]? with
     | none=>rw [w] at e'; cases e'
     | some o=>rw [w] at e'; exact congrArg some e'
    obtain ⟨v,h1,h2⟩:=h.sl j d e2
    rw [if_neg (hj j (List.mem_of_getElem? z))] at h2
    refine ⟨v,?_,by simpa using h2⟩
    unfold bA
    rw [List.getElem?_append_right (by simpa using c),List.getElem?_map]
    simp only [List.length_map]
    rw [z,show (some j).map _=some ((σ[j]?).getD none) from rfl,h1]; rfl
end
theorem RO.back {C:Ctx} {ow:List Bool} {G G':Hp} {ρ0 ρ2:DSt} {σ0 σ2:St} {H H':Hp} {pd:List (D×V)} {O O':Own} (h0:RO C ow G ρ0 σ0 H pd O) (hn:∀ i:Nat,ow[i]?≠some true) (h:RO C ow G' ρ2 σ2 H' pd O') (z:aB G G'):RO C ow G' ρ0 σ0 H' pd O' :=
 ⟨h0.len,h.gh,h.g0,h.gn,h.og,h.cok,h.fr,h.ft,h.al,h0.mp,λi d e=>by
  obtain ⟨v,h1,h2⟩:=h0.sl i d e
  rw [if_neg (hn i)] at h2
  exact ⟨v,h1,by rw [if_neg (hn i)]; exact h2.mono z⟩,h.pn,h.np⟩
theorem gF {ow:List Bool} {J:It} {g:TG} {mg:MG} {tt:TT} {mt:MT} {te:TE} {me:ME} {C:Ctx} {G:Hp} {ρ:DSt} {σ:St} {H:Hp} {pd:List (D×V)} {ds:List D} {own:List Str} {js:List Nat} {K:List D->Prop} {Z:List V->Hp->Prop}
 (r:R C ow G ρ σ H pd) (hj:∀ j∈js,ow[j]?≠some true) (jo:jJ J G ds) (sg:SG ⟨[],[],false⟩ g mg) (st:STe [] tt mt) (se:SE [] te me) (hk:∀ x H k,g x (bA own js σ) H k->g x (bA own js σ) H λσ2 H2=>kept (bA own js σ) σ2/\k σ2 H2)
 (hl:ds.length<=1000) (h:jk mg mt me (dF own.length js ρ) ds K)
 (k:∀ es vs G' H',K es->aB G G'->R C ow G' ρ σ H' pd->Reps G' es vs->vs.length<=1000->Z vs H'):kN J g tt te (bA own js σ) H Z:=by
 obtain ⟨O,ro⟩:=r
 have ri:=ro.inner own js hj
 obtain ⟨I,i0,turn,fin⟩:=h
 have nt:∀ i:Nat,([]:List Bool)[i]?≠some true:=λi=>by simp
 let C1:Ctx:=⟨G,H,bN (λ_=>none) O,[],0⟩
 have fnone:bN (λ_=>none) O=λ_=>none:=by funext a; unfold bN; cases O a <;> rfl
 refine ⟨λi m acc H'=>m=ds.length - i/\i<=ds.length/\acc.length<=i/\∃ G' es,aB G G'/\R C1 [] G' (dF own.length js ρ) (bA own js σ) H' []/\Reps G' es acc/\I i es,⟨_,rfl,Nat.zero_le _,Nat.le_refl _,G,[],aB.refl _,⟨_,ri⟩,bj,i0⟩,?_⟩
 rintro i m acc H' ⟨rfl,hi,ha,G',es,z,r',pa,w⟩
 obtain ⟨sp,go⟩:=jo C1 [] G' _ _ H' [] i z r'
 by_cases hlt:i<ds.length
 ·obtain ⟨g1,g2⟩:=go ds[i] (List.getElem?_eq_getElem hlt)
  refine .inr ⟨g1,bY (by omega),λacc' H2=>acc'.length<=i + 1/\∃ G2 es2,aB G G2/\R C1 [] G2 (dF own.length js ρ) (bA own js σ) H2 []/\Reps G2 es2 acc'/\I (i + 1) es2,λacc' H2 h=>⟨ds.length - (i + 1),by omega,rfl,hlt,h.1,h.2⟩,λx H1 hy=>hk _ _ _ ?_⟩
  obtain ⟨G1,z1,r1,p1⟩:=g2 x H1 hy
  refine sg C1 G1 _ _ H1 [] ds[i] x _ _ (λi v e=>by simp [C1] at e) r1 p1 (turn i ds[i] es (List.getElem?_eq_getElem hlt) w) λρ2 σ2 h2 r2=>?_
  refine st C1 G1 ρ2 σ2 H1 [] _ _ r2 h2 λb ρ3 G3 H3 h3 z3 kp3 r3=>?_
  have bk:∀ {G4:Hp} {ρ4:DSt} {H4:Hp},aB G3 G4->R C1 [] G4 ρ4 σ2 H4 []->R C1 [] G4 (dF own.length js ρ) (bA own js σ) H4 []:=λz4 ⟨O4,r4⟩=>by
   obtain ⟨O1,r1'⟩:=r1
   exact ⟨_,r1'.back nt r4 (z3.trans z4)⟩
  cases b with
  | true =>
   rw [if_pos rfl] at h3 ⊢
   refine se C1 G3 ρ3 σ2 H3 [] _ _ r3 h3 λd ρ4 v G4 H4 h4 z4 kp4 r4 p4=>?_
   exact ⟨by simp; omega,G4,es++[d],z.trans (z1.trans (z3.trans z4)),bk z4 r4,cH (Reps.mono (z1.trans (z3.trans z4)) _ _ pa) (bc p4 bj),h4⟩
  | false =>
   rw [if_neg (by decide)] at h3 ⊢
   exact ⟨by omega,G3,es,z.trans (z1.trans z3),bk (aB.refl _) r3,Reps.mono (z1.trans z3) _ _ pa,h3⟩
 ·have e:i=ds.length:=by omega
  subst e
  refine .inl ⟨sp (Nat.le_refl _),cw (by omega),?_⟩
  obtain ⟨O2,r2⟩:=r'
  refine k es acc G' H' (fin es w) z ⟨jX (λ_=>none) (λ_=>none) O O2,?_⟩ pa (by omega)
  refine ro.out (vs:=[]) r2 (λ_ _ _ e=>by cases e) ro.len ro.np (λi d _ e=>e) (λi d _ e=>.inl ⟨rfl,e⟩) λO3 h1 h2 ts=>?_
  exact bG.keep ts (λa j π hj e=>h1 a _ _ e rfl) ro.pn
section
variable {X:Cx} {ow:List Bool} {elt tg iter:Expr} {ifs:List Expr} {pos:Pos} {mi:MA} {mg:MG} {mt:MT} {me:ME} {scope:Scope} {cl:List (Str×Addr)}
def qJ (n:Nat) (g:TG):Prop:=∀ (σ0:St),(∀ i,i<n->σ0[i]? = some none)->∀ σ x H k,kept σ0 σ->g x σ H k->g x σ H λσ2 H2=>kept σ0 σ2/\k σ2 H2
def sI (n:Nat) (g:TGs):Prop:=∀ (σ0:St),(∀ i,i<n->σ0[i]? = some none)->∀ σ x H k,kept σ0 σ->g x σ H k->g x σ H λσ2 H2=>kept σ0 σ2/\k σ2 H2
theorem fe:∀ {a b:St} {i:Nat} {v:V},kept a b->a[i]? = some none->kept a (b.set i (some v))
 | [],[],i,v,h,e=>by simp at e
 | none :: r,y :: r',0,v,h,e=>h
 | none :: r,y :: r',i + 1,v,h,e=>by simp only [List.set_cons_succ]; exact fe (a:=r) (b:=r') h (by simpa using e)
 | some w :: r,y :: r',0,v,h,e=>by simp at e
 | some w :: r,y :: r',i + 1,v,h,e=>by simp only [List.set_cons_succ]; exact ⟨h.1,fe (a:=r) (b:=r') h.2 (by simpa using e)⟩
 | [],_ :: _,_,_,h,_=>h.elim
 | none :: _,[],_,_,h,_=>h.elim
 | some _ :: _,[],_,_,h,_=>h.elim
theorem c9:∀ (a:St),kept a a
 | []=>trivial
 | none :: r=>c9 r
 | some v :: r=>⟨rfl,c9 r⟩
def MonG (g:TG):Prop:=∀ x σ H (k k':St->Hp->Prop),(∀ σ2 H2,k σ2 H2->k' σ2 H2)->g x σ H k->g x σ H k'
def MonGs (g:TGs):Prop:=∀ x σ H (k k':St->Hp->Prop),(∀ σ2 H2,k σ2 H2->k' σ2 H2)->g x σ H k->g x σ H k'
structure CG (n:Nat) (g:TG) (m:MG):Prop where
 sg:SG ⟨[],[],false⟩ g m
 kp:qJ n g
 mn:MonG g
structure CGs (n:Nat) (g:TGs) (m:MGs):Prop where
 sg:SGs ⟨[],[],false⟩ g m
 kp:sI n g
 mn:MonGs g
theorem aV {n:Nat} (i:Nat) (h:i<n:=by decide):CG n (gU i) (fQ i) :=
 ⟨λC G ρ σ H pd d v k K hm r p h kk=>by obtain ⟨O,r⟩:=r; exact kk _ _ h ⟨O,r.setS (by simp) (λv e=>by have:=hm i v e; simp at this) p⟩,
  λσ0 h0 σ x H k hk hg=>⟨fe hk (h0 i h),hg⟩,λx σ H k k' hk h=>hk _ _ h⟩
theorem pE {n:Nat}:CGs n gNil kQ :=
 ⟨λC G ρ σ H pd d v k K hm r p h kk=>by
  cases d with
  | nil=>rw [Reps] at p; exact ⟨p,kk _ _ h r⟩
  | cons _ _=>exact h.elim,λσ0 h0 σ x H k hk hg=>⟨hg.1,hk,hg.2⟩,λx σ H k k' hk h=>⟨h.1,hk _ _ h.2⟩⟩
theorem e7 {n:Nat} {g:TG} {gs:TGs} {mg:MG} {mgs:MGs} (h1:CG n g mg) (h2:CGs n gs mgs):CGs n (qV g gs) (gP mg mgs) :=
 ⟨λC G ρ σ H pd d v k K hm r p h kk=>by
  cases d with
  | nil=>exact h.elim
  | cons d ds =>
   rw [Reps] at p
   obtain ⟨v,vs,rfl,p1,p3⟩:=p
   exact ⟨v,vs,rfl,h1.sg C G ρ σ H pd d v _ _ hm r p1 h λρ' σ' h' r'=>h2.sg C G ρ' σ' H pd ds vs k K hm r' p3 h' kk⟩,
  λσ0 h0 σ x H k hk hg=>by
   obtain ⟨v,r,e,q⟩:=hg
   exact ⟨v,r,e,h1.mn _ _ _ _ _ (λσ2 H2 z=>h2.kp σ0 h0 σ2 r H2 k z.1 z.2) (h1.kp σ0 h0 σ v H _ hk q)⟩,
  λx σ H k k' hk h=>by
   obtain ⟨v,r,e,q⟩:=h
   exact ⟨v,r,e,h1.mn _ _ _ _ _ (λσ2 H2 z=>h2.mn _ _ _ _ _ hk z) q⟩⟩
theorem rD {n j:Nat} {K:PySem.W.Frag} {gs:TGs} {mgs:MGs} (h:CGs n gs mgs) (ht:g8 j mgs):CG n (gTup K j gs) (nq mgs) :=
 ⟨λC G ρ σ H pd d v k K hm r p h' kk=>by
  cases d with
  | tup ds =>
   obtain ⟨a,xs,rfl,h1,h2⟩:=dr p
   exact ⟨a,xs,rfl,SqT.of (r.gh _ _ h1),by rw [h2.length]; exact ht _ _ _ h',h.sg C G ρ σ H pd ds xs k K hm r h2 h' kk⟩
  | _=>exact h'.elim,
  λσ0 h0 σ x H k hk hg=>by obtain ⟨a,xs,e,e1,e2,q⟩:=hg; exact ⟨a,xs,e,e1,e2,h.kp σ0 h0 σ xs H k hk q⟩,
  λx σ H k k' hk hg=>by obtain ⟨a,xs,e,e1,e2,q⟩:=hg; exact ⟨a,xs,e,e1,e2,h.mn _ _ _ _ _ hk q⟩⟩
def mJ (ow:List Bool) (m:ME):TE:=λσ H Q=>∃ (C:Ctx) (G:Hp) (ρ:DSt) (pd:List (D×V)) (q:D->DSt->Prop),R C ow G ρ σ H pd/\m ρ q/\∀ d ρ' v G' H',q d ρ'->aB G G'->Kp ow ρ ρ'->R C ow G' ρ' σ H' pd->Rep G' d v->Q v H'
def nU (ow:List Bool) (m:MT):TT:=λσ H Q=>∃ (C:Ctx) (G:Hp) (ρ:DSt) (pd:List (D×V)) (q:Bool->DSt->Prop),R C ow G ρ σ H pd/\m ρ q/\∀ d ρ' G' H',q d ρ'->aB G G'->Kp ow ρ ρ'->R C ow G' ρ' σ H' pd->Q d H'
theorem iN {ow:List Bool} {m:ME}:SE ow (mJ ow m) m:=λC G ρ σ H pd q Q r h k=>⟨C,G,ρ,pd,q,r,h,k⟩
theorem kh {ow:List Bool} {m:MT}:STe ow (nU ow m) m:=λC G ρ σ H pd q Q r h k=>⟨C,G,ρ,pd,q,r,h,k⟩
theorem QE.can {X:Cx} {ow:List Bool} {e:Expr} {m:ME} (h:QE X ow e m):PE X e (mJ ow m):=by
 obtain ⟨t,p,s⟩:=h
 exact ⟨λpins s' σ H Q I ⟨C,G,ρ,pd,q,r,h,k⟩=>p.go pins s' σ H Q I (s C G ρ σ H pd q Q r h k)⟩
theorem QIf.can {X:Cx} {ow:List Bool} {e:List Expr} {m:MT} (h:QIf X ow e m):PIf X e (nU ow m):=by
 obtain ⟨t,p,s⟩:=h
 exact ⟨λpins s' σ H Q I ⟨C,G,ρ,pd,q,r,h,k⟩=>p.go pins s' σ H Q I (s C G ρ σ H pd q Q r h k)⟩
theorem fO {own:List Str} {js:List Nat} {σ:St}:∀ i,i<own.length->(bA own js σ)[i]? = some none:=λi h=>by
 unfold bA
 rw [List.getElem?_append_left (by simpa using h),List.getElem?_map,List.getElem?_eq_getElem h]; rfl
theorem pX {ow:List Bool} {wi:TI} {g:TG} {own:List Str} {js:List Nat} (si:SI ow wi mi) (cg:CG own.length g mg) (hj:∀ j∈js,ow[j]?≠some true):SF ow (jd wi g (nU [] mt) (mJ [] me) own js) (qQ mi mg mt me own.length js):=λC G ρ σ H pd q Q r h k =>
 si C G ρ σ H pd _ _ r h λds ρ' G' H' J hq z kp r' jo=>by
  refine gF r' hj jo cg.sg kh iN (λx H k hg=>cg.kp _ fO _ x H k (c9 _) hg) hq.1 hq.2 λes vs G2 H2 hK z2 r2 p2 hl p hp=>?_
  obtain ⟨O2,r2⟩:=r2
  exact k _ ρ' _ _ _ hK.2 (z.trans z2) kp (r2.newL hp hK.1 p2)
theorem kI {ow:List Bool} {wi:TI} {g:TG} {own:List Str} {js:List Nat} (si:SI ow wi mi) (cg:CG own.length g mg) (hj:∀ j∈js,ow[j]?≠some true):SE ow (jd wi g (nU [] mt) (mJ [] me) own js) (kc mi mg mt me own.length js):=λC G ρ σ H pd q Q r h k =>
 si C G ρ σ H pd _ _ r h λds ρ' G' H' J hq z kp r' jo=>by
  refine gF r' hj jo cg.sg kh iN (λx H k hg=>cg.kp _ fO _ x H k (c9 _) hg) hq.1 hq.2 λes vs G2 H2 hK z2 r2 p2 hl p hp=>?_
  obtain ⟨O2,r2⟩:=r2
  obtain ⟨r3,z3⟩:=r2.new hp (.lst vs)
  exact k _ ρ' _ _ _ hK (z.trans (z2.trans z3)) kp ⟨O2,r3⟩ (eX ay (Reps.mono z3 _ _ p2))
structure CInn (X:Cx) (tg:Expr) (ifs:List Expr) (elt:Expr) (g:TG) (mt:MT) (me:ME):Prop where
 pg:PG X tg g
 qi:QIf X [] ifs mt
 qe:QE X [] elt me
theorem pO {g:TG} (own:List Str) (js:List Nat) (c:CompOk X scope cl own js) (hc:X.calm=true) (hi:QI X ow tg iter mi) (cg:CG own.length g mg)
 (inner:∀ (C:Addr) (s₀:Shared) (H₀:Hp) (ex:List Addr),CInn (bp X scope cl (bL X own js) C s₀ H₀ ex) tg ifs elt g mt me) (hj:∀ j∈js,ow[j]?≠some true:=by decide)
 (hs:∀ x,foldedSetIterable iter X.env x=pure x:=by intro _; rfl):QF X ow (.ListComp elt [⟨tg,iter,ifs,0⟩] scope pos) (qQ mi mg mt me own.length js):=by
 obtain ⟨wi,pi,si⟩:=hi
 exact ⟨_,iy own js c hc pi (λC s₀ H₀ ex=>⟨(inner C s₀ H₀ ex).pg,(inner C s₀ H₀ ex).qi.can,(inner C s₀ H₀ ex).qe.can⟩) hs,pX si cg hj⟩
theorem br {g:TG} (own:List Str) (js:List Nat) (c:CompOk X scope cl own js) (hc:X.calm=true) (hi:QI X ow tg iter mi) (cg:CG own.length g mg)
 (inner:∀ (C:Addr) (s₀:Shared) (H₀:Hp) (ex:List Addr),CInn (bp X scope cl (bL X own js) C s₀ H₀ ex) tg ifs elt g mt me) (hj:∀ j∈js,ow[j]?≠some true:=by decide)
 (hs:∀ x,foldedSetIterable iter X.env x=pure x:=by intro _; rfl):QE X ow (.ListComp elt [⟨tg,iter,ifs,0⟩] scope pos) (kc mi mg mt me own.length js):=by
 obtain ⟨wi,pi,si⟩:=hi
 exact ⟨_,iy own js c hc pi (λC s₀ H₀ ex=>⟨(inner C s₀ H₀ ex).pg,(inner C s₀ H₀ ex).qi.can,(inner C s₀ H₀ ex).qe.can⟩) hs,kI si cg hj⟩
theorem eR {M:Md} {g:TG} {i:Nat} {y:Str} {spos py:Pos} (own:List Str) (js:List Nat) (c:CompOk X scope cl own js) (hc:X.calm=true) (hN:X.N.Nodup) (hy:X.N[i]? = some y) (hx:Loc X.env.scope y) (hi:QI X M.ow tg iter mi) (cg:CG own.length g mg)
 (inner:∀ (C:Addr) (s₀:Shared) (H₀:Hp) (ex:List Addr),CInn (bp X scope cl (bL X own js) C s₀ H₀ ex) tg ifs elt g mt me) (hj:∀ j∈js,M.ow[j]?≠some true:=by decide) (ho:M.ow[i]?≠some true:=by decide) (hu:M.mu[i]?≠some true:=by decide)
 (hsw:swapsWith (.ListComp elt [⟨tg,iter,ifs,0⟩] scope pos) (some (.Name y py)) spos.line X.env=pure true:=by rfl)
 (hs:∀ x,foldedSetIterable iter X.env x=pure x:=by intro _; rfl) (hf:X.fn y=true\/X.env.scope.names.lookup y=some .local:=by first | exact .inl rfl | exact .inr rfl | assumption) :
 QS X M (.Assign [.Name y py] (.ListComp elt [⟨tg,iter,ifs,0⟩] scope pos) spos) (lU i (kc mi mg mt me own.length js)):=by
 obtain ⟨wi,pi,si⟩:=hi
 exact ⟨_,jZ own js c hc hN hy hx pi (λC s₀ H₀ ex=>⟨(inner C s₀ H₀ ex).pg,(inner C s₀ H₀ ex).qi.can,(inner C s₀ H₀ ex).qe.can⟩) hsw hs hf,oD (kI si cg hj) ho hu⟩
end
theorem bM {g:MG} {mt:MT} {me:ME} {ρ0:DSt} {ds:List D} {K:List D->Prop} (f:D->Option D)
 (step:∀ (d:D),d∈ds->∀ k:Option D->Prop,k (f d)->g d ρ0 λρ2=>mt ρ2 λb ρ3=>if b=true then me ρ3 λx _=>k (some x) else k none) (h:K (ds.filterMap f)):jk g mt me ρ0 ds K:=by
 refine ⟨λi es=>es=(ds.take i).filterMap f,rfl,?_,λes e=>by rw [e,List.take_length]; exact h⟩
 rintro i d es hd rfl
 have:=step d (List.mem_of_getElem? hd) (λo=>match o with | some x=>(ds.take i).filterMap f++[x]=(ds.take (i + 1)).filterMap f | none=>(ds.take i).filterMap f=(ds.take (i + 1)).filterMap f) (by
  rw [List.take_add_one,hd]
  simp only [Option.toList,List.filterMap_append]
  cases e:f d with
  | none=>simp [e]
  | some x=>simp [e])
 exact this
theorem bB {g:MG} {me:ME} {ρ0:DSt} {ds:List D} {K:List D->Prop} (f:D->D)
 (step:∀ (d:D),d∈ds->∀ k:D->Prop,k (f d)->g d ρ0 λρ2=>me ρ2 λx _=>k x) (h:K (ds.map f)):jk g (nA true) me ρ0 ds K:=by
 refine ⟨λi es=>es=(ds.take i).map f,rfl,?_,λes e=>by rw [e,List.take_length]; exact h⟩
 rintro i d es hd rfl
 have:=step d (List.mem_of_getElem? hd) (λx=>(ds.take i).map f++[x]=(ds.take (i + 1)).map f) (by
  rw [List.take_add_one,hd]; simp)
 exact this
def kl (x:Int):List Int->List Int
 | []=>[x]
 | y :: r=>if x<=y then x :: y :: r else y :: kl x r
def bF:List Int->List Int
 | []=>[]
 | x :: r=>kl x (bF r)
theorem fK (x:Int):∀ l:List Int,(kl x l).Perm (x :: l)
 | []=>List.Perm.refl _
 | y :: r=>by
  unfold kl
  split
  ·exact List.Perm.refl _
  ·exact ((fK x r).cons y).trans (List.Perm.swap x y r)
theorem bt:∀ l:List Int,(bF l).Perm l
 | []=>List.Perm.refl _
 | x :: r=>(fK x (bF r)).trans ((bt r).cons x)
theorem fZ (x:Int):∀ {l:List Int},l.Pairwise (·<=·)->(kl x l).Pairwise (·<=·)
 | [],_=>by simp [kl]
 | y :: r,h=>by
  unfold kl
  rw [List.pairwise_cons] at h
  split
  ·rename_i c
   refine List.pairwise_cons.mpr ⟨λz hz=>?_,List.pairwise_cons.mpr h⟩
   rcases List.mem_cons.mp hz with rfl | hz
   ·exact c
   ·exact Int.le_trans c (h.1 z hz)
  ·rename_i c
   refine List.pairwise_cons.mpr ⟨λz hz=>?_,fZ x h.2⟩
   rcases List.mem_cons.mp ((fK x r).mem_iff.mp hz) with rfl | hz
   ·omega
   ·exact h.1 z hz
theorem bU:∀ l:List Int,(bF l).Pairwise (·<=·)
 | []=>List.Pairwise.nil
 | x :: r=>fZ x (bU r)
theorem gJ:∀ {a b:List Int},a.Perm b->a.Pairwise (·<=·)->b.Pairwise (·<=·)->a=b
 | [],b,p,_,_=>(List.Perm.nil_eq p)
 | x :: a,[],p,_,_=>by have:=p.length_eq; simp at this
 | x :: a,y :: b,p,ha,hb=>by
  have hx:x=y:=by
   rw [List.pairwise_cons] at ha hb
   have h1:x∈y :: b:=p.mem_iff.mp (.head _)
   have h2:y∈x :: a:=p.mem_iff.mpr (.head _)
   rcases List.mem_cons.mp h1 with rfl | h1
   ·rfl
   rcases List.mem_cons.mp h2 with h2 | h2
   ·exact h2.symm
   have:=ha.1 y h2
   have:=hb.1 x h1
   omega
  subst hx
  rw [gJ ((List.perm_cons x).mp p) (List.pairwise_cons.mp ha).2 (List.pairwise_cons.mp hb).2]
theorem gB {a b:List Int} (p:a.Perm b) (h:a.Pairwise (·<=·)):a=bF b:=gJ (p.trans (bt b).symm) h (bU b)
theorem il (l:List Int):(bF l).length=l.length:=(bt l).length_eq
section
variable {X:Cx}
def oH (K:PySem.W.Frag):List V->Hp->VK->Prop:=λxs H Q=>∃ (p:Addr) (ns:List Int),xs=[.ref p]/\SqL K H p (ns.map V.int)/\ns.length<64/\∀ l,H l=none->Q (.ref l) (upd H l (.lst ((bF ns).map V.int)))
theorem cy:cL X (.builtin "sorted") (oH X.K):=by
 intro pins s σ H xs us Q I r h
 obtain ⟨p,ns,rfl,hS,h64,q⟩:=h
 obtain ⟨u,rfl,ru⟩:=fV r
 cases ru
 obtain ⟨its,rv,pl,_⟩:=I.list hS
 have hI:IntsAre its ns:=gq rv
 have hlen:its.length=ns.length:=by have:=rv.length; simp at this; exact this.symm
 refine sorted_ints (l:=p) (vs:=its) (ns:=ns) (isList_of pl) hI (by omega) λout ns' a1 a2 a3=>?_
 obtain ⟨e,he⟩:=sortedAll_at s.heap its out
 have hl:ns'=bF ns:=gB a2 a3
 subst hl
 refine ⟨.ref (s.heap.objs.size + 1),_,I.laid (a:=s.heap.objs.size + 1) (o:=.lst ((bF ns).map V.int)) (t':=s.toks) (λ_ _ q=>sortedAll_old q) (Nat.le_succ _) ?_,rfl,q _ (I.hok.fresh (Nat.le_succ _))⟩
 refine ⟨Nat.le_of_lt (bY (by rw [List.length_map,il]; omega)),out.toList,e,cW a1,?_⟩
 simpa [seqObj] using he
where
 isList_of {h:Heap} {a:Addr} {its:List Value} (pl:PlainL h a its.toArray):h.IsList a its.toArray:=by
  first | exact pl.isList | exact pl.1 | exact pl
theorem eQ {pins:List (Addr×Obj)} {σ:St} {H:Hp} {s:Shared} {p:Addr} {xs:List V} (I:Inv X pins σ H s) (h:SqL X.K H p xs):∃ its:List Value,aH xs its/\s.heap.IsList p its.toArray:=by
 obtain ⟨its,rv,⟨o,n,h1,h2,h3,h4⟩,_⟩:=I.list h
 exact ⟨its,rv,o,h1,h2,n,h4⟩
theorem gx:∀ {bs:List Bool} {us:List Value},aH (bs.map V.bl) us->LSm.BoolsAre us bs
 | [],us,h=>by cases h; exact .nil
 | b :: bs,us,h=>by
  cases h with
  | cons r1 r2=>cases (show _=Value.bool b from r1); exact .cons b (gx r2)
theorem lI (hc:X.calm=true):cL X (.builtin "all") (λxs H Q=>∃ (p:Addr) (bs:List Bool),xs=[.ref p]/\SqL X.K H p (bs.map V.bl)/\Q (.bl (bs.all id)) H):=by
 intro pins s σ H xs us Q I r h
 obtain ⟨p,bs,rfl,hS,q⟩:=h
 obtain ⟨u,rfl,ru⟩:=fV r
 cases ru
 obtain ⟨its,rv,hl⟩:=eQ I hS
 have truths:=gx rv
 have below:p<s.heap.objs.size:=by obtain ⟨_,at_p,_⟩:=hl; exact Heap.lt_size at_p
 refine call_all_walk (wpAny_pyIter_list hl ⟨s.heap.objs.size,[s.heap.objs.size,p],[s.heap.objs.size],its.toArray.size,_,_,λj=>(bs[j]?).getD true,rfl,Walks.list (A:=X.A.in1) (I.ok.hd hc) _ p (Nat.ne_of_lt below) its.toArray,
  ⟨⟨_,Heap.get?_push_size _ rfl,rfl,rfl⟩,hl.push _⟩,λj u s₁ Q₁ E₁ at_j want=>?_,λhp tk₁ kept=>?_⟩)
 ·obtain ⟨b,is_b,rfl⟩:=truths.get j u (by simpa using at_j)
  simp only [is_b,Option.getD_some] at want
  exact wpAny_truthy_bool want
 ·have same:((List.range its.toArray.size).all λj=>(bs[j]?).getD true)=bs.all id:=by rw [List.size_toArray,truths.length]; exact LSm.range_all bs
  rw [same]
  exact ⟨.bl (bs.all id),H,I.kept (LSm.kept_iter kept),rfl,q⟩
theorem lN (hc:X.calm=true):cL X (.builtin "any") (λxs H Q=>∃ (p:Addr) (bs:List Bool),xs=[.ref p]/\SqL X.K H p (bs.map V.bl)/\Q (.bl (bs.any id)) H):=by
 intro pins s σ H xs us Q I r h
 obtain ⟨p,bs,rfl,hS,q⟩:=h
 obtain ⟨u,rfl,ru⟩:=fV r
 cases ru
 obtain ⟨its,rv,hl⟩:=eQ I hS
 have truths:=gx rv
 have below:p<s.heap.objs.size:=by obtain ⟨_,at_p,_⟩:=hl; exact Heap.lt_size at_p
 refine call_any_walk (wpAny_pyIter_list hl ⟨s.heap.objs.size,[s.heap.objs.size,p],[s.heap.objs.size],its.toArray.size,_,_,λj=>(bs[j]?).getD false,rfl,Walks.list (A:=X.A.in1) (I.ok.hd hc) _ p (Nat.ne_of_lt below) its.toArray,
  ⟨⟨_,Heap.get?_push_size _ rfl,rfl,rfl⟩,hl.push _⟩,λj u s₁ Q₁ E₁ at_j want=>?_,λhp tk₁ kept=>?_⟩)
 ·obtain ⟨b,is_b,rfl⟩:=truths.get j u (by simpa using at_j)
  simp only [is_b,Option.getD_some] at want
  exact wpAny_truthy_bool want
 ·have same:((List.range its.toArray.size).any λj=>(bs[j]?).getD false)=bs.any id:=by rw [List.size_toArray,truths.length]; exact LSm.range_any bs
  rw [same]
  exact ⟨.bl (bs.any id),H,I.kept (LSm.kept_iter kept),rfl,q⟩
end
theorem bT {G:Hp}:∀ {ns:List Int} {xs:List V},Reps G (ns.map D.int) xs->xs=ns.map V.int
 | [],xs,h=>by rw [List.map_nil,Reps] at h; subst h; rfl
 | n :: r,xs,h=>by rw [List.map_cons,Reps] at h; obtain ⟨v,vs,rfl,h1,h2⟩:=h; rw [ax h1,bT h2]; rfl
theorem d5 {G:Hp}:∀ {ns:List Bool} {xs:List V},Reps G (ns.map D.bl) xs->xs=ns.map V.bl
 | [],xs,h=>by rw [List.map_nil,Reps] at h; subst h; rfl
 | n :: r,xs,h=>by rw [List.map_cons,Reps] at h; obtain ⟨v,vs,rfl,h1,h2⟩:=h; rw [cC h1,d5 h2]; rfl
def o8:List D->(List D->Prop)->Prop:=λds q=>match ds with
 | [.lst xs]=>∃ ns:List Int,xs=ns.map D.int/\ns.length<64/\q ((bF ns).map D.int)
 | _=>False
theorem iT {K:PySem.W.Frag}:eU (oH K) o8:=λG H xs ds q Q s p hf k=>by
 unfold o8 at hf
 split at hf
 ·obtain ⟨v,rfl,p1⟩:=bi p
  obtain ⟨a,xs,rfl,h1,h2⟩:=aN p1
  obtain ⟨ns,rfl,hl,hq⟩:=hf
  rw [bT h2] at h1
  exact ⟨a,ns,rfl,SqL.of (s _ _ h1),hl,λl hl=>k _ _ l hq (cZ _) hl⟩
 ·exact hf.elim
def fAny:List D->(D->Prop)->Prop:=λds q=>match ds with
 | [.lst xs]=>∃ bs:List Bool,xs=bs.map D.bl/\q (.bl (bs.any id))
 | _=>False
def fAll:List D->(D->Prop)->Prop:=λds q=>match ds with
 | [.lst xs]=>∃ bs:List Bool,xs=bs.map D.bl/\q (.bl (bs.all id))
 | _=>False
theorem dAny {K:PySem.W.Frag}:fW (λxs H Q=>∃ (p:Addr) (bs:List Bool),xs=[.ref p]/\SqL K H p (bs.map V.bl)/\Q (.bl (bs.any id)) H) fAny:=λG H xs ds q Q s p hf k=>by
 unfold fAny at hf
 split at hf
 ·obtain ⟨v,rfl,p1⟩:=bi p
  obtain ⟨a,xs,rfl,h1,h2⟩:=aN p1
  obtain ⟨bs,rfl,hq⟩:=hf
  rw [d5 h2] at h1
  exact ⟨a,bs,rfl,SqL.of (s _ _ h1),k _ _ hq (bZ _)⟩
 ·exact hf.elim
theorem dAll {K:PySem.W.Frag}:fW (λxs H Q=>∃ (p:Addr) (bs:List Bool),xs=[.ref p]/\SqL K H p (bs.map V.bl)/\Q (.bl (bs.all id)) H) fAll:=λG H xs ds q Q s p hf k=>by
 unfold fAll at hf
 split at hf
 ·obtain ⟨v,rfl,p1⟩:=bi p
  obtain ⟨a,xs,rfl,h1,h2⟩:=aN p1
  obtain ⟨bs,rfl,hq⟩:=hf
  rw [d5 h2] at h1
  exact ⟨a,bs,rfl,SqL.of (s _ _ h1),k _ _ hq (bZ _)⟩
 ·exact hf.elim
section
variable {C:Ctx} {ow:List Bool} {G:Hp} {ρ:DSt} {σ:St} {H:Hp} {pd:List (D×V)} {O:Own}
end
section
variable {ow:List Bool} {t:TE} {m:ME}
end
section
variable {X:Cx} {M:Md} {a b c e:Expr} {ma mb mc:ME} {pos pos':Pos} {mr:MA} {es:List Expr}
theorem aI (ns:List Int):imms (ns.map D.int)=true:=by
 induction ns with
 | nil=>rfl
 | cons n r ih=>simp only [List.map,imms,imm,ih]; rfl
end
def mCut (m:MS):MS:=λn ρ=>∃ I:DSt->Prop,m { n with nx:=I } ρ/\∀ ρ',I ρ'->n.nx ρ'
theorem d6 {X:Cx} {M:Md} {st:Stmt} {m:MS} (h:QS X M st m):QS X M st (mCut m):=by
 obtain ⟨t,p,s⟩:=h
 refine ⟨_,p,λC G ρ σ H n D hm hn r h k=>?_⟩
 obtain ⟨I,h1,h2⟩:=h
 exact s C G ρ σ H _ D hm hn r h1 ⟨λρ' σ' G' H' hi=>k.nx ρ' σ' G' H' (h2 ρ' hi),k.bk,k.ct,k.rt⟩
mutual
theorem Sep.strip {G H:Hp} {O O':Own} {i i':Nat} {sfx:List Nat} :
 ∀ (d:D) (π:List Nat) (v:V),(∀ a τ,O a=some (i,(τ++π)++sfx)->O' a=some (i',τ++π))->Sep G H O i d (π++sfx) v->Sep G H O' i' d π v
 | .non,_,_,_,h=>by rw [Sep] at *; exact h
 | .bl b,_,_,_,h=>by rw [Sep] at *; exact h
 | .int n,_,_,_,h=>by rw [Sep] at *; exact h
 | .str x,_,_,_,h=>by rw [Sep] at *; exact h
 | .tup ds,π,v,hO,h=>by
  rw [Sep] at *
  obtain ⟨a,xs,h1,h2,h3⟩:=h
  exact ⟨a,xs,h1,h2,Seps.strip ds 0 π xs (λa τ=>hO a τ) h3⟩
 | .lst ds,π,v,hO,h=>by
  rw [Sep] at *
  obtain ⟨a,xs,h1,h2,h3,h4⟩:=h
  exact ⟨a,xs,h1,hO a [] h2,h3,Seps.strip ds 0 π xs (λa τ=>hO a τ) h4⟩
 | .dic ks ds,π,v,hO,h=>by
  rw [Sep] at *
  obtain ⟨a,xs,h1,h2,h3,h5,h4⟩:=h
  exact ⟨a,xs,h1,hO a [] h2,h3,h5,Seps.strip ds 0 π xs (λa τ=>hO a τ) h4⟩
 | .obj C ks ds,π,v,hO,h=>by
  rw [Sep] at *
  obtain ⟨a,dx,xs,h1,h2,h3,h5,h4⟩:=h
  exact ⟨a,dx,xs,h1,hO a [] h2,h3,h5,Seps.strip ds 0 π xs (λa τ=>hO a τ) h4⟩
 | .dct,_,_,_,h=>by rw [Sep] at h; exact h.elim
 | .scr _ _,_,_,_,h=>by rw [Sep] at h; exact h.elim
 | .ext _,_,_,_,h=>by rw [Sep] at h; exact h.elim
theorem Seps.strip {G H:Hp} {O O':Own} {i i':Nat} {sfx:List Nat} :
 ∀ (ds:List D) (k:Nat) (π:List Nat) (xs:List V),(∀ a τ,O a=some (i,(τ++π)++sfx)->O' a=some (i',τ++π))->Seps G H O i ds k (π++sfx) xs->Seps G H O' i' ds k π xs
 | [],_,_,_,_,h=>by rw [Seps] at *; exact h
 | d :: ds,k,π,xs,hO,h=>by
  rw [Seps] at *
  obtain ⟨v,vs,h1,h2,h3⟩:=h
  refine ⟨v,vs,h1,Sep.strip d (k :: π) v (λa τ e=>?_) h2,Seps.strip ds (k + 1) π vs hO h3⟩
  have e' : τ++k :: π=(τ++[k])++π:=by simp
  rw [e'] at e ⊢
  exact hO a (τ++[k]) e
end
section
variable {C:Ctx} {ow:List Bool} {G:Hp} {ρ:DSt} {σ:St} {H:Hp} {pd:List (D×V)} {O:Own}
theorem RO.split {ds:List D} {v:V} (h:RO C ow G ρ σ H ((.tup ds,v) :: pd) O) (hn:C.np<=pd.length):∃ a xs,v = .ref a/\G a=some (.tup xs)/\xs.length=ds.length/\R C ow G ρ σ H (ds.zip xs++pd):=by
 obtain ⟨s,pn⟩:=h.pn
 rw [Sep] at s
 obtain ⟨a,xs,rfl,hG,hs⟩:=s
 have hl:=hs.length
 refine ⟨a,xs,rfl,hG,hl,lab (λl π=>if l=2 * pd.length + 1 then (2 * (pd.length + (ds.length - 1 - π.getLastD 0)) + 1,π.dropLast) else (l,π)) O,h.len,h.gh,h.g0,h.gn,?_,h.cok,h.fr,h.ft,h.al,h.mp,?_,?_,by simp; omega⟩
 ·intro b m e
  obtain ⟨l,π,e1,rfl⟩:=gD e
  obtain ⟨q1,q2,q3⟩:=h.og b _ e1
  refine ⟨q1,q2,?_⟩
  split
  ·rename_i z
   rcases q3 with q3 | ⟨_,q3⟩
   ·exact .inl q3
   ·rcases h.cok _ _ _ q3 with ⟨k,_,q4,_⟩ | ⟨k,q4,q5⟩
    ·exact absurd (q4.symm.trans z) ca
    ·omega
  ·exact q3
 ·intro j e q
  obtain ⟨u,h1,h2⟩:=h.sl j e q
  refine ⟨u,h1,?_⟩
  split at h2
  ·rename_i c; rw [if_pos c]; exact h2.keep (λ_ _ z=>z) λa τ q=>⟨by rw [bI q,if_neg ca],rfl⟩
  ·rename_i c; rw [if_neg c]; exact h2
 ·have old:∀ (O':Own),(∀ b j π,j<pd.length->O b=some (2 * j + 1,π)->O' b=some (2 * j + 1,π))->bG G H O' pd:=λO' hO=>bG.keep (λ_ _ z=>z) (λb j π hj q=>⟨hO b j π hj q,rfl⟩) pn
  have key:∀ (ds0:List D) (k:Nat) (xs0:List V) (O':Own),k + ds0.length=ds.length->Seps G H O (2 * pd.length + 1) ds0 k [] xs0 ->
   (∀ b j π,j<pd.length->O b=some (2 * j + 1,π)->O' b=some (2 * j + 1,π))->(∀ b τ k',O b=some (2 * pd.length + 1,τ++[k'])->O' b=some (2 * (pd.length + (ds.length - 1 - k')) + 1,τ))->bG G H O' (ds0.zip xs0++pd):=by
   intro ds0
   induction ds0 with
   | nil=>intro k xs0 O' _ _ ho _; exact old O' ho
   | cons d0 r ih =>
    intro k xs0 O' hk hh ho hnw
    rw [Seps] at hh
    obtain ⟨w,ws,rfl,w1,w2⟩:=hh
    have hwl:=w2.length
    refine ⟨?_,ih (k + 1) ws O' (by simp at hk; omega) w2 ho hnw⟩
    have e:(List.zip r ws++pd).length=pd.length + (ds.length - 1 - k):=by simp at hk ⊢; omega
    show Sep G H O' (2 * (List.zip r ws++pd).length + 1) d0 [] w
    rw [e]
    exact Sep.strip (sfx:=[k]) d0 [] w (λb τ q=>by simpa using hnw b τ k (by simpa using q)) w1
  refine key ds 0 xs _ (by omega) hs (λb j π hj q=>by rw [bI q,if_neg (by omega)]) (λb τ k' q=>?_)
  rw [bI q,if_pos rfl]
  simp
end
def SGF (M:Md) (g:TGs) (m:MGs):Prop:=∀ (C:Ctx) (G:Hp) (ρ:DSt) (σ:St) (H:Hp) (T pd:List (D×V)) (k:DSt->Prop) (K:St->Hp->Prop),f8 C M.mu->C.np<=pd.length->R C M.ow G ρ σ H (T++pd)->m (T.map (·.1)) ρ k ->
 (∀ ρ' σ' G',k ρ'->aB G G'->R C M.ow G' ρ' σ' H pd->K σ' H)->g (T.map (·.2)) σ H K
structure QGF (X:Cx) (M:Md) (e:List Expr) (m:MGs):Prop where
 ex:∃ t,PGs X e t/\SGF M t m
section
variable {X:Cx} {M:Md} {a b c e:Expr} {ma mb mc:ME} {pos pos':Pos} {mr:MA} {es:List Expr} {mgs:MGs}
theorem kJ:QGF X M [] kQ:=⟨_,iC,λC G ρ σ H T pd k K hm hn r h kk=>by
 cases T with
 | nil=>exact ⟨rfl,kk _ _ G h (aB.refl _) r⟩
 | cons _ _=>exact h.elim⟩
theorem lh {i:Nat} {x:Str} (hN:X.N.Nodup) (hi:X.N[i]? = some x) (hx:Loc X.env.scope x) (h2:QGF X M es mgs) (ho:M.ow[i]? = some true:=by decide) (hu:M.mu[i]?≠some true:=by decide) (hf:X.fn x=true\/X.env.scope.names.lookup x=some .local:=by first | exact .inl rfl | exact .inr rfl | assumption)
 (hs:(assignEach (.Name x pos :: es) X.env).map (·.2)=assign (.Name x pos) X.env :: (assignEach es X.env).map (·.2):=by rfl):QGF X M (.Name x pos :: es) (gP (fQ i) mgs):=by
 obtain ⟨t2,p2,s2⟩:=h2
 refine ⟨_,cM (aO hN hi hx hf) p2 hs,λC G ρ σ H T pd k K hm hn r h kk=>?_⟩
 cases T with
 | nil=>exact h.elim
 | cons x T =>
  obtain ⟨O,r⟩:=r
  exact ⟨_,_,rfl,s2 C G _ _ H T pd k K hm hn (r.setO ho (hm.no hu) (by simp; omega)) h kk⟩
theorem oS {i:Nat} {x:Str} (hN:X.N.Nodup) (hi:X.N[i]? = some x) (hx:Loc X.env.scope x) (h2:QGF X M es mgs) (ho:M.ow[i]?≠some true:=by decide) (hu:M.mu[i]?≠some true:=by decide) (hf:X.fn x=true\/X.env.scope.names.lookup x=some .local:=by first | exact .inl rfl | exact .inr rfl | assumption)
 (hs:(assignEach (.Name x pos :: es) X.env).map (·.2)=assign (.Name x pos) X.env :: (assignEach es X.env).map (·.2):=by rfl):QGF X M (.Name x pos :: es) (gP (fQ i) mgs):=by
 obtain ⟨t2,p2,s2⟩:=h2
 refine ⟨_,cM (aO hN hi hx hf) p2 hs,λC G ρ σ H T pd k K hm hn r h kk=>?_⟩
 cases T with
 | nil=>exact h.elim
 | cons x T =>
  obtain ⟨O,r⟩:=r
  obtain ⟨G2,z2,⟨O2,r2⟩,p⟩:=r.share (by simp; omega)
  exact ⟨_,_,rfl,s2 C G2 _ _ H T pd k K hm hn ⟨O2,r2.setS ho (hm.no hu) p⟩ h λρ' σ' G' hk z r'=>kk ρ' σ' G' hk (z2.trans z) r'⟩
theorem kG {kk:Nat} {n:Nat} {tpos:Pos} (hc:X.calm=true) (he:QM X M e ma) (hg:QGF X M es mgs) (ht:g8 n mgs)
 (hn:(assignEach es X.env).length=n:=by rfl) (hst:(assignEach es X.env).findIdx? (·.1)=none:=by rfl)
 (hs:swapsWithSole [.Tuple es kk tpos] e pos.line X.env=pure false:=by rfl) (hw:swappedStores [.Tuple es kk tpos] e X.env=pure none:=by rfl)
 (h1:(assignEach [.Tuple es kk tpos] X.env).map (·.2)=[assign (.Tuple es kk tpos) X.env]:=by rfl):QS X M (.Assign [.Tuple es kk tpos] e pos) (mAsg ma (nq mgs)):=by
 obtain ⟨t,p,s⟩:=he; obtain ⟨t2,p2,s2⟩:=hg
 refine ⟨_,iA p (jV hc p2 hn hst) hs hw h1,λC G ρ σ H n D hm hn r h k=>s C G ρ σ H [] _ _ hm r h λd ρ' v G' H' hq z r'=>?_⟩
 cases d with
 | tup ds =>
  obtain ⟨O,r'⟩:=r'
  obtain ⟨a,xs,rfl,h1,h2,r2⟩:=r'.split (by rw [hn]; exact Nat.zero_le _)
  have hl:=ht _ _ _ hq
  have e1:(ds.zip xs).map (·.1)=ds:=List.map_fst_zip (by omega)
  have e2:(ds.zip xs).map (·.2)=xs:=List.map_snd_zip (by omega)
  refine ⟨a,xs,rfl,SqT.of (r2.gh _ _ h1),by omega,?_⟩
  have:=s2 C G' ρ' σ H' (ds.zip xs) [] n.nx D.nx hm (by rw [hn]; exact Nat.zero_le _) r2 (by rw [e1]; exact hq) λρ3 σ3 G3 h3 z3 r3=>k.nx ρ3 σ3 G3 H' h3 (z.trans z3) r3
  rw [e2] at this
  exact this
 | _=>exact hq.elim
end
def rGetL (K:PySem.W.Frag):V->V->Hp->VK->Prop:=λx y H Q=>∃ p xs i v,x = .ref p/\y = .int i/\SqL K H p xs/\0<=i/\atI xs i=some v/\Q v H
theorem nV {X:Cx}:PGet X (rGetL X.K):=λpins s σ H o i ov iv Q I ro ri h=>by
 obtain ⟨p,xs,k,v,rfl,rfl,hS,h0,ha,q⟩:=h
 cases ro
 obtain ⟨t,rfl⟩:=ri
 obtain ⟨its,r,pl,hz⟩:=I.list hS
 obtain ⟨j,h1,h2,h3,h4,h5⟩:=fc ha
 obtain ⟨w,ew,rw'⟩:=r.get h2
 have hn:=fT
 have hj:k.toNat=j:=by
  rw [seqIndex_of h0 h5] at h1
  exact Option.some.inj h1
 exact wpAny_getItem_list pl.isList h0 (by omega) (by rw [hj]; simpa using ew) ⟨v,H,I,rw',q⟩
section
variable {X:Cx} {M:Md} {a b c e:Expr} {ma mb mc:ME} {pos pos':Pos}
def mAugI (i:Nat) (mk m:ME):MS:=λn ρ=>match ρ[i]? with
 | some (some (.lst _))=>mk ρ λk ρ1=>match k with
  | .int j=>match ρ1[i]? with
   | some (some (.lst ds))=>0<=j/\match atI ds j with
    | some (.int x)=>m ρ1 λd ρ2=>match d with
     | .int y=>match ρ2[i]? with
      | some (some (.lst ds2))=>match ixN ds2.length j with
       | some p=>n.nx (ρ2.set i (some (.lst (ds2.set p (.int (x + y))))))
       | none=>False
      | _=>False
     | _=>False
    | _=>False
   | _=>False
  | _=>False
 | _=>False
end
def qM (g:MG) (mt:MT) (me:ME) (ρ0:DSt) (k0:Nat) (ds:List D) (d0:D) (K:List D->D->Prop):Prop:=∃ I:Nat->List D->D->Prop,I 0 [] d0 /\
 (∀ i x es d,ds[i]? = some x->I i es d->g x (ρ0.set k0 (some d)) λρ2=>mt ρ2 λb ρ3=>if b=true then me ρ3 λy ρ4=>(match ρ4[k0]? with | some (some d')=>I (i + 1) (es++[y]) d' | _=>False) else match ρ3[k0]? with | some (some d')=>I (i + 1) es d' | _=>False) /\
 ∀ es d,I ds.length es d->K es d
def o7 (mi:MA) (g:MG) (mt:MT) (me:ME) (k:Nat) (js:List Nat) (j0 k0:Nat):ME:=λρ q=>mi ρ λds ρ1=>ds.length<=1000/\match ρ1[j0]? with
 | some (some d0)=>qM g mt me (dF k js ρ1) k0 ds d0 λes d=>imms es=true/\q (.lst es) (ρ1.set j0 (some d))
 | _=>False
def owM (k0:Nat):List Bool:=List.replicate k0 false++[true]
theorem eu {k0 i:Nat}:(owM k0)[i]? = some true↔i=k0:=by
 unfold owM
 by_cases h:i<k0
 ·rw [List.getElem?_append_left (by simpa using h),List.getElem?_replicate,if_pos h]
  constructor
  ·intro z; cases z
  ·intro z; omega
 ·rw [List.getElem?_append_right (by simpa using h),List.length_replicate]
  cases e:i - k0 with
  | zero=>simp; omega
  | succ m=>simp; omega
def muM (k0:Nat) (v:V):List (Option V):=List.replicate k0 none++[some v]
theorem ln {k0 i:Nat} {v w:V} (h:(muM k0 v)[i]? = some (some w)):i=k0/\w=v:=by
 unfold muM at h
 by_cases c:i<k0
 ·rw [List.getElem?_append_left (by simpa using c),List.getElem?_replicate,if_pos c] at h; cases h
 ·rw [List.getElem?_append_right (by simpa using c),List.length_replicate] at h
  cases e:i - k0 with
  | zero=>rw [e] at h; simp at h; exact ⟨by omega,h.symm⟩
  | succ m=>rw [e] at h; simp at h
theorem tO (k0:Nat) (v:V):(muM k0 v)[k0]? = some (some v):=by unfold muM; rw [List.getElem?_append_right (by simp)]; simp
theorem pI {k:Nat} {js:List Nat} {ρ:DSt} {i:Nat} {d:D} (e:(dF k js ρ)[i]? = some (some d)):k<=i/\∃ j,js[i - k]? = some j/\ρ[j]? = some (some d):=by
 unfold dF at e
 by_cases c:i<k
 ·rw [List.getElem?_append_left (by simpa using c),List.getElem?_replicate] at e
  split at e <;> cases e
 ·rw [List.getElem?_append_right (by simpa using c),List.getElem?_map] at e
  simp only [List.length_replicate] at e
  refine ⟨by omega,?_⟩
  cases z:js[i - k]? with
  | none=>rw [z] at e; cases e
  | some j =>
   rw [z] at e
   have e':(ρ[j]?).getD none=some d:=Option.some.inj e
   refine ⟨j,rfl,?_⟩
   cases w : ρ[j]? with
   | none=>rw [w] at e'; cases e'
   | some o=>rw [w] at e'; exact congrArg some e'
theorem kO {own:List Str} {js:List Nat} {σ:St} {i j:Nat} {v:V} (hi:own.length<=i) (hj:js[i - own.length]? = some j) (hv : σ[j]? = some (some v)):(bA own js σ)[i]? = some (some v):=by
 unfold bA
 rw [List.getElem?_append_right (by simpa using hi),List.getElem?_map]
 simp only [List.length_map]
 rw [hj,show (some j).map _=some ((σ[j]?).getD none) from rfl,hv]; rfl
structure CGM (k0 n:Nat) (g:TG) (m:MG):Prop where
 sg:SG ⟨owM k0,owM k0,false⟩ g m
 kp:qJ n g
 mn:MonG g
theorem n_ {k0 n:Nat} (i:Nat) (h:i<n:=by decide) (hk:n<=k0:=by decide):CGM k0 n (gU i) (fQ i) :=
 ⟨λC G ρ σ H pd d v k K hm r p hh kk=>by
  have hn:(owM k0)[i]?≠some true:=λz=>by have:=eu.mp z; omega
  obtain ⟨O,r⟩:=r; exact kk _ _ hh ⟨O,r.setS hn (hm.no hn) p⟩,
  λσ0 h0 σ x H k hk hg=>⟨fe hk (h0 i h),hg⟩,λx σ H k k' hk h=>hk _ _ h⟩
theorem i6 {ow:List Bool} {J:It} {g:TG} {mg:MG} {tt:TT} {mt:MT} {te:TE} {me:ME} {C:Ctx} {G:Hp} {ρ:DSt} {σ:St} {H:Hp} {pd:List (D×V)} {ds:List D} {own:List Str} {js:List Nat} {j0 k0:Nat} {d0:D} {K:List D->D->Prop} {Z:List V->Hp->Prop}
 (r:R C ow G ρ σ H pd) (ho:ow[j0]? = some true) (hk0:own.length<=k0) (hjk:js[k0 - own.length]? = some j0) (hj:∀ (i j:Nat),js[i]? = some j->i≠k0 - own.length->ow[j]?≠some true) (he : ρ[j0]? = some (some d0)) (jo:jJ J G ds) (cg:CGM k0 own.length g mg) (st:STe (owM k0) tt mt) (se:SE (owM k0) te me)
 (hl:ds.length<=1000) (h:qM mg mt me (dF own.length js ρ) k0 ds d0 K)
 (k:∀ es d vs G' H',K es d->aB G G'->R C ow G' (ρ.set j0 (some d)) σ H' pd->Reps G' es vs->vs.length<=1000->Z vs H'):kN J g tt te (bA own js σ) H Z:=by
 obtain ⟨O,ro⟩:=r
 obtain ⟨v0,hv0,sv0⟩:=ro.sl j0 d0 he
 rw [if_pos ho] at sv0
 let fin:Nat->Option Nat:=λl=>if l=2 * j0 then some (2 * k0) else none
 let fbk:Nat->Option Nat:=λl=>if l=2 * k0 then some (2 * j0) else none
 let C1:Ctx:=⟨G,H,bN fin O,muM k0 v0,0⟩
 let ρ0:=dF own.length js ρ
 have s0k:(bA own js σ)[k0]? = some (some v0):=kO hk0 hjk hv0
 have r0l:k0<ρ0.length:=by
  have:k0 - own.length<js.length:=(List.getElem?_eq_some_iff.mp hjk).1
  show k0<(dF own.length js ρ).length
  unfold dF; simp; omega
 have fino:∀ l l',fin l=some l'->l=2 * j0/\l'=2 * k0:=λl l' e=>by
  change (if l=2 * j0 then _ else _)=_ at e
  split at e
  ·rename_i c; exact ⟨c,(Option.some.inj e).symm⟩
  ·cases e
 have finj:fin (2 * j0)=some (2 * k0):=by show (if _ then _ else _)=_; rw [if_pos rfl]
 -- the inner state,by the owned slot's value
 have inner:∀ {G':Hp} {H':Hp} {O':Own} {d:D},aB G G'->aB G' H'->(∀ a o,G' a=some o->G a=some o\/H a=none)->(∀ a l,O' a=some l->G' a=none/\(∃ xs:WrO,H' a=some xs.ho)/\Nw C1 a l.1) ->
  (∀ a o,H a=some o->bN fin O a=none->NT o->H' a=some o)->(∀ a ps q,H' a=some (.tbl ps q)->G' a=none)->(∀ a,H' a=none->H a=none)->Sep G' H' O' (2 * k0) d [] v0->RO C1 (owM k0) G' (ρ0.set k0 (some d)) (bA own js σ) H' [] O':=by
  intro G' H' O' d z gh gn og fr ft al sp
  refine ⟨by rw [List.length_set]; show (dF own.length js ρ).length=_; unfold dF bA; simp,gh,z,gn,og,?_,fr,ft,al,?_,?_,trivial,Nat.le_refl _⟩
  ·intro a l π e
   obtain ⟨l0,e1,e2⟩:=d9 e
   obtain ⟨_,rfl⟩:=fino _ _ e2
   exact .inl ⟨k0,v0,rfl,tO k0 v0⟩
  ·intro i w e
   obtain ⟨rfl,rfl⟩:=ln e
   exact s0k
  ·intro i d' e
   rcases dq e with ⟨rfl,e'⟩ | ⟨hne,e'⟩
   ·cases e'
    exact ⟨v0,s0k,by rw [if_pos (eu.mpr rfl)]; exact sp⟩
   ·obtain ⟨hi,j,h1,h2⟩:=pI e'
    obtain ⟨v,g1,g2⟩:=ro.sl j d' h2
    rw [if_neg (hj _ j h1 (by omega))] at g2
    exact ⟨v,kO hi h1 g1,by rw [if_neg (λzz=>hne (eu.mp zz))]; exact g2.mono z⟩
 have og1:∀ a l,bN fin O a=some l->G a=none/\(∃ xs:WrO,H a=some xs.ho)/\Nw C1 a l.1:=λa l e=>by
  obtain ⟨l',π⟩:=l
  obtain ⟨l0,e1,e2⟩:=d9 e
  obtain ⟨q1,q2,_⟩:=ro.og a _ e1
  exact ⟨q1,q2,.inr ⟨π,e⟩⟩
 have start:R C1 (owM k0) G (ρ0.set k0 (some d0)) (bA own js σ) H []:=⟨_,inner (aB.refl _) ro.gh (λ_ _ e=>.inl e) og1 (λ_ _ e _ _=>e) ro.ft (λ_ e=>e) (sv0.keep (λ_ _ z=>z) λa τ q=>⟨lm q finj,rfl⟩)⟩
 obtain ⟨I,i0,turn,fini⟩:=h
 have hmu:f8 C1 (owM k0):=λi v e=>by obtain ⟨rfl,_⟩:=ln e; exact eu.mpr rfl
 refine ⟨λi m acc H'=>m=ds.length - i/\i<=ds.length/\acc.length<=i/\∃ G' es d,aB G G'/\R C1 (owM k0) G' (ρ0.set k0 (some d)) (bA own js σ) H' []/\Reps G' es acc/\I i es d,⟨_,rfl,Nat.zero_le _,Nat.le_refl _,G,[],d0,aB.refl _,start,bj,i0⟩,?_⟩
 rintro i m acc H' ⟨rfl,hi,ha,G',es,d,z,r',pa,w⟩
 obtain ⟨sp,go⟩:=jo C1 (owM k0) G' _ _ H' [] i z r'
 by_cases hlt:i<ds.length
 ·obtain ⟨g1,g2⟩:=go ds[i] (List.getElem?_eq_getElem hlt)
  refine .inr ⟨g1,bY (by omega),λacc' H2=>acc'.length<=i + 1/\∃ G2 es2 d2,aB G G2/\R C1 (owM k0) G2 (ρ0.set k0 (some d2)) (bA own js σ) H2 []/\Reps G2 es2 acc'/\I (i + 1) es2 d2,λacc' H2 h=>⟨ds.length - (i + 1),by omega,rfl,hlt,h.1,h.2⟩,λx H1 hy=>?_⟩
  obtain ⟨G1,z1,r1,p1⟩:=g2 x H1 hy
  have step1:=cg.sg C1 G1 _ _ H1 [] ds[i] x _ (λσ2 H2=>∃ ρ2,(mt ρ2 λb ρ3=>if b=true then me ρ3 λy ρ4=>(match ρ4[k0]? with | some (some d')=>I (i + 1) (es++[y]) d' | _=>False) else match ρ3[k0]? with | some (some d')=>I (i + 1) es d' | _=>False)/\R C1 (owM k0) G1 ρ2 σ2 H2 []) hmu r1 p1 (turn i ds[i] es d (List.getElem?_eq_getElem hlt) w) (λρ2 σ2 h2 r2=>⟨ρ2,h2,r2⟩)
  refine cg.mn _ _ _ _ _ ?_ (cg.kp (bA own js σ) fO (bA own js σ) x H1 _ (c9 _) step1)
  rintro σ2 H2 ⟨hkp,ρ2,h2,r2⟩
  refine ⟨hkp,st C1 G1 ρ2 σ2 H2 [] _ _ r2 h2 λb ρ3 G3 H3 h3 z3 kp3 r3=>?_⟩
  have bk:∀ {G4:Hp} {ρ4:DSt} {H4:Hp} {d':D},ρ4[k0]? = some (some d')->R C1 (owM k0) G4 ρ4 σ2 H4 []->R C1 (owM k0) G4 (ρ0.set k0 (some d')) (bA own js σ) H4 []:=λe4 ⟨O4,r4⟩=>by
   obtain ⟨v,q1,q2⟩:=r4.sl k0 _ e4
   rw [if_pos (eu.mpr rfl)] at q2
   rw [dJ hkp k0 v0 s0k] at q1
   cases q1
   exact ⟨O4,inner r4.g0 r4.gh r4.gn r4.og r4.fr r4.ft r4.al q2⟩
  cases b with
  | true =>
   rw [if_pos rfl] at h3 ⊢
   refine se C1 G3 ρ3 σ2 H3 [] _ _ r3 h3 λy ρ4 v G4 H4 h4 z4 kp4 r4 p4=>?_
   split at h4
   ·rename_i d' e4
    exact ⟨by simp; omega,G4,es++[y],d',z.trans (z1.trans (z3.trans z4)),bk e4 r4,cH (Reps.mono (z1.trans (z3.trans z4)) _ _ pa) (bc p4 bj),h4⟩
   ·exact h4.elim
  | false =>
   rw [if_neg (by decide)] at h3 ⊢
   split at h3
   ·rename_i d' e4
    exact ⟨by omega,G3,es,d',z.trans (z1.trans z3),bk e4 r3,Reps.mono (z1.trans z3) _ _ pa,h3⟩
   ·exact h3.elim
 ·have e:i=ds.length:=by omega
  subst e
  refine .inl ⟨sp (Nat.le_refl _),cw (by omega),?_⟩
  obtain ⟨O2,r2⟩:=r'
  refine k es d acc G' H' (fini es d w) z ⟨jX fin fbk O O2,?_⟩ pa (by omega)
  refine ro.out (vs:=[]) r2 ?_ (by rw [List.length_set]; exact ro.len) ro.np ?_ ?_ λO3 h1 h2 ts=>?_
  ·intro l0 l' l e1 e2
   obtain ⟨rfl,rfl⟩:=fino _ _ e1
   change (if 2 * k0=2 * k0 then _ else _)=_ at e2
   rw [if_pos rfl] at e2
   exact (Option.some.inj e2).symm
  ·intro i d' c e
   rcases dq e with ⟨rfl,_⟩ | ⟨_,e'⟩
   ·exact absurd ho c
   ·exact e'
  ·intro i d' c e
   rcases dq e with ⟨rfl,e'⟩ | ⟨hne,e'⟩
   ·cases e'
    exact .inr ⟨k0,v0,by show (if _ then _ else _)=_; rw [if_pos rfl],eu.mpr rfl,by rw [List.getElem?_set_self r0l],hv0,s0k⟩
   ·exact .inl ⟨by show (if _ then _ else _)=_; rw [if_neg (by omega)],e'⟩
  ·exact bG.keep ts (λa j π hj e=>h1 a _ _ e (by show (if _ then _ else _)=_; rw [if_neg (by omega)])) ro.pn
section
variable {X:Cx} {ow:List Bool} {elt tg iter:Expr} {ifs:List Expr} {pos:Pos} {mi:MA} {mg:MG} {mt:MT} {me:ME} {scope:Scope} {cl:List (Str×Addr)}
theorem nu {wi:TI} {g:TG} {own:List Str} {js:List Nat} {j0 k0:Nat} (si:SI ow wi mi) (cg:CGM k0 own.length g mg) (ho:ow[j0]? = some true) (hk0:own.length<=k0) (hjk:js[k0 - own.length]? = some j0) (hj:∀ (i j:Nat),js[i]? = some j->i≠k0 - own.length->ow[j]?≠some true) :
 SF ow (jd wi g (nU (owM k0) mt) (mJ (owM k0) me) own js) (o7 mi mg mt me own.length js j0 k0):=λC G ρ σ H pd q Q r h k =>
 si C G ρ σ H pd _ _ r h λds ρ' G' H' J hq z kp r' jo=>by
  obtain ⟨hl,hq⟩:=hq
  split at hq
  ·rename_i d0 e0
   refine i6 r' ho hk0 hjk hj e0 jo cg kh iN hl hq λes d vs G2 H2 hK z2 r2 p2 hl p hp=>?_
   obtain ⟨O2,r2⟩:=r2
   exact k _ _ _ _ _ hK.2 (z.trans z2) (kp.trans λj hj=>List.getElem?_set_ne (λ(zz:j0=j)=>hj (zz ▸ ho))) (r2.newL hp hK.1 p2)
  ·exact hq.elim
structure CInnM (X:Cx) (k0:Nat) (tg:Expr) (ifs:List Expr) (elt:Expr) (g:TG) (mt:MT) (me:ME):Prop where
 pg:PG X tg g
 qi:QIf X (owM k0) ifs mt
 qe:QE X (owM k0) elt me
theorem pe {g:TG} (own:List Str) (js:List Nat) (j0 k0:Nat) (c:CompOk X scope cl own js) (hc:X.calm=true) (hi:QI X ow tg iter mi) (cg:CGM k0 own.length g mg)
 (inner:∀ (C:Addr) (s₀:Shared) (H₀:Hp) (ex:List Addr),CInnM (bp X scope cl (bL X own js) C s₀ H₀ ex) k0 tg ifs elt g mt me) (ho:ow[j0]? = some true:=by decide) (hk0:own.length<=k0:=by decide) (hjk:js[k0 - own.length]? = some j0:=by rfl)
 (hj:(js.mapIdx λi j=>decide (i=k0 - own.length) || !decide (ow[j]? = some true)).all id=true:=by decide)
 (hs:∀ x,foldedSetIterable iter X.env x=pure x:=by intro _; rfl):QF X ow (.ListComp elt [⟨tg,iter,ifs,0⟩] scope pos) (o7 mi mg mt me own.length js j0 k0):=by
 obtain ⟨wi,pi,si⟩:=hi
 have hj':∀ (i j:Nat),js[i]? = some j->i≠k0 - own.length->ow[j]?≠some true:=λi j e hne z=>by
  rw [List.all_eq_true] at hj
  have:=hj (decide (i=k0 - own.length) || !decide (ow[j]? = some true)) (List.mem_of_getElem? (i:=i) (by rw [List.getElem?_mapIdx,e]; rfl))
  simp [hne,z] at this
 exact ⟨_,iy own js c hc pi (λC s₀ H₀ ex=>⟨(inner C s₀ H₀ ex).pg,(inner C s₀ H₀ ex).qi.can,(inner C s₀ H₀ ex).qe.can⟩) hs,nu si cg ho hk0 hjk hj'⟩
end
def tRev (K:PySem.W.Frag) (te:TE):TE:=λσ H Q=>te σ H λx H1=>∃ a xs,x = .ref a/\SqL K H1 a xs/\∀ p,H1 p=none->Q (.ref p) (upd H1 p (.lst xs.reverse))
section
variable {X:Cx} {M:Md} {a b c e:Expr} {ma mb mc:ME} {pos pos' p1 p2 p3:Pos} {te:TE} {j1:Nat} {ow:List Bool}
theorem sB (he:PE X e te):PE X (.Subscript e (.Slice none none (some (.UnaryOp .USub (.Constant (.int 1) j1 p1) p2)) p3) pos) (tRev X.K te):=by
 refine ⟨?_⟩; intro pins s σ H Q I h
 refine Subscript_ (thn (he pins s σ H _ I h) λv s1 ⟨x,H1,I1,r1,q1⟩=>?_)
 obtain ⟨l,xs,rfl,hx,q⟩:=q1
 cases r1
 refine wpAny_Slice ?_
 rw [evalPart_none]
 refine wpAny_pure (wpAny_pure ?_)
 rw [evalPart_some]
 have step:=(qG (X:=X) (pos:=p2) mM (iE (X:=X) (i:=1) (j:=j1) (pos:=p1))).go pins s1 σ H1 (λv H'=>v = .int (-1)/\H'=H1) I1 ⟨1,rfl,rfl,rfl⟩
 refine thn step λvs s3 ⟨y,H3,I3,ry,ey,eH⟩=>?_
 subst ey; subst eH
 obtain ⟨t,rfl⟩:=ry
 have I4:Inv X pins σ H3 { s3 with heap:=s3.heap.push { cls:=.type "slice",data:=.fields #[.none,.none,.int (-1) t] } }:=I3.kept (t':=s3.toks) λb ob z=>Heap.get?_push_of_some _ z
 obtain ⟨its,r,ht,hz⟩:=I4.list hx
 have hlen:=r.length
 show wpAny (model X.prog X.w) X.A (subscriptTail e (.Slice none none (some (.UnaryOp .USub (.Constant (.int 1) j1 p1) p2)) p3) (.ref l) (.ref s3.heap.objs.size)) (EP X pins σ Q) X.xe { s3 with heap:=s3.heap.push { cls:=.type "slice",data:=.fields #[.none,.none,.int (-1) t] } }
 refine tail_any (ops:=[.ref l,.ref s3.heap.objs.size]) ht.isList.typeIs slot_list_getitem.lookup ?_ (by with_unfolding_all rfl)
 refine wpAny_getItem_list_slice ht.isList (Heap.IsSliceOf.new ..) .none .none (.int (-1) t) (by simp) ?_ (by rw [List.size_toArray] <;> omega)
 rw [PySem.W.krv_pick]
 refine ⟨.ref _,_,I4.laid (t':=s3.toks) (o:=.lst xs.reverse) (λb ob z=>Heap.get?_push_of_some _ z) (Nat.le_refl _) ?_,rfl,q _ (I4.hok.fresh (Nat.le_refl _))⟩
 exact ⟨by rw [List.length_reverse]; exact hz,its.reverse,0,r.reverse,Heap.get?_push_size _ rfl⟩
theorem eV {G:Hp}:∀ {ds:List D} {xs:List V},Reps G ds xs->Reps G ds.reverse xs.reverse
 | [],xs,h=>by rw [Reps] at h; subst h; exact bj
 | d :: ds,xs,h=>by
  rw [Reps] at h
  obtain ⟨v,vs,rfl,h1,h2⟩:=h
  rw [List.reverse_cons,List.reverse_cons]
  exact cH (eV h2) (bc h1 bj)
def mRev (m:ME):ME:=λρ q=>m ρ λd ρ'=>match d with
 | .lst ds=>imms ds=true/\q (.lst ds.reverse) ρ'
 | _=>False
theorem gy:∀ {a b:List D},imms a=true->imms b=true->imms (a++b)=true
 | [],b,_,h=>h
 | d :: a,b,h,h2=>by rw [imms,Bool.and_eq_true] at h; rw [List.cons_append,imms,h.1,gy h.2 h2]; rfl
theorem gI:∀ {a:List D},imms a=true->imms a.reverse=true
 | [],_=>rfl
 | d :: a,h=>by rw [imms,Bool.and_eq_true] at h; rw [List.reverse_cons]; exact gy (gI h.2) (by rw [imms,h.1]; rfl)
theorem rQ (h:QE X ow e ma):QF X ow (.Subscript e (.Slice none none (some (.UnaryOp .USub (.Constant (.int 1) j1 p1) p2)) p3) pos) (mRev ma):=by
 obtain ⟨t,p,s⟩:=h
 refine ⟨_,sB p,λC G ρ σ H pd q Q r hm k=>s C G ρ σ H pd _ _ r hm λd ρ' v G' H' hq z kp r' p=>?_⟩
 cases d with
 | lst ds =>
  obtain ⟨l,xs,rfl,h1,h2⟩:=aN p
  refine ⟨l,xs,rfl,SqL.of (r'.gh _ _ h1),λb hb=>?_⟩
  obtain ⟨O,r'⟩:=r'
  exact k _ ρ' _ _ _ hq.2 z kp (r'.newL hb (gI hq.1) (eV h2))
 | _=>exact hq.elim
end
def isW:D->Bool
 | .int _=>true
 | _=>false
def btw (lo hi:Int):D->Bool
 | .int i=>decide (lo<=i)&&decide (i<=hi)
 | _=>false
structure Tree (ps rs:List Int):Prop where
 len:ps.length=rs.length
 lo : 1<=ps.length
 hi:ps.length<=23
 par:∀ (i:Nat) (x:Int),ps[i]? = some x->0<=x/\x<=i
 room:∀ (i:Nat) (x:Int),rs[i]? = some x->1<=x/\x<=1000000
def pH:SpD:=λds q=>∃ d,ds=[d]/\d.isS=false/\q (.bl (isW d)) []
def lW:SpD:=λds q=>∃ d lo hi,ds=[d,.int lo,.int hi]/\d.isS=false/\q (.bl (btw lo hi d)) []
def r6:SpD:=λds q=>∃ ps rs,ds=[aL ps rs]/\Tree ps rs/\q (.bl true) []
def sw:SpD:=λds q=>∃ ps rs,ds=[aL ps rs]/\Tree ps rs/\q .non []
def nb (K:PySem.W.Frag) (φ:Addr->Prop) (ns:List Int):Prop:=∀ a H,φ a->SqL K H a (ns.map V.int)
def tD (K:PySem.W.Frag):SpD:=λds q=>∃ φ ns k,ds=[.scr φ ns,.int k]/\nb K φ ns/\0<=k/\k<=1000/\∀ c m,0<=c->q (ae [c,m]) []
def rT:SpD:=λds q=>∃ c m many,ds=[ae [c,m],.int many]/\0<=c/\0<many/\Sm many/\∀ r c' m',0<=r->r<many->0<=c'->q (.int r) [some (ae [c',m'])]
def oX (K:PySem.W.Frag):SpD:=λds q=>∃ φ ns,ds=[.scr φ ns]/\nb K φ ns/\ns.length<=63/\q (.bl true) []
theorem bu {ns:List Int} {k:Int} (h0 : 0<=k) (h1:k<ns.length):atI (ns.map D.int) k=some (.int (ns.getD k.toNat 0)):=by
 have ek:k=((k.toNat:Nat):Int):=by omega
 have hl:k.toNat<ns.length:=by omega
 have:atI (ns.map D.int) ((k.toNat:Nat):Int)=some (.int (ns.getD k.toNat 0)):=cP (by rw [List.getElem?_map,List.getD_eq_getElem?_getD,List.getElem?_eq_getElem hl]; rfl)
 rw [<- ek] at this
 exact this
theorem tU {ns:List Int} {k:Int} (h0 : 0<=k) (h1:k<ns.length):atI ns k=some (ns.getD k.toNat 0):=by
 have ek:k=((k.toNat:Nat):Int):=by omega
 have hl:k.toNat<ns.length:=by omega
 have:atI ns ((k.toNat:Nat):Int)=some (ns.getD k.toNat 0):=cP (by rw [List.getD_eq_getElem?_getD,List.getElem?_eq_getElem hl]; rfl)
 rw [<- ek] at this
 exact this
theorem ba {ds:List D} {k:Int} {d:D} {q:D->Prop} (h:atI ds k=some d) (hq:q d):atD ds k q:=by unfold atD; rw [h]; exact hq
theorem di {ns:List Int} {i:Nat} {d:D} (h:(ns.map D.int)[i]? = some d):∃ z,ns[i]? = some z/\d = .int z:=by
 rw [List.getElem?_map] at h
 cases e:ns[i]? with
 | none=>rw [e] at h; cases h
 | some z=>rw [e] at h; exact ⟨z,rfl,(Option.some.inj h).symm⟩
theorem eD {lo hi z:Int} (h1:lo<=z) (h2:z<=hi):btw lo hi (.int z)=true:=by show (decide (lo<=z)&&decide (z<=hi))=true; rw [decide_eq_true h1,decide_eq_true h2]; rfl
abbrev cU (ps:List Int) (k:Int):Int:=ps.getD (k - 1).toNat 0
theorem Tree.up {ps rs:List Int} (hT:Tree ps rs) {k:Int} (h0 : 0<k) (h1:k<=ps.length) : 0<=cU ps k/\cU ps k<k:=by
 have hl:(k - 1).toNat<ps.length:=by omega
 have e:ps[(k - 1).toNat]? = some (cU ps k):=by unfold cU; rw [List.getD_eq_getElem?_getD,List.getElem?_eq_getElem hl]; rfl
 have:=hT.par _ _ e
 omega
inductive Up (ps:List Int):Int->List Int->Prop
 | zero:Up ps 0 [0]
 | step {k:Int} {u:List Int} (h : 0<k):Up ps (cU ps k) u->Up ps k (k :: u)
theorem Up.det {ps:List Int} {k:Int} {u:List Int} (h:Up ps k u):∀ {v:List Int},Up ps k v->u=v:=by
 induction h with
 | zero=>intro v h; cases h with | zero=>rfl | step h0 _=>omega
 | step h0 _ ih=>intro v h; cases h with | zero=>omega | step _ h=>rw [ih h]
theorem Up.all {ps rs:List Int} (hT:Tree ps rs):∀ (n:Nat) (k:Int),k.toNat=n->0<=k->k<=ps.length->∃ u,Up ps k u
 | n,k,hn,h0,h1=>by
  by_cases hk:k=0
  ·subst hk; exact ⟨_,.zero⟩
  ·have hp:=hT.up (k:=k) (by omega) h1
   obtain ⟨u,hu⟩:=Up.all hT (cU ps k).toNat (cU ps k) rfl hp.1 (by omega)
   exact ⟨_,.step (by omega) hu⟩
termination_by n k hn=>n
decreasing_by omega
theorem Up.le {ps rs:List Int} (hT:Tree ps rs) {k:Int} {u:List Int} (h:Up ps k u):k<=ps.length->∀ x∈u,0<=x/\x<=k:=by
 induction h with
 | zero=>intro _ x hx; simp at hx; omega
 | step h0 _ ih =>
  intro h1 x hx
  have hp:=hT.up h0 h1
  rcases List.mem_cons.mp hx with rfl | hx
  ·omega
  ·have:=ih (by omega) x hx; omega
theorem Up.dec {ps rs:List Int} (hT:Tree ps rs) {k:Int} {u:List Int} (h:Up ps k u):k<=ps.length->u.Pairwise (· > ·):=by
 induction h with
 | zero=>intro _; simp
 | step h0 hu ih =>
  intro h1
  have hp:=hT.up h0 h1
  refine List.pairwise_cons.mpr ⟨λx hx=>?_,ih (by omega)⟩
  have:=hu.le hT (by omega) x hx
  omega
theorem Up.len {ps rs:List Int} (hT:Tree ps rs) {k:Int} {u:List Int} (h:Up ps k u):k<=ps.length->(u.length:Int)<=k + 1:=by
 induction h with
 | zero=>intro _; simp
 | step h0 hu ih=>intro h1; have hp:=hT.up h0 h1; have:=ih (by omega); simp; omega
theorem Up.head {ps:List Int} {k:Int} {u:List Int} (h:Up ps k u):k∈u:=by cases h <;> simp
inductive Climb (ps:List Int):Int->Int->List Int->Int->Prop
 | same (a:Int):Climb ps a a [] a
 | left {a b:Int} {w:List Int} {m:Int} (h:b<a):Climb ps b (cU ps a) w m->Climb ps a b (a :: w) m
 | right {a b:Int} {w:List Int} {m:Int} (h:a<b):Climb ps a (cU ps b) w m->Climb ps a b (b :: w) m
theorem Climb.meet {ps rs:List Int} (hT:Tree ps rs) {a b m:Int} {w:List Int} (h:Climb ps a b w m) : 0<=a->0<=b->a<=ps.length->b<=ps.length->∀ {ua ub:List Int},Up ps a ua->Up ps b ub->m∈ua/\m∈ub/\∀ x∈ua,x∈ub->x<=m:=by
 induction h with
 | same a=>intro a0 _ a1 _ ua ub ha hb; have:=ha.det hb; subst this; exact ⟨ha.head,ha.head,λx hx _=>(ha.le hT a1 x hx).2⟩
 | left hlt hc ih =>
  intro a0 b0 a1 b1 ua ub ha hb
  cases ha with
  | zero=>omega
  | step h0 hu =>
   have hp:=hT.up h0 a1
   obtain ⟨m1,m2,m3⟩:=ih b0 hp.1 b1 (by omega) hb hu
   refine ⟨List.mem_cons_of_mem _ m2,m1,λx hx hxb=>?_⟩
   rcases List.mem_cons.mp hx with rfl | hx
   ·have:=(hb.le hT b1 _ hxb).2; omega
   ·exact m3 x hxb hx
 | right hlt hc ih =>
  intro a0 b0 a1 b1 ua ub ha hb
  cases hb with
  | zero=>omega
  | step h0 hu =>
   have hp:=hT.up h0 b1
   obtain ⟨m1,m2,m3⟩:=ih a0 hp.1 a1 (by omega) ha hu
   refine ⟨m1,List.mem_cons_of_mem _ m2,λx hx hxb=>?_⟩
   rcases List.mem_cons.mp hxb with rfl | hxb
   ·have:=(ha.le hT a1 _ hx).2; omega
   ·exact m3 x hx hxb
theorem Climb.low {ps rs:List Int} (hT:Tree ps rs) {a b m:Int} {w:List Int} (h:Climb ps a b w m) : 0<=a->0<=b->a<=ps.length->b<=ps.length->0<=m/\m<=a/\m<=b:=by
 induction h with
 | same a=>intro a0 _ _ _; omega
 | left hlt hc ih=>intro a0 b0 a1 b1; have hp:=hT.up (show 0<_ by omega) a1; have:=ih b0 hp.1 b1 (by omega); omega
 | right hlt hc ih=>intro a0 b0 a1 b1; have hp:=hT.up (show 0<_ by omega) b1; have:=ih a0 hp.1 a1 (by omega); omega
theorem Climb.perm {ps rs:List Int} (hT:Tree ps rs) {a b m:Int} {w:List Int} (h:Climb ps a b w m) : 0<=a->0<=b->a<=ps.length->b<=ps.length->∀ {ua ub um:List Int},Up ps a ua->Up ps b ub->Up ps m um->w.Perm ((ua++ub).filter λx=>!um.contains x):=by
 induction h with
 | same a =>
  intro a0 _ a1 _ ua ub um ha hb hm
  have:=ha.det hb; subst this
  have:=ha.det hm; subst this
  have:(ua++ua).filter (λx=>!ua.contains x)=[]:=by
   rw [List.filter_eq_nil_iff]; intro x hx; simp at hx; simp [hx]
  rw [this]
 | @left a b w m hlt hc ih =>
  intro a0 b0 a1 b1 ua ub um ha hb hm
  cases ha with
  | zero=>omega
  | step h0 hu =>
   have hp:=hT.up h0 a1
   have hl:=hc.low hT b0 hp.1 b1 (by omega)
   have ih':=ih b0 hp.1 b1 (by omega) hb hu hm
   have hn : ¬ um.contains a=true:=λz=>by
    have:=(hm.le hT (by omega) _ (List.contains_iff_mem.mp z)).2
    omega
   rw [List.cons_append,List.filter_cons_of_pos (by simpa using hn)]
   refine List.Perm.cons _ (ih'.trans ?_)
   exact List.Perm.filter _ List.perm_append_comm
 | @right a b w m hlt hc ih =>
  intro a0 b0 a1 b1 ua ub um ha hb hm
  cases hb with
  | zero=>omega
  | step h0 hu =>
   have hp:=hT.up h0 b1
   have hl:=hc.low hT a0 hp.1 a1 (by omega)
   have ih':=ih a0 hp.1 a1 (by omega) ha hu hm
   have hn : ¬ um.contains b=true:=λz=>by
    have:=(hm.le hT (by omega) _ (List.contains_iff_mem.mp z)).2
    omega
   refine (List.Perm.cons _ ih').trans ?_
   refine List.Perm.trans ?_ (List.Perm.filter _ (List.perm_middle (l₁:=_)).symm)
   rw [List.filter_cons_of_pos (by simpa using hn)]
theorem Climb.mem {ps rs:List Int} (hT:Tree ps rs) {a b m:Int} {w:List Int} (h:Climb ps a b w m) : 0<=a->0<=b->a<=ps.length->b<=ps.length->∀ x∈w,0<x/\x<=ps.length:=by
 induction h with
 | same a=>intro _ _ _ _ x hx; cases hx
 | left hlt hc ih =>
  intro a0 b0 a1 b1 x hx
  have hp:=hT.up (show 0<_ by omega) a1
  rcases List.mem_cons.mp hx with rfl | hx
  ·omega
  ·exact ih b0 hp.1 b1 (by omega) x hx
 | right hlt hc ih =>
  intro a0 b0 a1 b1 x hx
  have hp:=hT.up (show 0<_ by omega) b1
  rcases List.mem_cons.mp hx with rfl | hx
  ·omega
  ·exact ih a0 hp.1 a1 (by omega) x hx
theorem Climb.len {ps rs:List Int} (hT:Tree ps rs) {a b m:Int} {w:List Int} (h:Climb ps a b w m) : 0<=a->0<=b->a<=ps.length->b<=ps.length->(w.length:Int)<=a + b:=by
 induction h with
 | same a=>intro _ _ _ _; simp; omega
 | left hlt hc ih=>intro a0 b0 a1 b1; have hp:=hT.up (show 0<_ by omega) a1; have:=ih b0 hp.1 b1 (by omega); simp; omega
 | right hlt hc ih=>intro a0 b0 a1 b1; have hp:=hT.up (show 0<_ by omega) b1; have:=ih a0 hp.1 a1 (by omega); simp; omega
theorem Climb.det {ps:List Int} {a b m:Int} {w:List Int} (h:Climb ps a b w m):∀ {m':Int} {w':List Int},Climb ps a b w' m'->w=w'/\m=m':=by
 induction h with
 | same a=>intro m' w' h; cases h with | same=>exact ⟨rfl,rfl⟩ | left h _=>omega | right h _=>omega
 | left hlt hc ih=>intro m' w' h; cases h with | same=>omega | left _ h=>have:=ih h; exact ⟨by rw [this.1],this.2⟩ | right h _=>omega
 | right hlt hc ih=>intro m' w' h; cases h with | same=>omega | right _ h=>have:=ih h; exact ⟨by rw [this.1],this.2⟩ | left h _=>omega
structure Ends2 (ps:List Int) (a b:Int):Prop where
 a0 : 0<=a
 a1:a<=ps.length
 b0 : 0<=b
 b1:b<=ps.length
 ne:a≠b
def pz:SpD:=λds q=>∃ ps rs d,ds=[aL ps rs,d]/\d.isS=false/\q (.bl (btw 0 ps.length d)) []
def rl:SpD:=λds q=>∃ ps rs a b,ds=[aL ps rs,.int a,.int b]/\Ends2 ps a b/\q (.bl true) []
def jP:SpD:=λds q=>∃ ps rs a b,ds=[aL ps rs,.int a,.int b]/\Tree ps rs/\Ends2 ps a b/\q .non []
def qh:SpD:=λds q=>∃ ps rs a b,ds=[aL ps rs,.int a,.int b]/\Tree ps rs/\0<=a/\a<=ps.length/\0<=b/\b<=ps.length/\∀ w m,Climb ps a b w m->q (.tup [ae (bF w),.int m]) []
def sdWay:SpD:=λds q=>∃ ps rs a b,ds=[aL ps rs,.int a,.int b]/\Tree ps rs/\Ends2 ps a b/\∀ w m,Climb ps a b w m->q (ae (bF w)) []
def tj:SpD:=λds q=>∃ ps rs a b,ds=[aL ps rs,.int a,.int b]/\Tree ps rs/\Ends2 ps a b/\∀ w m,Climb ps a b w m->q (.int m) []
theorem fE (ps:List Int) (y:Int):D.lst (ps.map D.int++[D.int y])=ae (ps++[y]):=by unfold ae; rw [List.map_append]; rfl
theorem ar (ps:List Int):(ps.map D.int).length=ps.length:=List.length_map _
theorem kx {P:Nat->Int->Prop} {ps:List Int} {y:Int} (h:∀ (j:Nat) (x:Int),ps[j]? = some x->P j x) (hy:P ps.length y):∀ (j:Nat) (x:Int),(ps++[y])[j]? = some x->P j x:=by
 intro j x hj
 by_cases hjl:j<ps.length
 ·rw [List.getElem?_append_left hjl] at hj; exact h j x hj
 ·rw [List.getElem?_append_right (by omega)] at hj
  cases e:j - ps.length with
  | zero => rw [e] at hj; have : y = x := by simpa using hj
            subst this; rw [show j=ps.length by omega]; exact hy
  | succ q=>rw [e] at hj; simp at hj
def nD (p:Int->Bool):D->Option D
 | .int x=>if p x=true then some (.int x) else none
 | _=>none
theorem eg {p:Int->Bool}:∀ (ns:List Int),(ns.map D.int).filterMap (nD p)=(ns.filter p).map D.int
 | []=>rfl
 | n :: r=>by
  have ih:=eg (p:=p) r
  have e0:nD p (.int n)=if p n=true then some (.int n) else none:=rfl
  cases e:p n with
  | true=>rw [e,if_pos rfl] at e0; rw [List.map_cons,List.filterMap_cons,e0,List.filter_cons_of_pos e,List.map_cons,<- ih]
  | false=>rw [e,if_neg (by decide)] at e0; rw [List.map_cons,List.filterMap_cons,e0,List.filter_cons_of_neg (by rw [e]; decide),<- ih]
theorem cB (ns:List Int):(ns.map D.int).all db=true:=by
 induction ns with
 | nil=>rfl
 | cons n r ih=>rw [List.map_cons,List.all_cons,ih]; rfl
theorem dc (x:Int) (ns:List Int):inD (.int x) (ns.map D.int)=ns.contains x:=by
 unfold inD
 induction ns with
 | nil=>rfl
 | cons n r ih =>
  rw [List.map_cons,List.any_cons,ih,List.contains_cons]
  show ((n == x)||_)=_
  rw [Bool.beq_comm]
theorem bv {ns:List Int} {d:D} (h:d∈ns.map D.int):∃ x∈ns,d = .int x:=by
 obtain ⟨x,h1,h2⟩:=List.mem_map.mp h
 exact ⟨x,h1,h2.symm⟩
theorem fq (ns:List Int):okD (ae ns)=true:=jn ns
theorem eqDi (ns ms:List Int):eqD (ae ns) (ae ms)=decide (ns=ms):=m8 ns ms
def lay:Nat->D->Bool
 | _,.int _=>true
 | _,.bl _=>true
 | _,.non=>true
 | n + 1,.tup ds=>ds.all (lay n)
 | n + 1,.lst ds=>ds.all (lay n)
 | _,_=>false
theorem iL {n:Nat} (ih:∀ d,lay n d=true->(toP d).canLay0=true/\(toP d).depth<=n + 1):∀ ds:List D,ds.all (lay n)=true->PyData.canLayAll0 (toPs ds)=true/\PyData.depthAll (toPs ds)<=n + 1
 | [],_=>by rw [toPs]; simp [PyData.canLayAll0,PyData.depthAll]
 | d :: ds,h=>by
  rw [List.all_cons,Bool.and_eq_true] at h
  have h1:=ih d h.1
  have h2:=iL ih ds h.2
  rw [toPs]
  simp only [PyData.canLayAll0,PyData.depthAll,h1.1,h2.1,Bool.and_self,true_and]
  omega
theorem jQ:∀ (n:Nat) (d:D),lay n d=true->(toP d).canLay0=true/\(toP d).depth<=n + 1
 | n,.int _,_=>by rw [toP]; simp [PyData.canLay0,PyData.depth]
 | n,.bl _,_=>by rw [toP]; simp [PyData.canLay0,PyData.depth]
 | n,.non,_=>by rw [toP]; simp [PyData.canLay0,PyData.depth]
 | n + 1,.tup ds,h=>by
  have:=iL (jQ n) ds (by simpa [lay] using h)
  rw [toP]; simp only [PyData.canLay0,PyData.depth,this.1,true_and]; omega
 | n + 1,.lst ds,h=>by
  have:=iL (jQ n) ds (by simpa [lay] using h)
  rw [toP]; simp only [PyData.canLay0,PyData.depth,this.1,true_and]; omega
 | 0,.tup _,h=>by simp [lay] at h
 | 0,.lst _,h=>by simp [lay] at h
 | n,.str _,h=>by cases n <;> simp [lay] at h
 | n,.dct,h=>by cases n <;> simp [lay] at h
 | n,.dic _ _,h=>by cases n <;> simp [lay] at h
 | n,.obj _ _ _,h=>by cases n <;> simp [lay] at h
 | n,.scr _ _,h=>by cases n <;> simp [lay] at h
 | n,.ext _,h=>by cases n <;> simp [lay] at h
theorem gb {n:Nat} {d:D} (h:lay n d=true) (hn:n<=60):okD d=true:=by
 have:=jQ n d h
 unfold okD SeqAt.shaped
 rw [this.1,Bool.true_and]
 exact decide_eq_true (by omega)
theorem iO {n:Nat} (ih:∀ d,lay n d=true->PyData.eqv (toP d) (toP d)=true):∀ ds:List D,ds.all (lay n)=true->PyData.eqvAll (toPs ds) (toPs ds)=true
 | [],_=>by rw [toPs]; simp [PyData.eqvAll]
 | d :: ds,h=>by
  rw [List.all_cons,Bool.and_eq_true] at h
  rw [toPs,PyData.eqvAll,ih d h.1,iO ih ds h.2]; rfl
theorem fj:∀ (n:Nat) (d:D),lay n d=true->eqD d d=true
 | n,.int _,_=>by unfold eqD; rw [toP,PyData.eqv]; simp
 | n,.bl _,_=>by unfold eqD; rw [toP,PyData.eqv]; simp
 | n,.non,_=>by unfold eqD; rw [toP,PyData.eqv]
 | n + 1,.tup ds,h=>by unfold eqD; rw [toP,PyData.eqv]; exact iO (fj n) ds (by simpa [lay] using h)
 | n + 1,.lst ds,h=>by unfold eqD; rw [toP,PyData.eqv]; exact iO (fj n) ds (by simpa [lay] using h)
 | 0,.tup _,h=>by simp [lay] at h
 | 0,.lst _,h=>by simp [lay] at h
 | n,.str _,h=>by cases n <;> simp [lay] at h
 | n,.dct,h=>by cases n <;> simp [lay] at h
 | n,.dic _ _,h=>by cases n <;> simp [lay] at h
 | n,.obj _ _ _,h=>by cases n <;> simp [lay] at h
 | n,.scr _ _,h=>by cases n <;> simp [lay] at h
 | n,.ext _,h=>by cases n <;> simp [lay] at h
theorem ij (n:Nat) (ns:List Int):(ns.map D.int).all (lay n)=true:=by
 rw [List.all_eq_true]; intro d hd; obtain ⟨x,_,rfl⟩:=bv hd; cases n <;> rfl
theorem eh (n:Nat) (ns:List Int):lay (n + 1) (ae ns)=true:=by unfold ae; rw [lay]; exact ij n ns
theorem lQ (n:Nat) (ns ms:List Int):lay (n + 2) (aL ns ms)=true:=by unfold aL; rw [lay,List.all_cons,List.all_cons,eh,eh]; rfl
structure Ask where
 one:Int
 other:Int
 size:Int
 worth:Int
def dg (a:Ask):D:=.tup [.int a.one,.int a.other,.int a.size,.int a.worth]
def a8 (as:List Ask):D:=.lst (as.map dg)
structure AskOk (ps:List Int) (a:Ask):Prop where
 ends:Ends2 ps a.one a.other
 s0 : 1<=a.size
 s1:a.size<=1000000
 w0 : 1<=a.worth
 w1:a.worth<=1000000000000
structure AsksOk (ps:List Int) (as:List Ask):Prop where
 len:as.length<=30
 ok:∀ a∈as,AskOk ps a
theorem lO (as:List Ask):imms (as.map dg)=true:=by
 induction as with
 | nil=>rfl
 | cons a r ih=>rw [List.map_cons,imms,ih]; rfl
theorem lL (n:Nat) (as:List Ask):lay (n + 2) (a8 as)=true:=by
 unfold a8; rw [lay,List.all_eq_true]; intro d hd
 obtain ⟨a,_,rfl⟩:=List.mem_map.mp hd
 rw [dg,lay]
 exact ij n [a.one,a.other,a.size,a.worth]
theorem pG {as:List Ask} {i:Nat} {d:D} (h:(as.map dg)[i]? = some d):∃ a,as[i]? = some a/\d=dg a:=by
 rw [List.getElem?_map] at h
 cases e:as[i]? with
 | none=>rw [e] at h; cases h
 | some z=>rw [e] at h; exact ⟨z,rfl,(Option.some.inj h).symm⟩
def ask0:Ask:=⟨0,0,0,0⟩
theorem oT {as:List Ask} {k:Int} (h0 : 0<=k) (h1:k<as.length):atI (as.map dg) k=some (dg (as.getD k.toNat ask0)):=by
 have ek:k=((k.toNat:Nat):Int):=by omega
 have hl:k.toNat<as.length:=by omega
 have:atI (as.map dg) ((k.toNat:Nat):Int)=some (dg (as.getD k.toNat ask0)):=cP (by rw [List.getElem?_map,List.getD_eq_getElem?_getD,List.getElem?_eq_getElem hl]; rfl)
 rw [<- ek] at this
 exact this
theorem oB {as:List Ask} {k:Nat} (h:k<as.length):as.getD k ask0∈as:=by rw [List.getD_eq_getElem?_getD,List.getElem?_eq_getElem h]; exact List.getElem_mem h
theorem a6 (as:List Ask):(as.map dg).length=as.length:=List.length_map _
def qu:SpD:=λds q=>∃ ps rs a,ds=[aL ps rs,dg a]/\AskOk ps a/\q (.bl true) []
def jW:SpD:=λds q=>∃ ps rs as,ds=[aL ps rs,a8 as]/\Tree ps rs/\AsksOk ps as/\q .non []
def gE (ps:List Int):Nat->Int->Int->List Int
 | 0,_,_=>[]
 | f + 1,a,b=>if b<a then a :: gE ps f b (cU ps a) else if a<b then b :: gE ps f a (cU ps b) else []
def gw (ps:List Int):Nat->Int->Int->Int
 | 0,a,_=>a
 | f + 1,a,b=>if b<a then gw ps f b (cU ps a) else if a<b then gw ps f a (cU ps b) else a
theorem e9 {ps rs:List Int} (hT:Tree ps rs):∀ (f:Nat) (a b:Int),(a + b).toNat<=f->0<=a->0<=b->a<=ps.length->b<=ps.length->Climb ps a b (gE ps f a b) (gw ps f a b)
 | 0,a,b,hf,a0,b0,_,_=>by
  have:a=b:=by omega
  subst this
  exact .same a
 | f + 1,a,b,hf,a0,b0,a1,b1=>by
  unfold gE gw
  by_cases h1:b<a
  ·rw [if_pos h1,if_pos h1]
   have hp:=hT.up (show 0<a by omega) a1
   exact .left h1 (e9 hT f b _ (by omega) b0 hp.1 b1 (by omega))
  ·rw [if_neg h1,if_neg h1]
   by_cases h2:a<b
   ·rw [if_pos h2,if_pos h2]
    have hp:=hT.up (show 0<b by omega) b1
    exact .right h2 (e9 hT f a _ (by omega) a0 hp.1 a1 (by omega))
   ·rw [if_neg h2,if_neg h2]
    have:a=b:=by omega
    subst this
    exact .same a
def ga (ps:List Int) (a b:Int):List Int:=bF (gE ps 100 a b)
def bo (ps:List Int) (a b:Int):Int:=gw ps 100 a b
theorem Climb.way {ps rs:List Int} (hT:Tree ps rs) {a b m:Int} {w:List Int} (h:Climb ps a b w m) (a0 : 0<=a) (b0 : 0<=b) (a1:a<=ps.length) (b1:b<=ps.length):bF w=ga ps a b/\m=bo ps a b:=by
 have hi:=hT.hi
 have:=h.det (e9 hT 100 a b (by omega) a0 b0 a1 b1)
 exact ⟨by rw [this.1]; rfl,this.2⟩
theorem bS {ps rs:List Int} (hT:Tree ps rs) {a b:Int} (a0 : 0<=a) (b0 : 0<=b) (a1:a<=ps.length) (b1:b<=ps.length):∃ w,Climb ps a b w (bo ps a b)/\ga ps a b=bF w:=by
 have hi:=hT.hi
 exact ⟨_,e9 hT 100 a b (by omega) a0 b0 a1 b1,rfl⟩
theorem gj {ps rs:List Int} (hT:Tree ps rs) {a b:Int} (he:Ends2 ps a b) {x:Int} (hx:x∈ga ps a b) : 0<x/\x<=ps.length:=by
 obtain ⟨w,hw,e⟩:=bS hT he.a0 he.b0 he.a1 he.b1
 rw [e] at hx
 exact hw.mem hT he.a0 he.b0 he.a1 he.b1 x ((bt w).mem_iff.mp hx)
def aG (ps:List Int) (a:Ask):List Int:=ga ps a.one a.other
def qy:SpD:=λds q=>∃ ps rs a,ds=[aL ps rs,dg a]/\Tree ps rs/\Ends2 ps a.one a.other/\q (ae (aG ps a)) []
def gX (s:Int) (l:List Int) (t:Int):List Int:=l.set (t - 1).toNat (l.getD (t - 1).toNat 0 + s)
def a7 (l:List Int) (ts:List Int) (s:Int):List Int:=ts.foldl (gX s) l
theorem i8 (s:Int) (l:List Int) (t:Int):(gX s l t).length=l.length:=by unfold gX; simp
theorem cY (s:Int):∀ (ts l:List Int),(a7 l ts s).length=l.length
 | [],l=>rfl
 | t :: ts,l=>by show (a7 (gX s l t) ts s).length=_; rw [cY s ts,i8]
theorem ik (l ts:List Int) (t s:Int):a7 l (ts++[t]) s=gX s (a7 l ts s) t:=by unfold a7; rw [List.foldl_append]; rfl
theorem ju (n:Nat) (d:D):(List.replicate n [d]).flatten=List.replicate n d:=by
 induction n with
 | zero=>rfl
 | succ n ih=>rw [List.replicate_succ,List.flatten_cons,ih,List.replicate_succ]; rfl
theorem hZ (n:Nat) (x:Int):List.replicate n (D.int x)=(List.replicate n x).map D.int:=by rw [List.map_replicate]
theorem gk {n:Nat} {k:Int} (h0 : 0<=k) (h1:k<n):ixN n k=some k.toNat:=by unfold ixN; rw [if_pos h0,if_pos h1]
theorem eC (l:List Int) (i:Nat) (x:Int):D.lst ((l.map D.int).set i (.int x))=ae (l.set i x):=by unfold ae; rw [List.map_set]
theorem ka {ps:List Int} {a r:Int} (a0 : 0<=a) (a1:a<1 + (ps.length:Int)) (r0 : 0<=r) (r1:r<ps.length):Ends2 ps a ((a + 1 + r) % (1 + (ps.length:Int))):=by
 refine ⟨a0,by omega,Int.emod_nonneg _ (by omega),?_,?_⟩
 ·have:=Int.emod_lt_of_pos (a + 1 + r) (show 0<1 + (ps.length:Int) by omega); omega
 ·intro he
  by_cases hlt:a + 1 + r<1 + (ps.length:Int)
  ·rw [Int.emod_eq_of_lt (by omega) hlt] at he; omega
  ·have e:(a + 1 + r) % (1 + (ps.length:Int))=a + 1 + r - (1 + (ps.length:Int)):=by
    rw [<- Int.sub_emod_right,Int.emod_eq_of_lt (by omega) (by omega)]
   omega
theorem Climb.nodup {ps rs:List Int} (hT:Tree ps rs) {a b m:Int} {w:List Int} (h:Climb ps a b w m) : 0<=a->0<=b->a<=ps.length->b<=ps.length->w.Nodup/\∀ x∈w,x<=max a b:=by
 induction h with
 | same a=>intro _ _ _ _; exact ⟨List.nodup_nil,λx h=>by cases h⟩
 | @left a b w m hlt hc ih =>
  intro a0 b0 a1 b1
  have hp:=hT.up (show 0<a by omega) a1
  obtain ⟨h1,h2⟩:=ih b0 hp.1 b1 (by omega)
  refine ⟨List.nodup_cons.mpr ⟨λz=>by have:=h2 a z; omega,h1⟩,λx hx=>?_⟩
  rcases List.mem_cons.mp hx with rfl | hx
  ·omega
  ·have:=h2 x hx; omega
 | @right a b w m hlt hc ih =>
  intro a0 b0 a1 b1
  have hp:=hT.up (show 0<b by omega) b1
  obtain ⟨h1,h2⟩:=ih a0 hp.1 a1 (by omega)
  refine ⟨List.nodup_cons.mpr ⟨λz=>by have:=h2 b z; omega,h1⟩,λx hx=>?_⟩
  rcases List.mem_cons.mp hx with rfl | hx
  ·omega
  ·have:=h2 x hx; omega
theorem iw {ps rs:List Int} (hT:Tree ps rs) {a b:Int} (he:Ends2 ps a b):(ga ps a b).Nodup:=by
 obtain ⟨w,hw,e⟩:=bS hT he.a0 he.b0 he.a1 he.b1
 rw [e]
 exact (bt w).nodup_iff.mpr (hw.nodup hT he.a0 he.b0 he.a1 he.b1).1
def cnt (t:Int) (w:List Int) (s:Int):Int:=if w.contains t=true then s else 0
theorem qv {s:Int} {l:List Int} {t:Int} {j:Nat} (ht : 0<t) (hl:t<=l.length):(gX s l t).getD j 0=l.getD j 0 + if (j:Int) + 1=t then s else 0:=by
 unfold gX
 simp only [List.getD_eq_getElem?_getD]
 rw [List.getElem?_set]
 by_cases h:(t - 1).toNat=j
 ·rw [if_pos h,if_pos (by omega),if_pos (by omega),h]; rfl
 ·rw [if_neg h,if_neg (by omega)]; simp
theorem iV {s:Int} {j:Nat}:∀ {w l:List Int},w.Nodup->(∀ x∈w,0<x/\x<=l.length)->(a7 l w s).getD j 0=l.getD j 0 + cnt ((j:Int) + 1) w s
 | [],l,_,_=>by simp [a7,cnt]
 | t :: w,l,hn,hm=>by
  rw [List.nodup_cons] at hn
  have ht:=hm t (.head _)
  show (a7 (gX s l t) w s).getD j 0=_
  rw [iV hn.2 (λx hx=>by rw [i8]; exact hm x (List.mem_cons_of_mem _ hx)),qv ht.1 ht.2]
  unfold cnt
  rw [List.contains_cons]
  by_cases e:(j:Int) + 1=t
  ·have:w.contains ((j:Int) + 1)=false:=by
    cases z:w.contains ((j:Int) + 1) with
    | false=>rfl
    | true=>rw [e] at z; exact absurd (List.contains_iff_mem.mp z) hn.1
   rw [if_pos e,this,if_neg (by decide),show ((j:Int) + 1 == t)=true by simpa using e]; simp
  ·rw [if_neg e,show ((j:Int) + 1 == t)=false by simpa using e,Bool.false_or]; omega
def eqN (k:Int):Value->Bool
 | .int a _=>a == k
 | _=>false
def pW:V->List V->Hp->VK->Prop:=λx vs H Q=>∃ (l:Addr) (ns:List Int) (k:Int),x = .ref l/\vs=[.int k]/\H l=some (.lst (ns.map V.int))/\k∈ns/\Q .non (upd H l (.lst ((ns.erase k).map V.int)))
theorem gM:∀ {ns:List Int} {us:List Value},aH (ns.map V.int) us->us.length=ns.length/\∀ (i:Nat) (h:i<us.length),∃ t,us[i] = .int (ns.getD i 0) t
 | [],_,.nil=>⟨rfl,λi h=>absurd h (Nat.not_lt_zero _)⟩
 | k :: ns,_,.cons r t=>by
  obtain ⟨h1,h2⟩:=gM (ns:=ns) t
  refine ⟨by rw [List.length_cons,List.length_cons,h1],λi h=>?_⟩
  cases i with
  | zero=>obtain ⟨z,rfl⟩:=r; exact ⟨z,rfl⟩
  | succ i=>exact h2 i (Nat.lt_of_succ_lt_succ h)
theorem e6 {α β:Type} (f : α->β):∀ (l:List α) (j:Nat),(l.eraseIdx j).map f=(l.map f).eraseIdx j
 | [],_=>rfl
 | _ :: _,0=>rfl
 | x :: r,j + 1=>by rw [List.eraseIdx_cons_succ,List.map_cons,List.map_cons,List.eraseIdx_cons_succ,e6 f r j]
section
variable {X:Cx}
theorem lT:MtM X "list.remove" pW:=by
 (try refine ⟨?_⟩); intro pins s σ H x vs v us Q I rx rv h
 obtain ⟨l,ns,k,rfl,rfl,hH,hk,q⟩:=h
 cases rx
 obtain ⟨u,rfl,ru⟩:=rv.one
 obtain ⟨t,rfl⟩:=ru
 obtain ⟨z,its,n,r,hl,e⟩:=I.lstM hH
 obtain ⟨h1,h2⟩:=gM r
 have hj:ns.idxOf k<ns.length:=List.idxOf_lt_length_of_mem hk
 refine call_meets F.slot_list_remove ⟨_,e,rfl⟩ F.entry_list_remove (F.args_list_remove_2 _ _)
  (MeetsSeq.list_remove l its.toArray n (.int k t) (eqN k) (λy hy=>?_) (ns.idxOf k) (by rw [List.size_toArray]; omega) ?_ (λm hm hlt=>?_) (by rw [List.size_toArray]; omega)) ⟨e,?_⟩
 ·obtain ⟨i,hi,rfl⟩:=List.getElem_of_mem (List.mem_toArray.mp hy)
  obtain ⟨t',e'⟩:=h2 i hi
  rw [e']
  exact MeetsSeq.EqGives.int _ k t' t
 ·obtain ⟨t',e'⟩:=h2 (ns.idxOf k) (by omega)
  rw [List.getElem_toArray,e']
  show (ns.getD (ns.idxOf k) 0 == k)=true
  rw [List.getD_eq_getElem?_getD,List.getElem?_eq_getElem hj,List.getElem_idxOf hj]; simp
 ·rw [List.size_toArray] at hm
  obtain ⟨t',e'⟩:=h2 m hm
  rw [List.getElem_toArray,e']
  show (ns.getD m 0 == k)=false
  rw [List.getD_eq_getElem?_getD,List.getElem?_eq_getElem (by omega)]
  have:=List.not_of_lt_findIdx (p:=λx=>x == k) (xs:=ns) hlt
  simpa using this
 ·refine ⟨.non,_,I.lset (its':=its.eraseIdx (ns.idxOf k)) hH e ?_ ?_ ?_,rfl,q⟩
  ·show its.toArray.eraseIdxIfInBounds (ns.idxOf k)=(its.eraseIdx (ns.idxOf k)).toArray
   rw [List.eraseIdxIfInBounds_toArray]
  ·rw [List.erase_eq_eraseIdx_of_idxOf rfl,e6]
   exact r.eraseIdx _
  ·have:=List.length_erase_le (a:=k) (l:=ns)
   rw [List.length_map] at *
   omega
end
section
variable {X:Cx} {M:Md} {e:Expr} {ma:ME} {pos:Pos}
def kL (i:Nat) (m:ME):MS:=λn ρ=>match ρ[i]? with
 | some (some (.lst _))=>m ρ λd ρ1=>match ρ1[i]? with
  | some (some (.lst ds))=>∃ (ns:List Int) (k:Int),d = .int k/\ds=ns.map D.int/\k∈ns/\n.nx (ρ1.set i (some (ae (ns.erase k))))
  | _=>False
 | _=>False
theorem lJ {i:Nat} {x:Str} {apos cpos npos:Pos} (hN:X.N[i]? = some x) (he:QE X M.ow e ma) (ho:M.ow[i]? = some true:=by decide)
 (hv:Vis X.env.scope x:=by first | exact Or.inl rfl | exact Or.inr (Or.inl rfl) | exact Or.inr (Or.inr rfl)) (hd:(x == ("__debug__":Str))=false:=by decide) (hcd:(x == ("__classdict__":Str))=false:=by decide)
 (hbase:attributeBase (.Name x npos) "remove" X.env (eval (.Name x npos) X.env)=eval (.Name x npos) X.env:=by rfl)
 (hfew:((backTo cpos (starEach [e] X.env)).all (λx=>!x.1)&&(backToKw cpos (keywordEach [] X.env)).all (λx=>x.1.isSome)
  && decide ([e].length + ([]:List Keyword).length + (if ([]:List Keyword).isEmpty then 0 else 1)<30))=true:=by rfl)
 (hline:(apos.endLine == cpos.line)=true:=by rfl) (hst:starEach [e] X.env=[(false,eval e X.env)]:=by rfl)
 (hs:swapsWith (.Call (.Attribute (.Name x npos) "remove" apos) [e] [] cpos) none pos.line X.env=pure false:=by rfl) :
 QS X M (.Expr (.Call (.Attribute (.Name x npos) "remove" apos) [e] [] cpos) pos) (kL i ma):=by
 obtain ⟨t,p,s⟩:=he
 refine ⟨_,dz (kE PySem.F.plainAttrs_list PySem.F.slot_list_remove PySem.F.type_list_remove lT (cF hN hv hd hcd) (bC p dl hst) hbase hfew hline hst (by rfl)) hs,λC G ρ σ H n D hm hn r h k=>?_⟩
 unfold kL at h
 split at h
 ·rename_i ds e1
  obtain ⟨O,ro⟩:=r
  obtain ⟨a,xs,h1,h2,_,_⟩:=ro.write e1 ho
  refine ⟨.ref a,h1,.inl ⟨rfl,xs,SqL.of h2⟩,?_⟩
  refine s C G ρ σ H [] _ _ ⟨O,ro⟩ h λd ρ' v G' H' hq z kp r' pd=>?_
  split at hq
  ·rename_i ds' e2
   obtain ⟨ns,kk,rfl,rfl,hk,hq⟩:=hq
   obtain ⟨O',r'⟩:=r'
   obtain ⟨a',xs',g1,g2,g3,g4⟩:=r'.write e2 ho
   rw [h1] at g1; cases g1
   have ex:xs'=ns.map V.int:=bT (Seps.imm _ _ _ _ (aI ns) g3)
   subst ex
   refine ⟨a,ns,kk,rfl,by rw [ax pd],g2,hk,?_⟩
   exact k.nx _ _ G' _ hq z ⟨O',g4 _ _ (Reps.sep _ _ _ _ (aI _) (cZ _))⟩
  ·exact hq.elim
 ·exact h.elim
end
section
variable {X:Cx}
variable {ow:List Bool} {e:Expr} {ma:ME}
end
section
variable {X:Cx}
variable {ow:List Bool} {e:Expr} {ma:ME} {pos p1 p2 p3:Pos}
end
end L2
namespace L2
open PySem
structure DepOk (ps e:List Int) (n:Nat):Prop where
 len:e.length=n + 1
 up:∀ (k:Int) (u:List Int),0<=k->k<=n->Up ps k u->e.getD k.toNat 0 + 1=u.length
theorem dep0 (ps:List Int):DepOk ps [0] 0:=⟨rfl,λk u h0 h1 hu=>by
 have:k=0:=by omega
 subst this
 cases hu with
 | zero=>rfl
 | step h _=>omega⟩
theorem jC {ps rs e:List Int} {i:Nat} {z:Int} (hT:Tree ps rs) (hz:ps[i]? = some z) (h:DepOk ps e i):DepOk ps (e++[e.getD z.toNat 0 + 1]) (i + 1):=by
 have hb:=hT.par i z hz
 have hl:=h.len
 refine ⟨by rw [List.length_append,h.len]; rfl,λk u h0 h1 hu=>?_⟩
 by_cases hk:k<=i
 ·rw [List.getD_eq_getElem?_getD,List.getElem?_append_left (by omega),<- List.getD_eq_getElem?_getD]
  exact h.up k u h0 hk hu
 ·have e1:k.toNat=e.length:=by omega
  rw [List.getD_eq_getElem?_getD,List.getElem?_append_right (by omega),e1,Nat.sub_self]
  show e.getD z.toNat 0 + 1 + 1=_
  cases hu with
  | zero=>omega
  | step hp hu' =>
   have:cU ps k=z:=by
    unfold cU
    rw [List.getD_eq_getElem?_getD,show (k - 1).toNat=i by omega,hz]; rfl
   rw [this] at hu'
   rw [h.up z _ hb.1 hb.2 hu',List.length_cons]; rfl
theorem Up.chain {ps rs:List Int} (hT:Tree ps rs) {b:Int} {u:List Int} (h:Up ps b u):b<=ps.length->∀ {x y:Int},x∈u->y∈u->x<=y->∃ uy,Up ps y uy/\x∈uy/\∀ z∈uy,z∈u:=by
 induction h with
 | zero =>
  intro _ x y hx hy _
  have e:y=0:=by simpa using hy
  subst e
  exact ⟨[0],.zero,hx,λz hz=>hz⟩
 | @step k u h0 hu ih =>
  intro h1 x y hx hy hxy
  have hp:=hT.up h0 h1
  have hle:=hu.le hT (by omega)
  rcases List.mem_cons.mp hy with hy' | hy'
  ·subst hy'; exact ⟨_,.step h0 hu,hx,λz hz=>hz⟩
  ·rcases List.mem_cons.mp hx with hx' | hx'
   ·have:=(hle y hy').2; omega
   ·obtain ⟨uy,g1,g2,g3⟩:=ih (by omega) hx' hy' hxy
    exact ⟨uy,g1,g2,λz hz=>.tail _ (g3 z hz)⟩
def oR:SpD:=λds q=>∃ ps rs,ds=[aL ps rs]/\Tree ps rs/\∀ e,DepOk ps e ps.length->q (ae e) []
end L2
namespace L2
open PySem PySem.Spec PyProof.Rows
section
variable {prog:Program} {w:World} {A:Around} {E:Value->Shared->Prop} {s:Shared}
end
section
variable {X:Cx} {M:Md} {e:Expr} {es:List Expr} {mgs:MGs} {pos:Pos}
end
section
variable {X:Cx} {M:Md} {pos:Pos}
end
section
variable {X:Cx} {es:List Expr} {k:Nat} {tpos:Pos}
variable {ow:List Bool} {a b:Expr} {mr:MA} {pos:Pos}
end
end L2
namespace L2
open PySem
theorem fN {ps rs:List Int} (hT:Tree ps rs) {a b:Int} (he:Ends2 ps a b):(ga ps a b).length<=46:=by
 obtain ⟨w,hw,e⟩:=bS hT he.a0 he.b0 he.a1 he.b1
 have h1:=hw.len hT he.a0 he.b0 he.a1 he.b1
 have h2:=hT.hi
 have h3:=he.a1; have h4:=he.b1
 rw [e]
 have:=(bt w).length_eq
 omega
theorem kX {ps rs:List Int} (hT:Tree ps rs) {a b:Int} (he:Ends2 ps a b) : 0<(ga ps a b).length:=by
 obtain ⟨w,hw,e⟩:=bS hT he.a0 he.b0 he.a1 he.b1
 rw [e]
 have:=(bt w).length_eq
 have hne:=he.ne
 generalize bo ps a b=m at hw
 cases hw with
 | same=>exact absurd rfl hne
 | left _ _=>rw [List.length_cons] at this; omega
 | right _ _=>rw [List.length_cons] at this; omega
end L2
namespace L2
open PySem PySem.Spec PyProof.Rows
section
variable {M:Model} {A:Around} {E:Value->Shared->Prop} {s:Shared}
end
section
variable {X:Cx} {pins:List (Addr×Obj)} {σ:St} {H H':Hp} {s s':Shared} {e:Addr} {cls:Value} {dx:Option Addr} {T:Option Addr}
end
section
variable {X:Cx} {x:Str} {p pos:Pos} {e:Expr} {es:List Expr} {t:TA} {k:Nat} {f:Addr} {fd:FuncData} {ps:List Str} {sp:Sp} {xk:XS}
end
section
variable {X:Cx} {pins:List (Addr×Obj)} {σ:St} {H:Hp} {s:Shared} {xk:XS}
variable {x:Str} {C:Addr} {bm:List Value} {e:Expr} {args:List Expr} {np cpos pos:Pos} {t:TA}
end
section
variable {X:Cx} {pins p:List (Addr×Obj)} {σ:St} {H:Hp} {s:Shared} {E:Value->Shared->Prop} {v:Value}
variable {e:Addr} {cls:Value} {dx T:Option Addr}
variable {x n:Str} {i:Nat} {C D0:Addr} {bm bmD:List Value} {ini iniD:Option Value} {b0:Stmt} {suite:List Stmt} {np npos:Pos} {ts:TS} {D:Ends} {t:Addr}
end
section
variable {X:Cx} {E:Value->Shared->Prop} {p:List (Addr×Obj)}
end
section
variable {X:Cx} {M:Md} {a b c e:Expr} {mt:MT} {pos pos':Pos} {st:Stmt} {rest:List Stmt} {m:MS} {m1 m2:MSX} {mex:MEX}
variable {mg:MG}
variable {es:List Expr} {ks:List AK} {mr:MA} {x:Str} {p':Pos} {ow:List Bool}
end
section
variable {X:Cx} {M:Md} {e:Expr} {es:List Expr} {ks:List AK} {mr:MA} {x:Str} {pos p':Pos} {ow:List Bool} {mu:List Bool} {k:Nat} {f:Addr} {fd:FuncData} {ps:List Str} {sd:SpX}
end
end L2
namespace L2
open PySem PySem.Spec PyProof.Rows PySem.W Builtin.ObjectAttr
section
variable {prog:Program} {w:World} {A:Around} {E:Value->Shared->Prop} {s:Shared} {K:PySem.W.Frag} {x D:Addr} {ox:Obj} {od:Option Obj} {name:Str} {bm:List Value} {ini:Option Value} {tk:Tok}
end
end L2
namespace L2
open PySem PySem.Spec PyProof.Rows
section
variable {X:Cx}
variable {ow:List Bool} {a:Expr} {ma:ME} {pos:Pos}
end
section
variable {K:PySem.W.Frag} {C a N:Addr} {dd nd:Option Addr} {nm qn:Str} {bs bm sub:List Value} {hd ab:Bool} {sn:List Str} {col:Option Bool} {k0 k1 k2 k3 k5 ini:Option Value} {no:Value} {es:Array DictEntry} {np:Nat} {nl:Array (Option Value)} {sl:Array (Option Value)} {oc:Value} {cd:ClassData}
end
section
variable {X:Cx}
variable {ow:List Bool} {a:Expr} {ma:ME} {pos:Pos}
end
section
variable {K:PySem.W.Frag} {t c:Value} {cs:List Value} {b:Bool}
end
section
variable {prog:Program} {w:World} {A:Around} {E:Value->Shared->Prop} {h:Heap} {g:Array GenState} {d:Drawn} {t:Nat} {os:OsState}
variable {nm q:Str} {C N:Addr} {bs bm:List Value} {hdct:Bool} {sn:List Str} {sub:List Value} {ab:Bool} {col:Option Bool} {dd:Option Addr} {k0 k1 k2 k3 k5:Option Value}
end
section
variable {prog:Program} {w:World} {A:Around} {E:Value->Shared->Prop} {h:Heap} {g:Array GenState} {d:Drawn} {t:Nat} {os:OsState}
variable {nm q:Str} {C N:Addr} {bs bm:List Value} {hdct:Bool} {sn:List Str} {sub:List Value} {ab:Bool} {col:Option Bool} {dd:Option Addr} {k0 k1 k2 k3 k5:Option Value}
end
end L2
namespace L2
open PySem PySem.Spec PyProof.Rows PySem.W Builtin.ObjectAttr Builtin
section
variable {prog:Program} {w:World} {A:Around} {E:Value->Shared->Prop} {s:Shared} {K:PySem.W.Frag} {x C:Addr} {ox:Obj} {od:Option Obj} {name:Str} {bm:List Value} {ini:Option Value} {v:Value}
end
end L2
namespace L2
open PySem PySem.Spec PyProof.Rows
section
variable {X:Cx} {pins:List (Addr×Obj)} {σ:St} {H:Hp} {s:Shared} {e C fI:Addr} {bm:List Value}
end
section
variable {prog:Program} {w:World} {A:Around} {E:Value->Shared->Prop} {s:Shared} {env:Env}
end
section
variable {X:Cx} {xk:XS} {x:Str} {C fI:Addr} {bm:List Value} {e:Expr} {args:List Expr} {np cpos pos:Pos} {t:TA} {k:Nat} {fd:FuncData} {ps ns:List Str}
end
section
variable {X:Cx} {M:Md} {e:Expr} {es:List Expr} {mr:MA} {x:Str} {pos:Pos} {k:Nat} {fd:FuncData} {ps ns:List Str}
end
section
variable {X:Cx} {es:List Expr} {c:St->Prop}
end
section
variable {X:Cx} {C B:Addr} {bm:List Value} {ini:Option Value} {x:Str} {a b:Expr} {np apos pos pos':Pos} {t:TA}
end
section
variable {X:Cx} {pins:List (Addr×Obj)} {σ:St} {H:Hp} {s:Shared} {h':Heap} {a:Addr} {oa od:HO}
end
section
variable {X:Cx} {C:Addr} {bm:List Value} {ini:Option Value} {f:Str} {o value:Expr} {pos pos':Pos} {ta tv:TE}
end
section
variable {X:Cx} {ow:List Bool} {a:Expr} {ma:ME} {pos:Pos} {f:Str}
end
section
variable {X:Cx}
variable {ow:List Bool} {e:Expr} {ma:ME}
end
section
variable {X:Cx} {M:Md} {ow:List Bool} {a e:Expr} {es:List Expr} {pos:Pos} {mex:MEX} {m1:MSX} {mg:MG}
variable {x:Str} {p':Pos} {ma:ME}
end
section
variable {C:Ctx} {ow:List Bool} {G:Hp} {ρ:DSt} {σ:St} {H:Hp} {pd:List (D×V)} {O:Own} {p:Addr} {xs:List V}
end
section
variable {X:Cx} {ow:List Bool} {a b e:Expr} {es:List Expr} {ma mb:ME} {mr:MA} {pos:Pos} {x:Str} {p':Pos}
end
section
variable {X:Cx} {M:Md} {i:Nat} {st:Stmt} {rest:List Stmt} {m1 m2:MFl} {me:MFe} {ms:MS} {pos pos':Pos}
variable {e b c:Expr} {ma mb:ME} {mt:MT}
end
section
variable {C:Ctx} {ow:List Bool} {i:Nat} {G:Hp} {ρ:DSt} {σ:St} {H:Hp} {p:Addr} {ds:List D}
end
section
variable {X:Cx} {M:Md} {i:Nat} {pos pos':Pos} {e c:Expr} {ma:ME} {mt:MT} {m1 m2:MFl}
end
section
variable {X:Cx} {M:Md} {a b e:Expr} {ma mb:ME} {pos:Pos}
end
section
variable {X:Cx} {M:Md} {a b:Expr} {ma mb:ME} {pos:Pos}
end
section
variable {X:Cx} {pos p1 p2 q1 q2:Pos} {n1 n2:Nat} {k1 k2 x y:Str} {i j:Nat} {ow:List Bool}
end
section
variable {X:Cx} {ow:List Bool} {a b e:Expr} {ma mb:ME} {pos p2:Pos} {lo hi:Option Expr} {ml mh:MO}
end
section
variable {X:Cx} {M:Md} {i:Nat} {st:Stmt} {m:MFl}
end
section
variable {X:Cx}
end
end L2
namespace L2
open PySem
end L2
namespace L2
open PySem PySem.Spec PyProof.Rows
section
variable {X:Cx}
end
section
variable {X:Cx} {M:Md} {e:Expr} {ma:ME} {pos:Pos}
end
section
variable {X:Cx} {M:Md} {i:Nat} {st:Stmt} {rest:List Stmt} {m1 m2:MFl} {me:MFe} {pos pos':Pos} {e:Expr} {ma:ME}
end
section
variable {X:Cx} {M:Md} {elt tg iter:Expr} {ifs:List Expr} {pos:Pos} {mi:MA} {mg:MG} {mt:MT} {me:ME} {scope:Scope} {cl:List (Str×Addr)} {rest:List Stmt} {mf:MFe}
end
section
variable {X:Cx} {ow:List Bool} {e:Expr} {ma:ME} {pos p2:Pos} {lo hi:Option Expr} {ml mh:MO}
end
end L2
namespace L2
open PySem
end L2
namespace L2
open PySem PySem.Spec PyProof.Rows
section
variable {X:Cx} {pins p:List (Addr×Obj)} {σ:St} {H:Hp} {s:Shared} {E:Value->Shared->Prop} {v:Value} {e:Addr} {cls:Value} {dx T:Option Addr}
variable {x:Str} {C D0:Addr} {bm bmD:List Value} {ini iniD:Option Value} {b0:Stmt} {suite:List Stmt} {np npos:Pos} {ts:TS} {D:Ends} {t:Addr}
end
section
variable {X:Cx} {ow:List Bool} {a b:Expr} {mex:MEX} {mb:ME} {pos:Pos}
end
end L2
namespace L2
open PySem
end L2
namespace L2
open PySem PySem.Spec PyProof.Rows
section
variable {X:Cx} {pos p1 q1:Pos} {n1:Nat} {k1:Int} {x:Str} {i:Nat} {ow:List Bool}
end
section
variable {X:Cx} {ow:List Bool} {es:List Expr} {mr:MA} {pos:Pos}
end
end L2
namespace L2
open PySem
end L2
namespace L2
open PySem PySem.Spec PyProof.Rows
theorem rF:bootBuiltins "all" = some (.builtin "all"):=by decide +kernel
section
variable {X:Cx}
end
section
variable {X:Cx} {M:Md} {e e':Expr} {mr:MA} {pos:Pos}
end
end L2
namespace L2
open PySem
def eK (ws:List (List Int)):D:=.lst (ws.map ae)
def aU (ps:List Int) (as:List Ask):List (List Int):=as.map (aG ps)
def n4:SpD:=λds q=>∃ ps rs as,ds=[aL ps rs,a8 as]/\Tree ps rs/\AsksOk ps as/\q (eK (aU ps as)) []
def wayF (ps:List Int):D->D
 | .tup [.int a,.int b,_,_]=>ae (ga ps a b)
 | d=>d
theorem gu (ps:List Int) (as:List Ask):(as.map dg).map (wayF ps)=(aU ps as).map ae:=by
 unfold aU; rw [List.map_map,List.map_map]; rfl
def aT (as:List Ask) (k:Int):Ask:=as.getD k.toNat ask0
def l_:SpD:=λds q=>∃ c m most,ds=[ae [c,m],.int most]/\0<=c/\1<=most/\most<=1000000000000/\∀ n c' m',1<=n->n<=most->0<=c'->q (.int n) [some (ae [c',m'])]
structure ParOk (ps:List Int):Prop where
 lo : 1<=ps.length
 hi:ps.length<=23
 par:∀ (i:Nat) (x:Int),ps[i]? = some x->0<=x/\x<=i
structure RoomOk (n:Nat) (least:Int) (rs:List Int):Prop where
 len:rs.length=n
 room:∀ (i:Nat) (x:Int),rs[i]? = some x->least<=x/\x<=1000000
theorem ParOk.tree {ps rs:List Int} {least:Int} (h:ParOk ps) (r:RoomOk ps.length least rs) (hl : 1<=least):Tree ps rs:=⟨r.len.symm,h.lo,h.hi,h.par,λi x e=>by have:=r.room i x e; omega⟩
def lD:SpD:=λds q=>∃ c m most,ds=[ae [c,m],.int most]/\0<=c/\1<=most/\most<=23/\∀ ps c' m',ParOk ps->(ps.length:Int)<=most->0<=c'->q (ae ps) [some (ae [c',m'])]
def pZ:SpD:=λds q=>∃ c m n least,ds=[ae [c,m],.int ((n:Nat):Int),.int least]/\0<=c/\1<=n/\n<=23/\1<=least/\least<=2/\∀ rs c' m',RoomOk n least rs->0<=c'->q (ae rs) [some (ae [c',m'])]
def p_:SpD:=λds q=>∃ c m n,ds=[ae [c,m],.int ((n:Nat):Int)]/\0<=c/\1<=n/\n<=23/\∀ a b c' m',0<=a->a<=(n:Int)->0<=b->b<=(n:Int)->a≠b->0<=c'->q (.tup [.int a,.int b]) [some (ae [c',m'])]
def sdUpP:SpD:=λds q=>∃ ps rs k,ds=[ae ps,.int k]/\Tree ps rs/\0<=k/\k<=ps.length/\∀ v,Up ps k (v++[0])->q (ae v) []
def rR:SpD:=λds q=>∃ ps rs a b rest,ds=[ae ps,.tup (.int a :: .int b :: rest)]/\Tree ps rs/\0<=a/\a<=ps.length/\0<=b/\b<=ps.length/\q (ae (ga ps a b)) []
theorem Up.split {ps:List Int} {k:Int} {u:List Int} (h:Up ps k u):∃ v,u=v++[0]:=by
 induction h with
 | zero=>exact ⟨[],rfl⟩
 | step hk h ih=>obtain ⟨v,e⟩:=ih; exact ⟨_ :: v,by rw [e]; rfl⟩
theorem Up.pos {ps rs:List Int} (hT:Tree ps rs) {k:Int} {v:List Int} (h:Up ps k (v++[0])) (hk:k<=ps.length):∀ x∈v,0<x:=by
 intro x hx
 have:=(List.pairwise_append.mp (h.dec hT hk)).2.2 x hx 0 (.head _)
 exact this
theorem gO {p q:Int->Bool}:∀ {l:List Int},(∀ x∈l,p x=q x)->l.filter p=l.filter q:=λh=>List.filter_congr h
theorem iZ {ps rs:List Int} (hT:Tree ps rs) {a b:Int} (a0 : 0<=a) (b0 : 0<=b) (a1:a<=ps.length) (b1:b<=ps.length) {va vb:List Int} (hua:Up ps a (va++[0])) (hub:Up ps b (vb++[0])) :
 ga ps a b=bF (va.filter (λx=>!vb.contains x)++vb.filter (λx=>!va.contains x)):=by
 obtain ⟨w,hw,e⟩:=bS hT a0 b0 a1 b1
 have hm:=hw.low hT a0 b0 a1 b1
 obtain ⟨um,hum⟩:=Up.all hT _ (bo ps a b) rfl hm.1 (by omega)
 have hp:=hw.perm hT a0 b0 a1 b1 hua hub hum
 obtain ⟨ma,mb,mx⟩:=hw.meet hT a0 b0 a1 b1 hua hub
 obtain ⟨va',hsp⟩:=hum.split
 have h0:(0:Int)∈um:=by rw [hsp]; simp
 have pa:=Up.pos hT hua a1
 have pb:=Up.pos hT hub b1
 have inA:∀ x,x∈um->x∈va++[0]:=λx hx=>by
  obtain ⟨uy,h1,_,h3⟩:=hua.chain hT a1 (x:=bo ps a b) (y:=bo ps a b) ma ma (Int.le_refl _)
  rw [<- hum.det h1] at h3; exact h3 x hx
 have inB:∀ x,x∈um->x∈vb++[0]:=λx hx=>by
  obtain ⟨uy,h1,_,h3⟩:=hub.chain hT b1 (x:=bo ps a b) (y:=bo ps a b) mb mb (Int.le_refl _)
  rw [<- hum.det h1] at h3; exact h3 x hx
 have both:∀ x,x∈va++[0]->x∈vb++[0]->x∈um:=λx h1 h2=>by
  obtain ⟨uy,h3,h4,_⟩:=hua.chain hT a1 h1 ma (mx x h1 h2)
  rw [hum.det h3]; exact h4
 have ea:va.filter (λx=>!um.contains x)=va.filter (λx=>!vb.contains x):=gO λx hx=>by
  have hx0:=pa x hx
  have:(x∈um)↔(x∈vb):=⟨λh=>by rcases List.mem_append.mp (inB x h) with h | h; exact h; have:=List.mem_singleton.mp h; omega,λh=>both x (List.mem_append.mpr (.inl hx)) (List.mem_append.mpr (.inl h))⟩
  have e2:um.contains x=vb.contains x:=by rw [Bool.eq_iff_iff,List.contains_iff_mem,List.contains_iff_mem]; exact this
  show (!um.contains x)=(!vb.contains x)
  rw [e2]
 have eb:vb.filter (λx=>!um.contains x)=vb.filter (λx=>!va.contains x):=gO λx hx=>by
  have hx0:=pb x hx
  have:(x∈um)↔(x∈va):=⟨λh=>by rcases List.mem_append.mp (inA x h) with h | h; exact h; have:=List.mem_singleton.mp h; omega,λh=>both x (List.mem_append.mpr (.inl h)) (List.mem_append.mpr (.inl hx))⟩
  have e2:um.contains x=va.contains x:=by rw [Bool.eq_iff_iff,List.contains_iff_mem,List.contains_iff_mem]; exact this
  show (!um.contains x)=(!va.contains x)
  rw [e2]
 have e0:([(0:Int)].filter λx=>!um.contains x)=[]:=by
  rw [List.filter_cons_of_neg]; rfl
  rw [List.contains_iff_mem.mpr h0]; decide
 rw [List.filter_append,List.filter_append,List.filter_append,e0,List.append_nil,List.append_nil,ea,eb] at hp
 rw [e]
 exact gB ((bt w).trans hp) (bU w)
end L2
namespace L2
open PySem PySem.Spec PyProof.Rows
section
variable {X:Cx}
theorem hU (hc:X.calm=true):cL X (.builtin "min") (λxs H Q=>∃ (p:Addr) (ns:List Int),xs=[.ref p]/\SqL X.K H p (ns.map V.int)/\0<ns.length/\∀ m,m∈ns->(∀ a,a∈ns->m<=a)->Q (.int m) H):=by
 intro pins s σ H xs us Q I r h
 obtain ⟨p,ns,rfl,hS,hne,q⟩:=h
 obtain ⟨u,rfl,ru⟩:=fV r
 cases ru
 obtain ⟨its,rv,hl⟩:=eQ I hS
 have hI₂:IntsAre its ns:=gq rv
 obtain ⟨ys,hys⟩:=hI₂.allInts.items
 have hlY:s.heap.IsList p (intItems ys):=hys ▸ hl
 have eY:ns=ys.toList.map (·.1):=by
  rw [<- nums_intItems,<- hys]; exact Eq.symm (show numsOf its.toArray.toList=ns from hI₂.numsOf)
 have hsz : 0<ys.size:=by rw [eY,List.length_map,Array.length_toList] at hne; exact hne
 refine min_intList (I.ok.hd hc) hlY hsz λv hp tk₁ hv kept=>?_
 obtain ⟨t,rfl⟩:=intItems_at hv
 obtain ⟨h1,h2⟩:=argBest_lt (numAt ys) (ys.size - 1)
 refine ⟨.int _,H,I.kept kept,⟨t,rfl⟩,q _ ?_ λa ha=>?_⟩
 ·rw [numAt_eq,eY]; exact PySem.getD_mem (by rw [List.length_map,Array.length_toList]; omega)
 ·rw [eY] at ha
  obtain ⟨j,hj,rfl⟩:=PySem.mem_getD ha
  rw [List.length_map,Array.length_toList] at hj
  rw [<- numAt_eq]; exact h2 j (by omega)
end
def qU:List D->(D->Prop)->Prop:=λds q=>match ds with
 | [.lst xs]=>∃ ns:List Int,xs=ns.map D.int/\0<ns.length/\∀ m,m∈ns->(∀ a,a∈ns->m<=a)->q (.int m)
 | _=>False
theorem qW {K:PySem.W.Frag}:fW (λxs H Q=>∃ (p:Addr) (ns:List Int),xs=[.ref p]/\SqL K H p (ns.map V.int)/\0<ns.length/\∀ m,m∈ns->(∀ a,a∈ns->m<=a)->Q (.int m) H) qU:=λG H xs ds q Q s p hf k=>by
 unfold qU at hf
 split at hf
 ·obtain ⟨v,rfl,p1⟩:=bi p
  obtain ⟨a,xs,rfl,h1,h2⟩:=aN p1
  obtain ⟨ns,rfl,hn,hq⟩:=hf
  rw [bT h2] at h1
  exact ⟨a,ns,rfl,SqL.of (s _ _ h1),hn,λm hm hx=>k _ _ (hq m hm hx) (bq _)⟩
 ·exact hf.elim
end L2
namespace L2
open PySem
theorem dC {ps:List Int} {as:List Ask} (ha:AsksOk ps as) {k:Int} (h0 : 0<=k) (h1:k<(as.length:Int)):AskOk ps (aT as k):=ha.ok _ (oB (k:=k.toNat) (by omega))
theorem fJ {α:Type} (n j:Nat) (x : α):(List.replicate n x).getD j x=x:=by
 rw [List.getD_eq_getElem?_getD,List.getElem?_replicate]; split <;> rfl
theorem ly {ps:List Int} {as:List Ask} {z:Int} (h0 : 0<=z) (h1:z<(as.length:Int)):atI ((aU ps as).map ae) z=some (ae (aG ps (aT as z))):=by
 refine lA (f:=ae) ?_
 have e:z=((z.toNat:Nat):Int):=by omega
 have h:atI (aU ps as) ((z.toNat:Nat):Int)=some (aG ps (aT as z)):=cP (by unfold aU aT; rw [List.getElem?_map,List.getD_eq_getElem?_getD,List.getElem?_eq_getElem (by omega)]; rfl)
 rw [<- e] at h; exact h
end L2
namespace L2
open PySem PySem.Spec PyProof.Rows
section
variable {X:Cx}
variable {ow:List Bool} {e e2:Expr} {ma mb:ME}
end
end L2
namespace L2
open PySem
end L2
namespace L2
open PySem PySem.Spec PyProof.Rows
section
variable {X:Cx}
end
end L2
namespace L2
open PySem
end L2
namespace L2
open PySem PySem.Spec PyProof.Rows
section
variable {κ:Type} [DecidableEq κ]
end
section
variable {P:Program} {w:World} {H:Hp} {h:Heap} {a:Addr}
end
section
variable {X:Cx} {pins:List (Addr×Obj)} {σ:St} {H:Hp} {s:Shared} {a:Addr} {y v:V} {u r:Value} {o:Option V} {A:Around} {E:Value->Shared->Prop}
end
section
variable {X:Cx} {pins:List (Addr×Obj)} {σ:St} {H:Hp} {s:Shared} {a:Addr} {kvs:List (Key×V)} {k:Key} {u:Value} {A:Around} {E:Value->Shared->Prop}
end
section
variable {X:Cx} {o i e value:Expr} {pos pos' tpos:Pos} {td ty tv:TE}
end
section
variable {X:Cx} {pos:Pos}
end
section
variable {X:Cx} {pins:List (Addr×Obj)} {σ:St} {H:Hp} {s:Shared} {a:Addr} {y d:V} {u r:Value} {o:Option V} {A:Around} {E:Value->Shared->Prop}
end
section
variable {X:Cx} {o e f:Expr} {apos cpos:Pos} {td ty tx:TE}
end
section
variable {X:Cx} {pins:List (Addr×Obj)} {σ:St} {H:Hp} {s:Shared} {a:Addr} {kvs:List (Key×V)} {A:Around} {E:Value->Shared->Prop}
end
section
variable {X:Cx} {pins:List (Addr×Obj)} {σ:St} {H:Hp} {s:Shared} {a:Addr} {y:V} {u:Value} {A:Around} {E:Value->Shared->Prop}
end
section
variable {C:Ctx} {ow:List Bool} {G:Hp} {ρ:DSt} {σ:St} {H:Hp} {pd:List (D×V)} {O:Own}
end
section
variable {X:Cx} {M:Md} {ow:List Bool} {a b c e:Expr} {ma mb mc:ME} {pos:Pos}
end
def ff:D->Nat->Option D
 | .lst ds,c=>ds[c]?
 | .tup ds,c=>ds[c]?
 | .obj _ _ ds,c=>ds[c]?
 | _,_=>none
def putS:D->Nat->D->D
 | .lst ds,c,e=>.lst (ds.set c e)
 | .tup ds,c,e=>.tup (ds.set c e)
 | .obj C ks ds,c,e=>.obj C ks (ds.set c e)
 | d,_,_=>d
def lenD:D->Nat
 | .lst ds=>ds.length
 | .tup ds=>ds.length
 | _=>0
def fS:List Nat->D->Option D
 | [],d=>some d
 | c :: p,d=>match ff d c with
  | some e=>fS p e
  | none=>none
def g6:List Nat->D->D->D
 | [],_,x=>x
 | c :: p,d,x=>match ff d c with
  | some e=>putS d c (g6 p e x)
  | none=>d
def jF (H:Hp) (v:V) (xs:List V):Prop:=∃ b,v = .ref b/\(H b=some (.lst xs)\/H b=some (.tup xs)\/∃ (C dx:Addr) (ks:List Str),H b=some (.ins C dx (ks.zip xs))/\ks.length=xs.length)
theorem jc {ks:List Str}:∀ {xs:List V},ks.length=xs.length->(ks.zip xs).map Prod.snd=xs:=by
 induction ks with
 | nil=>intro xs h; cases xs with
  | nil=>rfl
  | cons x r=>cases h
 | cons k ks ih=>intro xs h; cases xs with
  | nil=>cases h
  | cons x r=>rw [List.zip_cons_cons,List.map_cons,ih (by simpa using h)]
def cj (H:Hp):List Nat->V->V->Prop
 | [],v,u=>v=u
 | c :: p,v,u=>∃ xs w,jF H v xs/\xs[c]? = some w/\cj H p w u
theorem jF.one {H:Hp} {v:V} {xs ys:List V} (h:jF H v xs) (g:jF H v ys):xs=ys:=by
 obtain ⟨b,rfl,h⟩:=h
 obtain ⟨b',e,g⟩:=g
 cases e
 rcases h with h | h | ⟨C,dx,ks,h,l⟩ <;> rcases g with g | g | ⟨C',dx',ks',g,l'⟩
 ·rw [h] at g; cases g; rfl
 ·rw [h] at g; cases g
 ·rw [h] at g; cases g
 ·rw [h] at g; cases g
 ·rw [h] at g; cases g; rfl
 ·rw [h] at g; cases g
 ·rw [h] at g; cases g
 ·rw [h] at g; cases g
 ·rw [h] at g
  have e:ks.zip xs=ks'.zip ys:=by injection (Option.some.inj g)
  rw [<- jc l,<- jc l',e]
theorem jF.mono {H H':Hp} {v:V} {xs:List V} (s:aB H H') (h:jF H v xs):jF H' v xs:=by
 obtain ⟨b,e,h⟩:=h
 refine ⟨b,e,?_⟩
 rcases h with h | h | ⟨C,dx,ks,h,l⟩
 ·exact .inl (s _ _ h)
 ·exact .inr (.inl (s _ _ h))
 ·exact .inr (.inr ⟨C,dx,ks,s _ _ h,l⟩)
theorem cj.mono {H H':Hp} (s:aB H H'):∀ {p:List Nat} {v u:V},cj H p v u->cj H' p v u
 | [],_,_,h=>h
 | _ :: _,_,_,⟨xs,w,h1,h2,h3⟩=>⟨xs,w,h1.mono s,h2,h3.mono s⟩
theorem cj.one {H:Hp}:∀ {p:List Nat} {v u u':V},cj H p v u->cj H p v u'->u=u'
 | [],_,_,_,h,g=>h.symm.trans g
 | _ :: _,_,_,_,⟨xs,w,h1,h2,h3⟩,⟨ys,w',g1,g2,g3⟩=>by
  cases h1.one g1
  rw [h2] at g2; cases g2
  exact h3.one g3
theorem cj.snoc {H:Hp} {c:Nat} {xs:List V} {w:V}:∀ {p:List Nat} {v u:V},cj H p v u->jF H u xs->xs[c]? = some w->cj H (p++[c]) v w
 | [],v,u,h,g,e=>by cases h; exact ⟨xs,w,g,e,rfl⟩
 | _ :: _,_,_,⟨ys,w',h1,h2,h3⟩,g,e=>⟨ys,w',h1,h2,h3.snoc g e⟩
theorem h8 {c:Nat}:∀ {p:List Nat} {d e:D},fS p d=some e->fS (p++[c]) d=ff e c
 | [],d,e,h=>by cases h; show (match ff d c with | some e=>fS [] e | none=>none)=_; cases ff d c <;> rfl
 | b :: p,d,e,h=>by
  show (match ff d b with | some e=>fS (p++[c]) e | none=>none)=_
  change (match ff d b with | some e=>fS p e | none=>none)=_ at h
  cases q:ff d b with
  | none=>rw [q] at h; cases h
  | some e'=>rw [q] at h; exact h8 h
theorem Rep.walk {H:Hp}:∀ {p:List Nat} {d e:D} {v:V},Rep H d v->fS p d=some e->∃ u,cj H p v u/\Rep H e u
 | [],d,e,v,h,g=>by cases g; exact ⟨v,rfl,h⟩
 | c :: p,d,e,v,h,g=>by
  change (match ff d c with | some e=>fS p e | none=>none)=_ at g
  cases q:ff d c with
  | none=>rw [q] at g; cases g
  | some d1 =>
   rw [q] at g
   cases d with
   | lst ds =>
    rw [Rep] at h
    obtain ⟨a,xs,rfl,h1,h2⟩:=h
    obtain ⟨w,d',e1,e2,e3⟩:=d_ (r:=c) h2 (List.getElem?_eq_some_iff.mp q).1
    rw [show ds[c]? = some d1 from q] at e2; cases e2
    obtain ⟨u,k1,k2⟩:=Rep.walk e3 g
    exact ⟨u,⟨xs,w,⟨a,rfl,.inl h1⟩,e1,k1⟩,k2⟩
   | tup ds =>
    rw [Rep] at h
    obtain ⟨a,xs,rfl,h1,h2⟩:=h
    obtain ⟨w,d',e1,e2,e3⟩:=d_ (r:=c) h2 (List.getElem?_eq_some_iff.mp q).1
    rw [show ds[c]? = some d1 from q] at e2; cases e2
    obtain ⟨u,k1,k2⟩:=Rep.walk e3 g
    exact ⟨u,⟨xs,w,⟨a,rfl,.inr (.inl h1)⟩,e1,k1⟩,k2⟩
   | obj C ks ds =>
    rw [Rep] at h
    obtain ⟨a,dx,xs,rfl,h1,hl,h2⟩:=h
    obtain ⟨w,d',e1,e2,e3⟩:=d_ (r:=c) h2 (List.getElem?_eq_some_iff.mp q).1
    rw [show ds[c]? = some d1 from q] at e2; cases e2
    obtain ⟨u,k1,k2⟩:=Rep.walk e3 g
    exact ⟨u,⟨xs,w,⟨a,rfl,.inr (.inr ⟨C,dx,ks,h1,hl.trans h2.length.symm⟩)⟩,e1,k1⟩,k2⟩
   | _=>cases q
theorem Seps.repl {G H H':Hp} {O:Own} {i:Nat} {d':D}:∀ {es:List D} {k0:Nat} {π:List Nat} {ys:List V} {c:Nat} {u:V},Seps G H O i es k0 π ys->ys[c]? = some u->Sep G H' O i d' ((k0 + c) :: π) u ->
 (∀ (j:Nat) d v,j≠c->Sep G H O i d ((k0 + j) :: π) v->Sep G H' O i d ((k0 + j) :: π) v)->Seps G H' O i (es.set c d') k0 π ys
 | [],k0,π,ys,c,u,h,e,_,_=>by rw [Seps] at h; subst h; simp at e
 | d :: es,k0,π,ys,0,u,h,e,h1,h2=>by
  rw [Seps] at h
  obtain ⟨w,ws,rfl,w1,w2⟩:=h
  simp at e; subst e
  rw [List.set_cons_zero,Seps]
  refine ⟨_,ws,rfl,by simpa using h1,?_⟩
  have all:∀ (es:List D) (k:Nat) (ws:List V),k0<k->Seps G H O i es k π ws->Seps G H' O i es k π ws:=by
   intro es
   induction es with
   | nil=>intro k ws _ h; rw [Seps] at *; exact h
   | cons d es ih =>
    intro k ws hk h
    rw [Seps] at *
    obtain ⟨v,vs,rfl,v1,v2⟩:=h
    refine ⟨v,vs,rfl,?_,ih (k + 1) vs (by omega) v2⟩
    have:=h2 (k - k0) d v (by omega)
    rw [show k0 + (k - k0)=k by omega] at this
    exact this v1
  exact all es (k0 + 1) ws (by omega) w2
 | d :: es,k0,π,ys,c + 1,u,h,e,h1,h2=>by
  rw [Seps] at h
  obtain ⟨w,ws,rfl,w1,w2⟩:=h
  rw [List.set_cons_succ,Seps]
  refine ⟨w,ws,rfl,by have:=h2 0 d w (by omega); simpa using this (by simpa using w1),Seps.repl w2 (by simpa using e) ?_ ?_⟩
  ·rw [show k0 + 1 + c=k0 + (c + 1) by omega]; exact h1
  ·intro j d v hj
   rw [show k0 + 1 + j=k0 + (j + 1) by omega]
   exact h2 (j + 1) d v (by omega)
theorem Sep.focus {G H:Hp} {O:Own} {i:Nat} (gh:aB G H) (og:∀ a l,O a=some l->G a=none):∀ {p:List Nat} {d:D} {π:List Nat} {v:V} {ds:List D},Sep G H O i d π v->fS p d=some (.lst ds) ->
 ∃ a xs,cj H p v (.ref a)/\O a=some (i,p.reverse++π)/\H a=some (.lst xs)/\Seps G H O i ds 0 (p.reverse++π) xs /\
  ∀ ds' xs',Seps G H O i ds' 0 (p.reverse++π) xs'->Sep G (upd H a (.lst xs')) O i (g6 p d (.lst ds')) π v
 | [],d,π,v,ds,h,g=>by
  cases g
  rw [Sep] at h
  obtain ⟨a,xs,rfl,h1,h2,h3⟩:=h
  refine ⟨a,xs,rfl,h1,h2,h3,λds' xs' h'=>?_⟩
  show Sep G _ O i (.lst ds') π _
  rw [Sep]
  refine ⟨a,xs',rfl,h1,ay,h'.keep (λ_ _ z=>z) λb τ hτ q=>⟨q,ah λz=>?_⟩⟩
  rw [z,h1] at q
  have:=congrArg List.length (Prod.mk.inj (Option.some.inj q)).2
  simp at this
  exact hτ this
 | c :: p,d,π,v,ds,h,g=>by
  change (match ff d c with | some e=>fS p e | none=>none)=_ at g
  cases q:ff d c with
  | none=>rw [q] at g; cases g
  | some d1 =>
   rw [q] at g
   have other:∀ (a b:Addr) (j:Nat) (τ:List Nat),O a=some (i,p.reverse++c :: π)->O b=some (i,τ++j :: π)->j≠c->b≠a:=λa b j τ ha hb hj z=>by
    rw [z,ha] at hb
    have e:=congrArg List.reverse (Prod.mk.inj (Option.some.inj hb)).2
    simp at e
    exact hj e.1.symm
   have lab:(c :: p).reverse++π=p.reverse++c :: π:=by simp
   have hset:∀ x,g6 (c :: p) d x=putS d c (g6 p d1 x):=λx=>by
    show (match ff d c with | some e=>putS d c (g6 p e x) | none=>d)=_
    rw [q]
   cases d with
   | lst es =>
    rw [Sep] at h
    obtain ⟨a0,ys,rfl,h1,h2,h3⟩:=h
    obtain ⟨w,e1,e2⟩:=h3.at (j:=c) q
    rw [Nat.zero_add] at e2
    obtain ⟨a,xs,k1,k2,k3,k4,k5⟩:=Sep.focus gh og e2 g
    have n0:a0≠a:=λz=>by
     rw [<- z,h1] at k2
     have:=congrArg List.length (Prod.mk.inj (Option.some.inj k2)).2
     simp at this
     omega
    refine ⟨a,xs,⟨ys,w,⟨a0,rfl,.inl h2⟩,e1,k1⟩,by rw [lab]; exact k2,k3,by rw [lab]; exact k4,λds' xs' h'=>?_⟩
    rw [hset]
    show Sep G _ O i (.lst (es.set c _)) π _
    rw [Sep]
    refine ⟨a0,ys,rfl,h1,by rw [ah n0]; exact h2,?_⟩
    refine h3.repl e1 (by rw [Nat.zero_add]; exact k5 ds' xs' (by rw [lab] at h'; exact h')) λj d v hj s=>?_
    rw [Nat.zero_add] at s ⊢
    exact s.keep (λ_ _ z=>z) λb τ qb=>⟨qb,ah (other a b j τ k2 qb hj)⟩
   | tup es =>
    rw [Sep] at h
    obtain ⟨a0,ys,rfl,h1,h3⟩:=h
    obtain ⟨w,e1,e2⟩:=h3.at (j:=c) q
    rw [Nat.zero_add] at e2
    obtain ⟨a,xs,k1,k2,k3,k4,k5⟩:=Sep.focus gh og e2 g
    refine ⟨a,xs,⟨ys,w,⟨a0,rfl,.inr (.inl (gh _ _ h1))⟩,e1,k1⟩,by rw [lab]; exact k2,k3,by rw [lab]; exact k4,λds' xs' h'=>?_⟩
    rw [hset]
    show Sep G _ O i (.tup (es.set c _)) π _
    rw [Sep]
    refine ⟨a0,ys,rfl,h1,?_⟩
    refine h3.repl e1 (by rw [Nat.zero_add]; exact k5 ds' xs' (by rw [lab] at h'; exact h')) λj d v hj s=>?_
    rw [Nat.zero_add] at s ⊢
    exact s.keep (λ_ _ z=>z) λb τ qb=>⟨qb,ah (other a b j τ k2 qb hj)⟩
   | obj Cc ks es =>
    rw [Sep] at h
    obtain ⟨a0,dx,ys,rfl,h1,h2,hl,h3⟩:=h
    obtain ⟨w,e1,e2⟩:=h3.at (j:=c) q
    rw [Nat.zero_add] at e2
    obtain ⟨a,xs,k1,k2,k3,k4,k5⟩:=Sep.focus gh og e2 g
    have n0:a0≠a:=λz=>by
     rw [<- z,h1] at k2
     have:=congrArg List.length (Prod.mk.inj (Option.some.inj k2)).2
     simp at this
     omega
    refine ⟨a,xs,⟨ys,w,⟨a0,rfl,.inr (.inr ⟨Cc,dx,ks,h2,hl.trans h3.length.symm⟩)⟩,e1,k1⟩,by rw [lab]; exact k2,k3,by rw [lab]; exact k4,λds' xs' h'=>?_⟩
    rw [hset]
    show Sep G _ O i (.obj Cc ks (es.set c _)) π _
    rw [Sep]
    refine ⟨a0,dx,ys,rfl,h1,by rw [ah n0]; exact h2,by rw [List.length_set]; exact hl,?_⟩
    refine h3.repl e1 (by rw [Nat.zero_add]; exact k5 ds' xs' (by rw [lab] at h'; exact h')) λj d v hj s=>?_
    rw [Nat.zero_add] at s ⊢
    exact s.keep (λ_ _ z=>z) λb τ qb=>⟨qb,ah (other a b j τ k2 qb hj)⟩
   | _=>cases q
section
variable {C:Ctx} {ow:List Bool} {G:Hp} {ρ:DSt} {σ:St} {H:Hp} {pd:List (D×V)} {O:Own}
theorem RO.writeP (h:RO C ow G ρ σ H pd O) {i:Nat} {p:List Nat} {d:D} {ds:List D} (e : ρ[i]? = some (some d)) (hp:fS p d=some (.lst ds)) (hi:ow[i]? = some true) :
 ∃ v a xs,σ[i]? = some (some v)/\cj H p v (.ref a)/\H a=some (.lst xs)/\Seps G H O (2 * i) ds 0 p.reverse xs /\
  ∀ ds' xs',Seps G H O (2 * i) ds' 0 p.reverse xs'->RO C ow G (ρ.set i (some (g6 p d (.lst ds')))) σ (upd H a (.lst xs')) pd O:=by
 obtain ⟨v,hv,s⟩:=h.sl i _ e
 rw [if_pos hi] at s
 obtain ⟨a,xs,k1,k2,k3,k4,k5⟩:=Sep.focus h.gh (λa l e=>(h.og a l e).1) s hp
 rw [List.append_nil] at k2 k4 k5
 refine ⟨v,a,xs,hv,k1,k3,k4,λds' xs' hs'=>?_⟩
 obtain ⟨g0,_,nw⟩:=h.og a _ k2
 have ne:∀ b l π,O b=some (l,π)->l≠2 * i->b≠a:=λb l π q n z=>by
  rw [z,k2] at q
  exact n (Prod.mk.inj (Option.some.inj q)).1.symm
 refine ⟨by simp [h.len],?_,h.g0,h.gn,?_,h.cok,?_,?_,?_,h.mp,?_,?_,h.np⟩
 ·intro b o q
  rw [ah (λz=>by rw [z,g0] at q; cases q)]; exact h.gh _ _ q
 ·intro b l q
  obtain ⟨q1,⟨ys,q2⟩,q3⟩:=h.og b l q
  refine ⟨q1,?_,q3⟩
  by_cases z:b=a
  ·subst z; exact ⟨.inl _,ay⟩
  ·rw [ah z]; exact ⟨ys,q2⟩
 ·intro b o q n t
  by_cases z:b=a
  ·subst z
   rcases nw with nw | ⟨_,nw⟩
   ·rw [nw] at q; cases q
   ·rw [nw] at n; cases n
  ·rw [ah z]; exact h.fr b o q n t
 ·intro b ps q e
  by_cases z:b=a
  ·subst z; rw [ay] at e; cases e
  ·rw [ah z] at e; exact h.ft b ps q e
 ·intro b q
  by_cases z:b=a
  ·subst z; rw [ay] at q; cases q
  ·rw [ah z] at q; exact h.al b q
 ·intro j u q
  rcases dq q with ⟨rfl,z⟩ | ⟨z,q'⟩
  ·cases z
   exact ⟨v,hv,by rw [if_pos hi]; exact k5 ds' xs' hs'⟩
  ·obtain ⟨w,h1,h2⟩:=h.sl j u q'
   refine ⟨w,h1,?_⟩
   split at h2
   ·rename_i c; rw [if_pos c]; exact h2.keep (λ_ _ z=>z) λb τ q=>⟨q,ah (ne b _ _ q (by omega))⟩
   ·rename_i c; rw [if_neg c]; exact h2
 ·exact bG.keep (λ_ _ z=>z) (λb j π hj q=>⟨q,ah (ne b _ _ q (λz=>ca z.symm))⟩) h.pn
end
abbrev MN0:=DSt->(Int->Prop)->Prop
def SN0 (ow:List Bool) (t:TE) (m:MN0):Prop:=∀ (C:Ctx) (G:Hp) (ρ:DSt) (σ:St) (H:Hp) (pd:List (D×V)) (q:Int->Prop) (Q:VK),R C ow G ρ σ H pd->m ρ q->(∀ n,q n->Q (.int n) H)->t σ H Q
structure QN0 (X:Cx) (ow:List Bool) (e:Expr) (m:MN0):Prop where
 ex:∃ t,PE X e t/\SN0 ow t m
section
variable {X:Cx} {ow:List Bool} {a b e:Expr} {pos:Pos} {ma mb:MN0}
theorem eM {i j}:QN0 X ow (.Constant (.int i) j pos) (λ_ q=>q i):=⟨_,iE,λC G ρ σ H pd q Q r h k=>k _ h⟩
theorem q_ (i:Nat) {x:Str} (hs:ow[i]?≠some true:=by decide) (hN:X.N[i]? = some x:=by rfl) (hv:Vis X.env.scope x:=by first | exact Or.inl rfl | exact Or.inr (Or.inl rfl) | exact Or.inr (Or.inr rfl)) (hd:(x == ("__debug__":Str))=false:=by decide)
 (hcd:(x == ("__classdict__":Str))=false:=by decide):QN0 X ow (.Name x pos) (λρ q=>∃ n,ρ[i]? = some (some (.int n))/\q n):=⟨_,cF hN hv hd hcd,λC G ρ σ H pd q Q r h k=>by
 obtain ⟨n,e,hq⟩:=h
 obtain ⟨O,ro⟩:=r
 obtain ⟨v,h1,h2⟩:=ro.sl i _ e
 rw [if_neg hs] at h2
 refine ⟨v,h1,?_⟩
 rw [ax h2]; exact k n hq⟩
theorem qz_op {op:Operator} {c:Int->Int->Prop} {g:Int->Int->Int} (ho:OpR X (binaryOp op) (rI c λi j=>.int (g i j))) (ha:QN0 X ow a ma) (hb:QN0 X ow b mb):QN0 X ow (.BinOp a op b pos) (λρ q=>ma ρ λi=>mb ρ λj=>c i j/\q (g i j)):=by
 obtain ⟨ta,pa,sa⟩:=ha; obtain ⟨tb,pb,sb⟩:=hb
 exact ⟨_,kR ho pa pb,λC G ρ σ H pd q Q r h k=>sa C G ρ σ H pd _ _ r h λi hi=>sb C G ρ σ H pd _ _ r hi λj hj=>⟨i,j,rfl,rfl,hj.1,k _ hj.2⟩⟩
theorem rq {c:Expr} {i:Int} {j p2}:QN0 X ow (.UnaryOp .USub (.Constant (.int i) j p2) pos) (λ_ q=>q (-i)):=⟨_,qG mM iE,λC G ρ σ H pd q Q r h k=>⟨i,rfl,k _ h⟩⟩
end
abbrev MPt:=DSt->(List Nat->D->Prop)->Prop
def SPt (ow:List Bool) (i:Nat) (t:TE) (m:MPt):Prop:=∀ (C:Ctx) (G:Hp) (ρ:DSt) (σ:St) (H:Hp) (pd:List (D×V)) (O:Own) (q:List Nat->D->Prop) (Q:VK),RO C ow G ρ σ H pd O->m ρ q ->
 (∀ p d0 e v0 v,q p e->ρ[i]? = some (some d0)->fS p d0=some e->σ[i]? = some (some v0)->cj H p v0 v->Q v H)->t σ H Q
structure QPt (X:Cx) (ow:List Bool) (i:Nat) (e:Expr) (m:MPt):Prop where
 ex:∃ t,PE X e t/\SPt ow i t m
theorem RO.walk {C:Ctx} {ow:List Bool} {G:Hp} {ρ:DSt} {σ:St} {H:Hp} {pd:List (D×V)} {O:Own} (h:RO C ow G ρ σ H pd O) {i:Nat} {p:List Nat} {d e:D} (e1 : ρ[i]? = some (some d)) (hp:fS p d=some e) :
 ∃ v u,σ[i]? = some (some v)/\cj H p v u/\∃ G',aB G' H/\cj G' p v u/\Rep G' e u:=by
 obtain ⟨v,hv,_⟩:=h.sl i _ e1
 have r:=h.enter [i]
 obtain ⟨v',hv',s⟩:=r.sl i _ e1
 rw [hv] at hv'; cases hv'
 rw [if_neg (λz=>by rw [cz] at z; simp at z)] at s
 obtain ⟨u,k1,k2⟩:=Rep.walk s hp
 exact ⟨v,u,hv,k1.mono r.gh,_,r.gh,k1,k2⟩
section
variable {X:Cx} {M:Md} {ow:List Bool} {i:Nat} {a b e:Expr} {pos:Pos} {mp:MPt} {mz:MN0} {ma:ME}
theorem gQ {x:Str} (hN:X.N[i]? = some x:=by rfl) (hv:Vis X.env.scope x:=by first | exact Or.inl rfl | exact Or.inr (Or.inl rfl) | exact Or.inr (Or.inr rfl)) (hd:(x == ("__debug__":Str))=false:=by decide)
 (hcd:(x == ("__classdict__":Str))=false:=by decide):QPt X ow i (.Name x pos) (λρ q=>∃ d,ρ[i]? = some (some d)/\q [] d):=⟨_,cF hN hv hd hcd,λC G ρ σ H pd O q Q r h k=>by
 obtain ⟨d,e,hq⟩:=h
 obtain ⟨v,h1,_⟩:=r.sl i _ e
 exact ⟨v,h1,k [] d d v v hq e rfl h1 rfl⟩⟩
def mPIx (mp:MPt) (mz:MN0):MPt:=λρ q=>mp ρ λp d=>mz ρ λn=>∃ c e,ixN (lenD d) n=some c/\ff d c=some e/\q (p++[c]) e
theorem gN (ha:QPt X ow i a mp) (hb:QN0 X ow b mz) (hs:iB b:=by exact λ_ _=>rfl):QPt X ow i (.Subscript a b pos) (mPIx mp mz):=by
 obtain ⟨ta,pa,sa⟩:=ha; obtain ⟨tb,pb,sb⟩:=hb
 refine ⟨_,qH aw pa pb hs,λC G ρ σ H pd O q Q r h k=>?_⟩
 refine sa C G ρ σ H pd O _ _ r h λp d0 d v0 v hq e1 e2 e3 wk=>?_
 refine sb C G ρ σ H pd _ _ ⟨O,r⟩ hq λn hn=>?_
 obtain ⟨c,e,h1,h2,hq⟩:=hn
 obtain ⟨v',u,g1,g2,G',sG,g3,g4⟩:=r.walk e1 e2
 rw [e3] at g1; cases g1
 obtain rfl:=wk.one g2
 have hx:∃ bb xs w,v=V.ref bb/\(H bb=some (.lst xs)\/H bb=some (.tup xs))/\xs.length=lenD d/\xs[c]? = some w:=by
  cases d with
  | lst ds =>
   rw [Rep] at g4
   obtain ⟨bb,xs,rfl,f1,f2⟩:=g4
   obtain ⟨w,d',w1,w2,w3⟩:=d_ (r:=c) f2 (List.getElem?_eq_some_iff.mp h2).1
   exact ⟨bb,xs,w,rfl,.inl (sG _ _ f1),f2.length,w1⟩
  | tup ds =>
   rw [Rep] at g4
   obtain ⟨bb,xs,rfl,f1,f2⟩:=g4
   obtain ⟨w,d',w1,w2,w3⟩:=d_ (r:=c) f2 (List.getElem?_eq_some_iff.mp h2).1
   exact ⟨bb,xs,w,rfl,.inr (sG _ _ f1),f2.length,w1⟩
  | obj C ks ds=>change ixN 0 n=some c at h1; unfold ixN at h1; exfalso; split at h1 <;> split at h1 <;> first | omega | cases h1
  | _=>cases h2
 obtain ⟨bb,xs,w,rfl,f1,f2,f3⟩:=hx
 have at1:atI xs n=some w:=by unfold atI; rw [f2,h1]; exact f3
 have fin:Q w H:=k (p++[c]) d0 e v0 w hq e1 (by rw [h8 e2]; exact h2) e3 (wk.snoc ⟨bb,rfl,f1.elim .inl λz=>.inr (.inl z)⟩ f3)
 rcases f1 with f1 | f1
 ·exact .inl ⟨bb,xs,n,w,rfl,rfl,SqL.of f1,at1,fin⟩
 ·exact .inr (.inl ⟨bb,xs,n,w,rfl,rfl,SqT.of f1,at1,fin⟩)
def mSetP (i:Nat) (mp:MPt) (mz:MN0) (m:ME):MS:=λn ρ=>m ρ λd ρ1=>imm d=true/\mp ρ1 λp e=>mz ρ1 λj=>∃ d0 ds c,e = .lst ds/\ρ1[i]? = some (some d0)/\ixN ds.length j=some c/\n.nx (ρ1.set i (some (g6 p d0 (.lst (ds.set c d)))))
theorem qd {spos:Pos} (he:QE X M.ow e ma) (hp:QPt X M.ow i a mp) (hz:QN0 X M.ow b mz) (ho:M.ow[i]? = some true:=by decide)
 (ha:∀ v,assign (.Subscript a b spos) X.env v=(do
  let ov <- holding [v] (eval a X.env)
  let iv <- holding [v,ov] (eval b X.env)
  standAt spos
  holding [v,ov,iv] (setItem ov iv v)
  release [v,ov,iv] []):=by intro _; rfl)
 (hs:swapsWithSole [.Subscript a b spos] e pos.line X.env=pure false:=by rfl) (hw:swappedStores [.Subscript a b spos] e X.env=pure none:=by rfl)
 (h1:(assignEach [.Subscript a b spos] X.env).map (·.2)=[assign (.Subscript a b spos) X.env]:=by rfl) :
 QS X M (.Assign [.Subscript a b spos] e pos) (mSetP i mp mz ma):=by
 obtain ⟨t,p,s⟩:=he; obtain ⟨t1,p1,s1⟩:=hp; obtain ⟨t2,p2,s2⟩:=hz
 refine ⟨_,iA p (nH p1 p2 gt ha) hs hw h1,λC G ρ σ H n D hm hn r h k=>s C G ρ σ H [] _ _ r h λd ρ' v G' H' hq z kp r' pv=>?_⟩
 obtain ⟨hi,hq⟩:=hq
 obtain ⟨O,ro⟩:=r'
 refine s1 C G' ρ' σ H' [] O _ _ ro hq λp d0 e v0 u hq e1 e2 e3 wk=>?_
 refine s2 C G' ρ' σ H' [] _ _ ⟨O,ro⟩ hq λj hj=>?_
 obtain ⟨d0',ds,c,rfl,e1',hx,hn⟩:=hj
 rw [e1] at e1'; cases e1'
 obtain ⟨v1,a1,xs,g1,g2,g3,g4,g5⟩:=ro.writeP e1 e2 ho
 rw [e3] at g1; cases g1
 cases wk.one g2
 refine ⟨a1,xs,j,c,rfl,rfl,g3,by rw [g4.length]; exact hx,?_⟩
 exact k.nx _ _ G' _ hn z ⟨O,g5 _ _ (g4.set (by rw [Nat.zero_add]; exact pv.sep d _ v hi))⟩
def mAppP (i:Nat) (mp:MPt) (m:ME):MS:=λn ρ=>mp ρ λp e=>∃ d0 ds,e = .lst ds/\ρ[i]? = some (some d0)/\m ρ λd ρ1=>imm d=true/\ds.length<1000/\n.nx (ρ1.set i (some (g6 p d0 (.lst (ds++[d])))))
theorem kT {apos cpos:Pos} (hp:QPt X M.ow i a mp) (he:QE X (bor [i] M.ow) e ma) (ho:M.ow[i]? = some true:=by decide)
 (hbase:attributeBase a "append" X.env (eval a X.env)=eval a X.env:=by rfl)
 (hfew:((backTo cpos (starEach [e] X.env)).all (λx=>!x.1)&&(backToKw cpos (keywordEach [] X.env)).all (λx=>x.1.isSome)
  && decide ([e].length + ([]:List Keyword).length + (if ([]:List Keyword).isEmpty then 0 else 1)<30))=true:=by rfl)
 (hline:(apos.endLine == cpos.line)=true:=by rfl) (hst:starEach [e] X.env=[(false,eval e X.env)]:=by rfl)
 (hs:swapsWith (.Call (.Attribute a "append" apos) [e] [] cpos) none pos.line X.env=pure false:=by rfl) :
 QS X M (.Expr (.Call (.Attribute a "append" apos) [e] [] cpos) pos) (mAppP i mp ma):=by
 obtain ⟨t,p,s⟩:=he; obtain ⟨t1,p1,s1⟩:=hp
 refine ⟨_,dz (kE PySem.F.plainAttrs_list PySem.F.slot_list_append PySem.F.type_list_append ix p1 (bC p dl hst) hbase hfew hline hst (by rfl)) hs,λC G ρ σ H n D hm hn r h k=>?_⟩
 obtain ⟨O,ro⟩:=r
 refine s1 C G ρ σ H [] O _ _ ro h λp d0 e v0 u hq e1 e2 e3 wk=>?_
 obtain ⟨d0',ds,rfl,e1',hq⟩:=hq
 rw [e1] at e1'; cases e1'
 have rb:=ro.enter [i]
 obtain ⟨v',hv',sb⟩:=rb.sl i _ e1
 rw [e3] at hv'; cases hv'
 rw [if_neg (λz=>by rw [cz] at z; simp at z)] at sb
 obtain ⟨u',k1,k2⟩:=Rep.walk sb e2
 cases (k1.mono rb.gh).one wk
 rw [Rep] at k2
 obtain ⟨a1,xs1,rfl,f1,f2⟩:=k2
 refine ⟨.inl ⟨rfl,xs1,SqL.of (rb.gh _ _ f1)⟩,?_⟩
 refine s _ _ ρ σ H [] _ _ ⟨_,rb⟩ hq λd ρ' v G' H' hq z kp r' pv=>?_
 obtain ⟨O',r'⟩:=r'
 obtain ⟨r2,z2,ts⟩:=ro.leave r' kp
 have ei : ρ'[i]? = some (some d0):=by rw [kp i (λz=>by rw [cz] at z; simp at z)]; exact e1
 obtain ⟨v1,a2,xs2,g1,g2,g3,g4,g5⟩:=r2.writeP ei e2 ho
 rw [e3] at g1; cases g1
 have k3:cj H' p v0 (.ref a1):=(k1.mono z).mono r'.gh
 cases k3.one g2
 refine ⟨a1,xs2,v,rfl,rfl,g3,by rw [g4.length]; exact bY (Nat.le_of_lt hq.2.1),?_⟩
 exact k.nx _ _ _ _ hq.2.2 z2 ⟨_,g5 _ _ (g4.snoc (by rw [Nat.zero_add]; exact (pv.imms ts d v hq.1).sep d _ v hq.1))⟩
def mClrP (i:Nat) (mp:MPt):MS:=λn ρ=>mp ρ λp e=>∃ d0 ds,e = .lst ds/\ρ[i]? = some (some d0)/\n.nx (ρ.set i (some (g6 p d0 (.lst []))))
theorem pQ {apos cpos:Pos} (hp:QPt X M.ow i a mp) (ho:M.ow[i]? = some true:=by decide)
 (hbase:attributeBase a "clear" X.env (eval a X.env)=eval a X.env:=by rfl) (hline:(apos.endLine == cpos.line)=true:=by rfl)
 (hs:swapsWith (.Call (.Attribute a "clear" apos) [] [] cpos) none pos.line X.env=pure false:=by rfl) :
 QS X M (.Expr (.Call (.Attribute a "clear" apos) [] [] cpos) pos) (mClrP i mp):=by
 obtain ⟨t1,p1,s1⟩:=hp
 refine ⟨_,dz (pq PySem.F.plainAttrs_list PySem.F.slot_list_clear PySem.F.type_list_clear n5 p1 hbase hline) hs,λC G ρ σ H n D hm hn r h k=>?_⟩
 obtain ⟨O,ro⟩:=r
 refine s1 C G ρ σ H [] O _ _ ro h λp d0 e v0 u hq e1 e2 e3 wk=>?_
 obtain ⟨d0',ds,rfl,e1',hq⟩:=hq
 rw [e1] at e1'; cases e1'
 obtain ⟨v1,a1,xs,g1,g2,g3,g4,g5⟩:=ro.writeP e1 e2 ho
 rw [e3] at g1; cases g1
 cases wk.one g2
 exact ⟨.inl ⟨rfl,xs,SqL.of g3⟩,a1,xs,rfl,rfl,g3,k.nx _ _ G _ hq (aB.refl _) ⟨O,g5 [] [] (by rw [Seps])⟩⟩
theorem o9 {G:Hp}:∀ {ds:List D} {xs:List V},Reps G ds xs->Reps G ds.reverse xs.reverse:=by
 intro ds
 induction ds with
 | nil=>intro xs h; rw [Reps] at h; subst h; exact bj
 | cons d ds ih =>
  intro xs h
  rw [Reps] at h
  obtain ⟨v,vs,rfl,h1,h2⟩:=h
  rw [List.reverse_cons,List.reverse_cons]
  have app:∀ {es:List D} {ys:List V},Reps G es ys->Reps G (es++[d]) (ys++[v]):=by
   intro es
   induction es with
   | nil=>intro ys h; rw [Reps] at h; subst h; exact bc h1 bj
   | cons e es ih=>intro ys h; rw [Reps] at h; obtain ⟨u,us,rfl,k1,k2⟩:=h; exact bc k1 (ih k2)
  exact app (ih h2)
def mRevP (i:Nat) (mp:MPt):MS:=λn ρ=>mp ρ λp e=>∃ d0 ds,e = .lst ds/\imms ds=true/\ρ[i]? = some (some d0)/\n.nx (ρ.set i (some (g6 p d0 (.lst ds.reverse))))
theorem pJ {apos cpos:Pos} (hp:QPt X M.ow i a mp) (ho:M.ow[i]? = some true:=by decide)
 (hbase:attributeBase a "reverse" X.env (eval a X.env)=eval a X.env:=by rfl) (hline:(apos.endLine == cpos.line)=true:=by rfl)
 (hs:swapsWith (.Call (.Attribute a "reverse" apos) [] [] cpos) none pos.line X.env=pure false:=by rfl) :
 QS X M (.Expr (.Call (.Attribute a "reverse" apos) [] [] cpos) pos) (mRevP i mp):=by
 obtain ⟨t1,p1,s1⟩:=hp
 refine ⟨_,dz (pq PySem.F.plainAttrs_list PySem.F.slot_list_reverse PySem.F.type_list_reverse jN p1 hbase hline) hs,λC G ρ σ H n D hm hn r h k=>?_⟩
 obtain ⟨O,ro⟩:=r
 refine s1 C G ρ σ H [] O _ _ ro h λp d0 e v0 u hq e1 e2 e3 wk=>?_
 obtain ⟨d0',ds,rfl,hi,e1',hq⟩:=hq
 rw [e1] at e1'; cases e1'
 obtain ⟨v1,a1,xs,g1,g2,g3,g4,g5⟩:=ro.writeP e1 e2 ho
 rw [e3] at g1; cases g1
 cases wk.one g2
 have rv:=o9 (g4.imm ds 0 _ xs hi)
 exact ⟨.inl ⟨rfl,xs,SqL.of g3⟩,a1,xs,rfl,rfl,g3,k.nx _ _ G _ hq (aB.refl _) ⟨O,g5 _ _ (rv.sep _ 0 _ _ (gI hi))⟩⟩
end
section
variable {X:Cx} {M:Md} {i:Nat} {pos:Pos} {mg:MG} {m:MS}
def qF (i:Nat) (g:MG) (mb:MS):MS:=λn ρ=>match ρ[i]? with
 | some (some (.lst ds))=>forD g mb n ds (ρ.set i none)
 | _=>False
theorem qC {x:Str} {npos:Pos} {tg:Expr} {body:List Stmt} (hp:PassesOwn (model X.prog X.w) X.A X.env X.xe) (hc:X.calm=true) (hN:X.N[i]? = some x) (hg:QG X M tg mg) (hb:QSs X M body m)
 (ho:M.ow[i]? = some true:=by decide) (hu:M.mu[i]?≠some true:=by decide)
 (hv:Vis X.env.scope x:=by first | exact Or.inl rfl | exact Or.inr (Or.inl rfl) | exact Or.inr (Or.inr rfl)) (hd:(x == ("__debug__":Str))=false:=by decide) (hcd:(x == ("__classdict__":Str))=false:=by decide)
 (hs:∀ z,foldedSetIterable (.Name x npos) X.env z=pure z:=by intro _; rfl):QS X M (.For tg (.Name x npos) body [] pos) (qF i mg m):=by
 obtain ⟨tg',pg,sg⟩:=hg; obtain ⟨tb,pb,sb⟩:=hb
 refine ⟨_,mL hp hc (ky (cF hN hv hd hcd)) pg pb hs,λC G ρ σ H n D hm hn r h k=>?_⟩
 unfold qF at h
 split at h
 ·rename_i ds e
  obtain ⟨O,ro⟩:=r
  obtain ⟨v,hv,O1,r1⟩:=ro.move e ho (hm.no hu)
  obtain ⟨G0,z0,r0,p0⟩:=r1.share (by rw [hn]; exact Nat.zero_le _)
  obtain ⟨a,xs,rfl,h1,h2⟩:=aN p0
  have jo:=nG (K:=X.K) h1 h2
  refine ⟨.ref a,hv,a,rfl,⟨xs,SqL.of (r0.gh _ _ h1)⟩,?_⟩
  obtain ⟨I,i0,turn,fin⟩:=h
  refine ⟨λi j σ' H'=>j=ds.length - i/\i<=ds.length/\∃ G' ρ',aB G0 G'/\R C M.ow G' ρ' σ' H' []/\I i ρ',⟨_,rfl,Nat.zero_le _,G0,_,aB.refl _,r0,i0⟩,?_⟩
  rintro i j σ' H' ⟨rfl,hi,G',ρ',z,r',w⟩
  obtain ⟨st,go⟩:=jo C M.ow G' ρ' σ' H' [] i z r'
  by_cases hlt:i<ds.length
  ·obtain ⟨g1,g2⟩:=go ds[i] (List.getElem?_eq_getElem hlt)
   refine .inr ⟨g1,λσ2 H2=>∃ G2 ρ2,aB G0 G2/\R C M.ow G2 ρ2 σ2 H2 []/\I (i + 1) ρ2,λσ2 H2 h=>⟨ds.length - (i + 1),by omega,rfl,hlt,h⟩,λx H1 hy=>?_⟩
   obtain ⟨G1,z1,r1,p1⟩:=g2 x H1 hy
   refine sg C G1 ρ' σ' H1 [] ds[i] x _ _ hm r1 p1 (turn i ds[i] ρ' (List.getElem?_eq_getElem hlt) w) λρ2 σ2 h2 r2=>?_
   refine sb C G1 ρ2 σ2 H1 _ _ hm hn r2 h2 ⟨?_,?_,?_,?_⟩
   ·intro ρ3 σ3 G3 H3 h3 z3 r3; exact ⟨G3,ρ3,z.trans (z1.trans z3),r3,h3⟩
   ·intro ρ3 σ3 G3 H3 h3 z3 r3; exact k.nx ρ3 σ3 G3 H3 h3 (z0.trans (z.trans (z1.trans z3))) r3
   ·intro ρ3 σ3 G3 H3 h3 z3 r3; exact ⟨G3,ρ3,z.trans (z1.trans z3),r3,h3⟩
   ·intro d ρ3 σ3 v G3 H3 h3 z3 r3; exact k.rt d ρ3 σ3 v G3 H3 h3 (z0.trans (z.trans (z1.trans z3))) r3
  ·have e:i=ds.length:=by omega
   subst e
   exact .inl ⟨st (Nat.le_refl _),k.nx ρ' σ' G' H' (fin ρ' w) (z0.trans z) r'⟩
 ·exact h.elim
end
end L2
namespace L2
open PySem
end L2
namespace L2
open PySem PySem.Spec PyProof.Rows
section
variable {X:Cx}
end
section
variable {X:Cx} {pins:List (Addr×Obj)} {σ:St} {H:Hp} {s:Shared}
end
section
variable {X:Cx} {ow:List Bool} {pos:Pos}
def rW:R2:=λx y H Q=>∃ a xs b,x = .ref a/\H a=some (.lst xs)/\y = .ref b/\H b=some (.lst [])/\Q (.bl (!xs.isEmpty)) H
def oP:R2:=λx y H Q=>∃ a xs b,x = .ref a/\H a=some (.lst xs)/\y = .ref b/\H b=some (.lst [])/\Q (.bl xs.isEmpty) H
theorem op_neNil (hu:X.A.units + 64<cLine):OpR X (compareOp .NotEq) rW:=by
 intro pins s σ H x y v u Q I rx ry h
 obtain ⟨a,xs,b,rfl,ha,rfl,hb,q⟩:=h
 cases rx; cases ry
 obtain ⟨_,its,m,rv,e1⟩:=(show bn X.prog X.w H s.heap a (.lst xs) from I.hok a _ ha)
 obtain ⟨_,its',m',rv',e1'⟩:=(show bn X.prog X.w H s.heap b (.lst []) from I.hok b _ hb)
 cases rv'
 have i1:s.heap.IsList a its.toArray:=⟨_,e1,rfl,m,rfl⟩
 have i2:s.heap.IsList b ([]:List Value).toArray:=⟨_,e1',rfl,m',rfl⟩
 cases rv with
 | nil =>
  have z:=SeqAt.RcNeAt.lists (A:=X.A) (e:=λ_=>true) i1 i2 rfl (by omega) (λj j1 j2=>absurd j1 (Nat.not_lt_zero _))
  exact z _ _ _ _ ⟨.bl false,H,I,rfl,q⟩
 | cons r t=>exact SeqAt.RcNeAt.lists_lengths i1 i2 (by simp) (by omega) _ _ _ _ ⟨.bl true,H,I,rfl,q⟩
theorem je (hu:X.A.units + 64<cLine):OpR X (compareOp .Eq) oP:=by
 intro pins s σ H x y v u Q I rx ry h
 obtain ⟨a,xs,b,rfl,ha,rfl,hb,q⟩:=h
 cases rx; cases ry
 obtain ⟨_,its,m,rv,e1⟩:=(show bn X.prog X.w H s.heap a (.lst xs) from I.hok a _ ha)
 obtain ⟨_,its',m',rv',e1'⟩:=(show bn X.prog X.w H s.heap b (.lst []) from I.hok b _ hb)
 cases rv'
 have i1:s.heap.IsList a its.toArray:=⟨_,e1,rfl,m,rfl⟩
 have i2:s.heap.IsList b ([]:List Value).toArray:=⟨_,e1',rfl,m',rfl⟩
 cases rv with
 | nil =>
  have z:=SeqAt.RcAt.lists (A:=X.A) (e:=λ_=>true) i1 i2 rfl (by omega) (λj j1 j2=>absurd j1 (Nat.not_lt_zero _))
  exact z _ _ _ _ ⟨.bl true,H,I,rfl,q⟩
 | cons r t=>exact SeqAt.RcAt.lists_lengths i1 i2 (by simp) (by omega) _ _ _ _ ⟨.bl false,H,I,rfl,q⟩
def fNeNil:D->D->(D->Prop)->Prop:=λa b q=>match a,b with
 | .lst ds,.lst []=>q (.bl (!ds.isEmpty))
 | _,_=>False
def ni:D->D->(D->Prop)->Prop:=λa b q=>match a,b with
 | .lst ds,.lst []=>q (.bl ds.isEmpty)
 | _,_=>False
theorem oI {G:Hp}:∀ {ds:List D} {xs:List V},Reps G ds xs->xs.isEmpty=ds.isEmpty
 | [],xs,h=>by rw [Reps] at h; subst h; rfl
 | d :: ds,xs,h=>by rw [Reps] at h; obtain ⟨v,vs,rfl,_,_⟩:=h; rfl
theorem om:DOp oP ni:=λG H x y dx dy q Q s p1 p2 hf k=>by
 unfold ni at hf
 split at hf
 ·obtain ⟨a,xs,rfl,h1,h2⟩:=aN p1
  obtain ⟨b,ys,rfl,h3,h4⟩:=aN p2
  rw [Reps] at h4; subst h4
  exact ⟨a,xs,b,rfl,s _ _ h1,rfl,s _ _ h3,by rw [oI h2]; exact k _ _ hf (bZ _)⟩
 ·exact hf.elim
end
section
open AutoSeq1 (wpAny_loadPart')
open MeetsSeq MeetsSeq2 MeetsSeq3
end
section
variable {prog:Program} {w:World} {A:Around} {E:Value->Shared->Prop} {s:Shared}
end
section
variable {X:Cx}
end
section
variable {X:Cx} {ow:List Bool} {pos p1 p2 p3 p4:Pos} {j1 j2 j3 j4:Nat}
end
end L2
namespace L2
open PySem
end L2
namespace L2
open PySem PySem.Spec PyProof.Rows
section
variable {X:Cx} {ow:List Bool} {a b:Expr} {ma mb:DSt->(Int->Prop)->Prop} {pos:Pos}
end
section
variable {C:Ctx} {ow:List Bool} {G G':Hp} {ρ:DSt} {σ:St} {H H':Hp} {pd:List (D×V)} {O O':Own}
end
section
variable {X:Cx} {ow:List Bool} {tg iter:Expr} {ifs:List Expr} {pos pos':Pos} {mi:MA} {mg:MG} {scope:Scope} {cl:List (Str×Addr)}
end
section
variable {X:Cx}
def mLRng2 (m:MA):ME:=λρ q=>m ρ λds ρ'=>match ds with
 | [.int i,.int j]=>(0<=i/\i<=j/\j<=1000)/\q (.lst (gZ i (j - i).toNat)) ρ'
 | _=>False
variable {a b:Expr} {mr:MA} {pos:Pos}
end
def Itv (a:Addr) (n:Nat):It :=
 ⟨λi H=>∃ xs x,H a=some (.lst xs)/\xs.length=n/\i<n/\xs[n - 1 - i]? = some x,λi H x H'=>H'=H/\∀ xs,H a=some (.lst xs)->xs[n - 1 - i]? = some x,λi _=>n<=i⟩
theorem mF {P:Program} {w:World} {K:PySem.W.Frag} {tg:Expr} (a it:Addr) (n:Nat):Turn P w K tg (Itv a n) [it] it (λi h=>i<=n/\h.IsRevIter it a ((n:Int) - 1 - (i:Int))) where
 mem:=by simp
 obj:=λi h st b hb=>by
  have e:b=it:=by simpa using hb
  subst e
  obtain ⟨_,o,e,c,d⟩:=st
  exact ⟨o,e,λv z=>by rw [d] at z; cases z⟩
 keep:=λi h h' st k=>⟨st.1,st.2.at λo e=>k it (by simp) o e⟩
 item:=by
  intro X hP hw hK hc i pins s σ H E I hf st hg
  subst hP hw hK
  obtain ⟨xs,x,hq,hn,hi,hx⟩:=hg
  obtain ⟨its,rv,p,hz⟩:=I.list (SqL.of hq)
  obtain ⟨u,hu,ru⟩:=rv.get hx
  obtain ⟨f0,f1,f2,f3,f4,f5⟩:=hf it (by simp)
  have st2:=st.2
  rw [show (n:Int) - 1 - (i:Int)=((n - 1 - i:Nat):Int) by omega] at st2
  refine wpAny_pyNext_rev_item st2 p.isList (x:=u) (by simpa using hu) λh' st' sb=>?_
  have I1:Inv X pins σ H { s with heap:=h' }:=I.turned (t':=s.toks) (λb o hb e=>(sb.2 b hb).trans e) f0 f1 f3 f4 f5
  obtain ⟨o,e,c,d⟩:=id st'
  refine ⟨u,rfl,n9 (s:={ s with heap:=h' }) e c d (by decide) ⟨x,H,I1,ru,⟨rfl,λys hy=>by rw [hq] at hy; cases hy; exact hx⟩,⟨hi,?_⟩,λb hb=>(hf b hb).1⟩⟩
  rw [show (n:Int) - 1 - ((i + 1:Nat):Int)=((n - 1 - i:Nat):Int) - 1 by omega]
  exact st'
 done:=by
  intro X hP hw hK hc i pins s σ H E I hf st hg
  subst hP hw hK
  have hg:n<=i:=hg
  have hg:i=n:=Nat.le_antisymm st.1 hg
  obtain ⟨f0,f1,f2,f3,f4,f5⟩:=hf it (by simp)
  have st2:=st.2
  rw [show (n:Int) - 1 - (i:Int) = -1 by omega] at st2
  exact wpAny_pyNext_rev_end (I.ok.hd hc) st2 λh' eb=>⟨rfl,I.turned (t':=s.toks) (λb o hb e=>eb b o hb e) f0 f1 f3 f4 f5⟩
 self:=λ_ _ _ _ _ st h=>wpAny_pyIter_revIter st.2 h
section
variable {X:Cx} {tg:Expr}
def iRev (ta:TA):TI:=λσ H R=>ta σ H λvs H1=>∃ a xs,vs=[.ref a]/\H1 a=some (.lst xs)/\R (Itv a xs.length) H1
theorem tM {l:Expr} {ta:TA} {p pos:Pos} (hg:Gl X "reversed") (hm:X.mg "reversed" = none) (ha:PA X [l] ta) (hs:starEach [l] X.env=[(false,eval l X.env)]:=by rfl):PI X tg (.Call (.Name "reversed" p) [l] [] pos) (iRev ta):=by
 refine ⟨λpins s σ H R I h=>?_⟩
 refine Call_ (cG I hg hm (show bootBuiltins "reversed" = some (.type "reversed") by decide +kernel) (PyProof.Rows.callWith_type1 (thn (ha pos pins s σ H _ I h) λus s1 ⟨vs,H1,I1,r1,q1⟩=>?_) hs rfl))
 obtain ⟨a,xs,e,hx,q⟩:=q1
 subst e
 obtain ⟨u,rfl,ru⟩:=fV r1
 cases ru
 obtain ⟨its,rv,p1,hz⟩:=I1.list (SqL.of hx)
 have hl:=rv.length
 refine call_reversed_list p1.isList ?_
 refine wpAny_pyIter_revIter (it:=s1.heap.objs.size) (l:=a) (i:=(its.toArray.size:Int) - 1) ⟨_,Heap.get?_push_size _ rfl,rfl,rfl⟩ ?_
 refine ⟨s1.heap.objs.size,[s1.heap.objs.size],_,_,H1,rfl,I1.kept (t':=s1.toks) λb o e=>Heap.get?_push_of_some _ e,mF a _ xs.length,⟨Nat.zero_le _,_,Heap.get?_push_size _ rfl,rfl,?_⟩,λb hb=>?_,q⟩
 ·have e1:its.toArray.size=xs.length:=by simp; omega
  show Data.fields #[.ref a,rawInt ((its.toArray.size:Int) - 1)]=Data.fields #[.ref a,rawInt ((xs.length:Int) - 1 - ((0:Nat):Int))]
  rw [e1]
  congr 3
  simp
 ·have e:b=s1.heap.objs.size:=by simpa using hb
  subst e
  exact I1.fpOk (Nat.le_refl _) (I1.hok.fresh (Nat.le_refl _))
theorem sT {G:Hp} {p:Addr} {xs:List V} {ds:List D} (h1:G p=some (.lst xs)) (h2:Reps G ds xs):jJ (Itv p xs.length) G ds.reverse:=λC ow G' ρ σ H pd i z r=>by
 have hp:=r.gh _ _ (z _ _ h1)
 have hl:=h2.length
 refine ⟨λh=>by rw [List.length_reverse] at h; show xs.length<=i; omega,λd e=>?_⟩
 have hi:i<ds.length:=by have:=(List.getElem?_eq_some_iff.mp e).1; rw [List.length_reverse] at this; exact this
 rw [List.getElem?_reverse hi] at e
 obtain ⟨v,e1,e2⟩:=dS h2 e
 rw [<- hl] at e1
 refine ⟨⟨xs,v,hp,rfl,by omega,e1⟩,λx H' hy=>?_⟩
 obtain ⟨rfl,hy⟩:=hy
 have:=hy xs hp
 rw [e1] at this; cases this
 exact ⟨G',aB.refl _,r,Rep.mono z _ _ e2⟩
def miRev (m:MA):MA:=λρ q=>m ρ λds ρ'=>match ds with
 | [.lst ds]=>q ds.reverse ρ'
 | _=>False
variable {ow:List Bool} {a:Expr} {mr:MA} {pos:Pos}
theorem rX {p:Pos} (hg:Gl X "reversed") (hm:X.mg "reversed" = none) (ha:QA X ow [a] mr) (hs:starEach [a] X.env=[(false,eval a X.env)]:=by rfl):QI X ow tg (.Call (.Name "reversed" p) [a] [] pos) (miRev mr):=by
 obtain ⟨t,p,s⟩:=ha
 refine ⟨_,tM hg hm p hs,λC G ρ σ H pd q Q r hm k=>s C G ρ σ H pd _ _ r hm λds ρ' vs G' H' hq z kp r' p hn=>?_⟩
 split at hq
 ·obtain ⟨v,rfl,p1⟩:=bi p
  obtain ⟨a,xs,rfl,h1,h2⟩:=aN p1
  exact ⟨a,xs,rfl,r'.gh _ _ h1,k _ ρ' G' H' _ hq z kp r' (sT h1 h2)⟩
 ·exact hq.elim
end
section
variable {X:Cx}
open PySem.Builtin.Str (partsBetween occurrences)
variable {ow:List Bool} {e a b:Expr} {ma mb:ME}
end
section
variable {X:Cx} {tg:Expr}
variable {ow:List Bool} {e:Expr} {ma:ME}
end
end L2
namespace L2
open PySem PySem.Spec PyProof.Rows
section
variable {X:Cx}
end
end L2
namespace L2
open PySem
end L2
namespace L2
open PySem PySem.Spec PyProof.Rows
section
variable {prog:Program} {w:World} {A:Around} {E:Value->Shared->Prop} {s:Shared}
end
section
variable {X:Cx}
end
end L2
namespace L2
open PySem
end L2
namespace L2
open PySem PySem.Spec PyProof.Rows
section
variable {X:Cx} {ow:List Bool} {a b:Expr} {mex:MEX} {mb:ME} {pos:Pos}
end
section
variable {X:Cx} {pos p1 q1:Pos} {n1 n2:Nat} {k1 z:Int} {ow:List Bool}
end
section
variable {X:Cx} {ow:List Bool} {a b:Expr} {ma mb:ME} {pos:Pos}
end
section
variable {K:PySem.W.Frag} {mg:Str->Option Value} {n:Str} {st:Stmt} {ps:List Str} {f:Addr} {d:FuncData}
structure FT (K:PySem.W.Frag) (mg:Str->Option Value) (n:Str) (st:Stmt) (ps:List Str) (f:Addr) (d:FuncData):Prop where
 F:Fun K n n st f d
 b:fX K d ps []
 m:mg n=some (.ref f)
structure FH (K:PySem.W.Frag) (n:Str) (st:Stmt) (f:Addr) (d:FuncData):Prop where
 a:PySem.W.nsIn K mainGlobals n=some (some (.ref f))
 F:Fun K n n st f d
theorem aZ {oc:Value} {od an:Option Addr} {osl:Array (Option Value)} {kV doc pm cdv ct:Value} (a:PySem.W.nsIn K mainGlobals n=some (some (.ref f))) (l:K.lookup f=some ⟨oc,od,.func (PySem.W.fnOf n n (dt st) (bV st) (ai st) .none kV doc pm an cdv ct),osl⟩)
 (c:PySem.W.codeIn K cdv n=true) (k:PySem.W.keepIn K (.ref f)=true):FH K n st f (PySem.W.fnOf n n (dt st) (bV st) (ai st) .none kV doc pm an cdv ct):=⟨a,tK l c k⟩
theorem FH.ft {h:Heap} (z:FH K n st f d) (X:K.In h) (G:h.Ns mainGlobals mg)
 (hb:∀ (kV doc pm:Value) (an:Option Addr) (cdv ct:Value) (us:List Value),us.length=ps.length->bindArgs (PySem.W.fnOf n n (dt st) (bV st) (ai st) .none kV doc pm an cdv ct) ⟨us,[]⟩=pure (ps.zip us)):FT K mg n st ps f d:=⟨z.F,z.F.binds hb,PySem.W.mg_of X G z.a⟩
theorem aY {N P:List Str} {sc:Scope} (a:sc.kind = .function:=by rfl) (b:sc.isCoroutine=false:=by rfl) (c:sc.isGenerator=false:=by rfl) (d:N.Nodup:=by decide +kernel) (e:N.take P.length=P:=by rfl)
 (g:∀ x∈P,sc.names.lookup x=some .local\/sc.names.lookup x=some .cell:=by decide +kernel) (h:∀ y∈sc.names,y.2≠.free:=by decide +kernel):FnScope N P sc:=⟨a,b,c,d,e,g,h⟩
end
section
variable {X:Cx} {ow:List Bool} {k j:Nat} {f:Addr} {fd:FuncData} {ps:List Str} {mu:List Bool} {sd:SpD} {sx:SpX} {x:Str} {st:Stmt} {ks:List AK} {e:Expr} {es:List Expr} {mr:MA} {pos p':Pos}
theorem ao (F:FnOk X.prog X.w X.K X.mg X.base CX0 k f fd ps (a_ mu false sd)) (hr:Room j X.A) (t:FT X.K X.mg x st ps f fd) (ha:QAk X ow ks (e :: es) mr) (hj:k<=j:=by decide) (hg:Gl X x:=by rfl) (hmu:mu=ks.map AK.isM:=by rfl) (nd:(az ks).Nodup:=by decide) (hw:∀ i∈az ks,ow[i]? = some true:=by decide) (hdb:(x == ("__debug__":Str))=false:=by decide)
 (he:starEach (e :: es) X.env=(false,eval e X.env) :: starEach es X.env:=by rfl) (hpl:(backTo pos (starEach es X.env)).any (·.1)=false:=by rfl):QE X ow (.Call (.Name x p') (e :: es) [] pos) (lj ks sd mr):=pP F (hr.mono hj) hg t.m t.F.kp t.b ha hmu nd hw hdb he hpl
theorem aJ (F:FnOk X.prog X.w X.K X.mg X.base CX0 k f fd ps (a_ mu true sd)) (hr:Room j X.A) (t:FT X.K X.mg x st ps f fd) (ha:QAk X ow ks (e :: es) mr) (hj:k<=j:=by decide) (hg:Gl X x:=by rfl) (hmu:mu=ks.map AK.isM:=by rfl) (nd:(az ks).Nodup:=by decide) (hw:∀ i∈az ks,ow[i]? = some true:=by decide) (hdb:(x == ("__debug__":Str))=false:=by decide)
 (he:starEach (e :: es) X.env=(false,eval e X.env) :: starEach es X.env:=by rfl) (hpl:(backTo pos (starEach es X.env)).any (·.1)=false:=by rfl):QF X ow (.Call (.Name x p') (e :: es) [] pos) (lj ks sd mr):=pS F (hr.mono hj) hg t.m t.F.kp t.b ha hmu nd hw hdb he hpl
end
section
variable {K:PySem.W.Frag} {C a N:Addr} {dd nd:Option Addr} {nm qn x:Str} {bs bm sub:List Value} {hd ab:Bool} {sn:List Str} {col:Option Bool} {k0 k1 k2 k3 k5 ini:Option Value} {no:Value} {es:Array DictEntry} {np:Nat} {nl:Array (Option Value)}
end
end L2
namespace L2
open PySem PySem.Spec PyProof.Rows PySem.W Att
def RK (rk:Keyed->Nat) (xs:Array Keyed) (i:Nat):Nat:=match xs[i]? with
 | some p=>rk p
 | none=>0
theorem dP {rk:Keyed->Nat} {xs ys:Array Keyed} {i j:Nat} (h:xs[i]? = ys[j]?):RK rk xs i=RK rk ys j:=by unfold RK; rw [h]
theorem d7 {rk:Keyed->Nat} {xs:Array Keyed} {src d:Nat} (hs:src<xs.size) (hd:d<=src) (k:Nat) :
 RK rk (bubble xs src d) k=if k=src - d then RK rk xs src else if src - d<k/\k<=src then RK rk xs (k - 1) else RK rk xs k:=by
 have e:=getElem?_bubble hs d hd k
 split
 ·rename_i h; rw [if_pos h] at e; exact dP e
 ·rename_i h
  rw [if_neg h] at e
  split
  ·rename_i h2; rw [if_pos h2] at e; exact dP e
  ·rename_i h2; rw [if_neg h2] at e; exact dP e
theorem bO {rk:Keyed->Nat} {xs:Array Keyed} {i j:Nat} (hj:j<=xs.size) (k:Nat) :
 RK rk (mirror xs i j ((j - i) / 2)) k=if i<=k/\k<j then RK rk xs (i + j - 1 - k) else RK rk xs k:=by
 have e:=getElem?_mirror_all (i:=i) hj k
 split
 ·rename_i h; rw [if_pos h] at e; exact dP e
 ·rename_i h; rw [if_neg h] at e; exact dP e
def Lex (k:Nat->Int) (r:Nat->Nat) (m:Nat):Prop:=∀ i j,i<j->j<m->k i<k j\/(k i=k j/\r i<r j)
def Rev (k:Nat->Int) (r:Nat->Nat) (m:Nat):Prop:=∀ i j,i<j->j<m->k j<k i\/(k i=k j/\r j<r i)
def Rst (r:Nat->Nat) (x n:Nat):Prop:=(∀ i,i<x->r i<x)/\∀ i,x<=i->i<n->r i=i
theorem Lex.le {k:Nat->Int} {r:Nat->Nat} {m i j:Nat} (h:Lex k r m) (hij:i<=j) (hj:j<m):k i<=k j:=by
 rcases Nat.lt_or_ge i j with g | g
 ·rcases h i j g hj with z | z <;> omega
 ·have:i=j:=by omega
  subst this; exact Int.le_refl _
theorem Rev.ge {k:Nat->Int} {r:Nat->Nat} {m i j:Nat} (h:Rev k r m) (hij:i<=j) (hj:j<m):k j<=k i:=by
 rcases Nat.lt_or_ge i j with g | g
 ·rcases h i j g hj with z | z <;> omega
 ·have:i=j:=by omega
  subst this; exact Int.le_refl _
theorem Rst.turn {rk:Keyed->Nat} {xs:Array Keyed} {b n N:Nat} (hn:n<=xs.size) (h:Rst (RK rk xs) n N):Rst (RK rk (mirror xs b n ((n - b) / 2))) n N:=by
 refine ⟨λi hi=>?_,λi h1 h2=>?_⟩
 ·rw [bO hn]
  split
  ·exact h.1 _ (by omega)
  ·exact h.1 _ hi
 ·rw [bO hn,if_neg (by omega)]; exact h.2 i h1 h2
structure Blk (k:Nat->Int) (r:Nat->Nat) (b x:Nat):Prop where
 lt:b<x
 eq:∀ i,b<=i->i<x->k i=k (x - 1)
 up:∀ i j,b<=i->i<j->j<x->r i<r j
 rev:∀ i j,i<j->j<x->i<b->k j<k i\/(k i=k j/\r j<r i)
 str:∀ i,i<b->k (x - 1)<k i
theorem Blk.one {k:Nat->Int} {r:Nat->Nat} {x:Nat} (h:Rev k r (x + 1)) (hx:∀ i,i<x->k x<k i):Blk k r x (x + 1) :=
 ⟨by omega,λi h1 h2=>by congr 1; omega,λi j h1 h2 h3=>by omega,λi j h1 h2 h3=>h i j h1 h2,λi h1=>by show k (x + 1 - 1)<k i; rw [show x + 1 - 1=x by omega]; exact hx i h1⟩
theorem Blk.rev1 {k:Nat->Int} {r:Nat->Nat} {x:Nat} (h:Blk k r (x - 1) x):Rev k r x:=λi j hij hj=>h.rev i j hij hj (by omega)
abbrev rS (rk:Keyed->Nat) (st:SortSt):Nat->Nat:=RK rk (arrOf st)
def KF (kf:Keyed->Int) (xs:Array Keyed) (i:Nat):Int:=match xs[i]? with
 | some p=>kf p
 | none=>0
theorem dQ {kf:Keyed->Int} {xs ys:Array Keyed} {i j:Nat} (h:xs[i]? = ys[j]?):KF kf xs i=KF kf ys j:=by unfold KF; rw [h]
theorem ib {kf:Keyed->Int} {xs:Array Keyed} {src d:Nat} (hs:src<xs.size) (hd:d<=src) (k:Nat) :
 KF kf (bubble xs src d) k=if k=src - d then KF kf xs src else if src - d<k/\k<=src then KF kf xs (k - 1) else KF kf xs k:=by
 have e:=getElem?_bubble hs d hd k
 split
 ·rename_i h; rw [if_pos h] at e; exact dQ e
 ·rename_i h
  rw [if_neg h] at e
  split
  ·rename_i h2; rw [if_pos h2] at e; exact dQ e
  ·rename_i h2; rw [if_neg h2] at e; exact dQ e
theorem fP {kf:Keyed->Int} {xs:Array Keyed} {i j:Nat} (hj:j<=xs.size) (k:Nat) :
 KF kf (mirror xs i j ((j - i) / 2)) k=if i<=k/\k<j then KF kf xs (i + j - 1 - k) else KF kf xs k:=by
 have e:=getElem?_mirror_all (i:=i) hj k
 split
 ·rename_i h; rw [if_pos h] at e; exact dQ e
 ·rename_i h; rw [if_neg h] at e; exact dQ e
theorem ck {kf:Keyed->Int} {xs:Array Keyed} {i j:Nat} (hj:j<=xs.size) (heq:∀ k,i<=k->k<j->KF kf xs k=KF kf xs (j - 1)) (k:Nat) :
 KF kf (mirror xs i j ((j - i) / 2)) k=KF kf xs k:=by
 rw [fP hj]
 split
 ·rw [heq _ (by omega) (by omega),heq k (by omega) (by omega)]
 ·rfl
structure SBk (kd:SortKind) (a₀:Array Keyed) (st:SortSt):Prop where
 perm:(arrOf st).Perm a₀
 kind:kindOf st=kd
 failed:failedOf st=none
 pend:pendingOf st = #[]
theorem SBk.size {kd:SortKind} {a₀:Array Keyed} {st:SortSt} (h:SBk kd a₀ st):(arrOf st).size=a₀.size:=h.perm.size_eq
theorem SBk.setArr {kd:SortKind} {a₀:Array Keyed} {st:SortSt} (h:SBk kd a₀ st) {xs:Array Keyed} (hp:xs.Perm (arrOf st)):SBk kd a₀ (setArr st xs):=⟨hp.trans h.perm,h.kind,h.failed,h.pend⟩
def LtF (prog:Program) (w:World) (A:Around) (E:Value->Shared->Prop) (s:Shared) (kd:SortKind) (kf:Keyed->Int) (a₀:Array Keyed):Prop:=∀ (st:SortSt) (i j:Nat) (Q:Option Bool->SortSt->Prop),SBk kd a₀ st->i<a₀.size->j<a₀.size ->
 Q (some (decide (KF kf (arrOf st) i<KF kf (arrOf st) j))) st->wpS (model prog w) A E s (ltAt' i j) Q st
theorem Rev.turnF {rk:Keyed->Nat} {kf:Keyed->Int} {xs:Array Keyed} {n N:Nat} (hn:n<=xs.size) (h:Rev (KF kf xs) (RK rk xs) n):Lex (KF kf (mirror xs 0 n ((n - 0) / 2))) (RK rk (mirror xs 0 n ((n - 0) / 2))) n:=λi j hij hj=>by
 rw [fP hn,fP hn,bO hn,bO hn,if_pos (by omega),if_pos (by omega),if_pos (by omega),if_pos (by omega)]
 have:=h (0 + n - 1 - j) (0 + n - 1 - i) (by omega) (by omega)
 omega
theorem Blk.turnF {rk:Keyed->Nat} {kf:Keyed->Int} {xs:Array Keyed} {b n:Nat} (hn:n<=xs.size) (h:Blk (KF kf xs) (RK rk xs) b n):Rev (KF kf (mirror xs b n ((n - b) / 2))) (RK rk (mirror xs b n ((n - b) / 2))) n:=λi j hij hj=>by
 have hb:=h.lt
 have hK:∀ t,KF kf (mirror xs b n ((n - b) / 2)) t=KF kf xs t:=λt=>ck hn (λt h1 h2=>h.eq t h1 h2) t
 rw [hK,hK,bO hn,bO hn]
 by_cases h1:b<=i
 ·rw [if_pos ⟨by omega,hj⟩,if_pos ⟨h1,by omega⟩]
  have e1:=h.eq i h1 (by omega)
  have e2:=h.eq j (by omega) hj
  have:=h.up (b + n - 1 - j) (b + n - 1 - i) (by omega) (by omega) (by omega)
  omega
 ·rw [if_neg (show ¬ (b<=i/\i<n) by omega)]
  by_cases h2:b<=j
  ·have e2:=h.eq j h2 hj
   have:=h.str i (by omega)
   omega
  ·rw [if_neg (show ¬ (b<=j/\j<n) by omega)]
   exact h.rev i j hij hj (by omega)
section
variable {prog:Program} {w:World} {A:Around} {E:Value->Shared->Prop} {s:Shared} {a₀:Array Keyed} {rk:Keyed->Nat} {kf:Keyed->Int} {kd:SortKind}
abbrev kF (kf:Keyed->Int) (st:SortSt):Nat->Int:=KF kf (arrOf st)
theorem q9 {st:SortSt} {a nrem:Nat} {Q:AscSt->SortSt->Prop} (h0:LtF prog w A E s kd kf a₀) (hn:nrem<=a₀.size) (ha : 1<=a) (han:a<=nrem) (hB:SBk kd a₀ st) (hs:Lex (kF kf st) (rS rk st) a) (hr:Rst (rS rk st) a a₀.size)
 (h:∀ n,a<=n->n<=nrem->Lex (kF kf st) (rS rk st) n->Rst (rS rk st) n a₀.size->(n=nrem\/kF kf st n<kF kf st (n - 1))->Q (none,n) st) :
 wpS (model prog w) A E s (ascLoop a nrem) Q st:=by
 unfold ascLoop
 refine wpS_forRange (I:=λx c st'=>st'=st/\c=(none,x)/\Lex (kF kf st) (rS rk st) x/\Rst (rS rk st) x a₀.size) ?step ?fin ⟨rfl,rfl,hs,hr⟩
 case fin =>
  rintro c st' ⟨rfl,rfl,hs',hr'⟩
  rw [show max a nrem=nrem by omega] at hs' hr' ⊢
  exact h nrem han (Nat.le_refl _) hs' hr' (.inl rfl)
 case step =>
  rintro x c st' hax hxn ⟨rfl,rfl,hs',hr'⟩
  dsimp only
  refine wpS_bind (h0 _ _ _ _ hB (by omega) (by omega) ?_)
  by_cases hless:KF kf (arrOf st') x<KF kf (arrOf st') (x - 1)
  ·simp only [hless,decide_true,if_true]
   exact wpS_pure (h x hax (by omega) hs' hr' (.inr hless))
  ·simp only [hless,decide_false,Bool.false_eq_true,if_false]
   have hx:=hr'.2 x (Nat.le_refl _) (by omega)
   refine wpS_pure ⟨rfl,rfl,λi j hij hj=>?_,λi hi=>?_,λi h1 h2=>hr'.2 i (by omega) h2⟩
   ·by_cases hjx:j<x
    ·exact hs' i j hij hjx
    ·have hj':j=x:=by omega
     subst hj'
     have a1:=hs'.le (i:=i) (j:=j - 1) (by omega) (by omega)
     have a2:=hr'.1 i hij
     show KF kf (arrOf st') i<KF kf (arrOf st') j\/(KF kf (arrOf st') i=KF kf (arrOf st') j/\rS rk st' i<rS rk st' j)
     change KF kf (arrOf st') i<=KF kf (arrOf st') (j - 1) at a1
     omega
   ·by_cases hix:i<x
    ·have:=hr'.1 i hix; omega
    ·have:i=x:=by omega
     subst this; omega
theorem pr {st:SortSt} {n nrem:Nat} {Q:Option Nat->SortSt->Prop} (h0:LtF prog w A E s kd kf a₀) (hn:nrem<=a₀.size) (h1 : 1<=n) (hnn:n<=nrem) (hB:SBk kd a₀ st) (hs:Rev (kF kf st) (rS rk st) n) (hr:Rst (rS rk st) n a₀.size)
 (h:∀ m st',SBk kd a₀ st'->1<=m->m<=nrem->Lex (kF kf st') (rS rk st') m->Rst (rS rk st') m a₀.size->Q (some m) st') :
 wpS (model prog w) A E s (tail3 n nrem) Q st:=by
 unfold tail3
 have hsz:n<=(arrOf st).size:=by rw [hB.size]; omega
 refine wpS_bind (wpS_reverse ?_)
 have hB':SBk kd a₀ (setArr st (mirror (arrOf st) 0 n ((n - 0) / 2))):=hB.setArr (mirror_perm _ _ _ _)
 exact wpS_bind (q9 (rk:=rk) (kf:=kf) (kd:=kd) h0 hn h1 hnn hB' (Rev.turnF (N:=0) hsz hs) (Rst.turn hsz hr) λm hm1 hm2 hsm hrm _=>wpS_pure (h m _ hB' (by omega) hm2 hsm hrm))
theorem sV {st:SortSt} {n nrem:Nat} {Q:DescSt->SortSt->Prop} (h0:LtF prog w A E s kd kf a₀) (hn:nrem<=a₀.size) (h1 : 1<=n) (hnn:n<=nrem) (hB:SBk kd a₀ st) (hs:Blk (kF kf st) (rS rk st) (n - 1) n) (hr:Rst (rS rk st) n a₀.size)
 (h:∀ m neq st',SBk kd a₀ st'->n<=m->m<=nrem->neq + 1<=m->Blk (kF kf st') (rS rk st') (m - (neq + 1)) m->Rst (rS rk st') m a₀.size->Q (none,m,neq) st') :
 wpS (model prog w) A E s (descLoop n nrem) Q st:=by
 unfold descLoop
 refine wpS_forRange (I:=λx c st'=>∃ neq,c=(none,x,neq)/\SBk kd a₀ st'/\neq + 1<=x/\Blk (kF kf st') (rS rk st') (x - (neq + 1)) x/\Rst (rS rk st') x a₀.size) ?step ?fin ⟨0,rfl,hB,by omega,hs,hr⟩
 case fin =>
  rintro c st' ⟨neq,rfl,hB',hq,hs',hr'⟩
  rw [show max n nrem=nrem by omega] at hs' hq hr' ⊢
  exact h nrem neq st' hB' hnn (Nat.le_refl _) hq hs' hr'
 case step =>
  rintro x c st' hax hxn ⟨neq,rfl,hB',hq,hs',hr'⟩
  dsimp only
  have hsz:x<=(arrOf st').size:=by rw [hB'.size]; omega
  have hx:=hr'.2 x (Nat.le_refl _) (by omega)
  have next:∀ st2:SortSt,SBk kd a₀ st2->(∀ t,x<=t->(arrOf st2)[t]? = (arrOf st')[t]?)->(∀ t,kF kf st2 t=kF kf st' t)->Rev (kF kf st2) (rS rk st2) x->Rst (rS rk st2) x a₀.size->kF kf st' x<kF kf st' (x - 1) ->
   ∃ neq,((none,x + 1,0):DescSt)=(none,x + 1,neq)/\SBk kd a₀ st2/\neq + 1<=x + 1/\Blk (kF kf st2) (rS rk st2) (x + 1 - (neq + 1)) (x + 1)/\Rst (rS rk st2) (x + 1) a₀.size:=λst2 hB2 hk hkk hR hr2 hless=>by
   have hx2:=hr2.2 x (Nat.le_refl _) (by omega)
   have below:∀ i,i<x->kF kf st2 x<kF kf st2 i:=λi hi=>by
    have:=hR.ge (i:=i) (j:=x - 1) (by omega) (by omega)
    rw [hkk x,hkk i]
    rw [hkk (x - 1),hkk i] at this
    omega
   refine ⟨0,rfl,hB2,by omega,?_,λi hi=>?_,λi h1 h2=>hr2.2 i (by omega) h2⟩
   ·rw [show x + 1 - (0 + 1)=x by omega]
    refine Blk.one (λi j hij hj=>?_) below
    by_cases hjx:j<x
    ·exact hR i j hij hjx
    ·have:j=x:=by omega
     subst this
     exact .inl (below i hij)
   ·by_cases hix:i<x
    ·have:=hr2.1 i hix; omega
    ·have:i=x:=by omega
     subst this; omega
  refine wpS_bind (h0 _ _ _ _ hB' (by omega) (by omega) ?_)
  by_cases hless:KF kf (arrOf st') x<KF kf (arrOf st') (x - 1)
  ·simp only [hless,decide_true,if_true]
   by_cases hneq:neq > 0
   ·rw [if_pos hneq]
    refine wpS_bind (wpS_reverse (wpS_pure (next _ (hB'.setArr (mirror_perm _ _ _ _)) (λt ht=>?_) (λt=>ck hsz (λt h1 h2=>hs'.eq t h1 h2) t) (Blk.turnF hsz hs') (Rst.turn hsz hr') hless)))
    show (mirror (arrOf st') _ _ _)[t]? = _
    rw [getElem?_mirror_all hsz,if_neg (by omega)]
   ·rw [if_neg hneq]
    have:neq=0:=by omega
    subst this
    exact wpS_pure (next _ hB' (λ_ _=>rfl) (λ_=>rfl) (Blk.rev1 hs') hr' hless)
  ·simp only [hless,decide_false,Bool.false_eq_true,if_false]
   refine wpS_bind (h0 _ _ _ _ hB' (by omega) (by omega) ?_)
   by_cases hlarger:KF kf (arrOf st') (x - 1)<KF kf (arrOf st') x
   ·simp only [hlarger,decide_true,if_true]
    exact wpS_pure (h x neq st' hB' hax (by omega) hq hs' hr')
   ·simp only [hlarger,decide_false,Bool.false_eq_true,if_false]
    have heqx:KF kf (arrOf st') x=KF kf (arrOf st') (x - 1):=by omega
    refine wpS_pure ⟨neq + 1,rfl,hB',by omega,?_,λi hi=>?_,λi h1 h2=>hr'.2 i (by omega) h2⟩
    ·rw [show x + 1 - (neq + 1 + 1)=x - (neq + 1) by omega]
     refine ⟨by omega,λi h1 h2=>?_,λi j h1 h2 h3=>?_,λi j h1 h2 h3=>?_,λi h1=>?_⟩
     ·rw [show x + 1 - 1=x by omega]
      by_cases hix:i<x
      ·rw [hs'.eq i h1 hix]; exact heqx.symm
      ·congr 1; omega
     ·by_cases hjx:j<x
      ·exact hs'.up i j h1 h2 hjx
      ·have:j=x:=by omega
       subst this
       have:=hr'.1 i h2; omega
     ·by_cases hjx:j<x
      ·exact hs'.rev i j h1 hjx h3
      ·have:j=x:=by omega
       subst this
       have:=hs'.str i h3
       left; show KF kf (arrOf st') j<KF kf (arrOf st') i; rw [heqx]; exact this
     ·rw [show x + 1 - 1=x by omega]
      have:=hs'.str i h1
      show KF kf (arrOf st') x<KF kf (arrOf st') i
      rw [heqx]; exact this
    ·by_cases hix:i<x
     ·have:=hr'.1 i hix; omega
     ·have:i=x:=by omega
      subst this; omega
theorem li {st:SortSt} {n nrem:Nat} {Q:Option Nat->SortSt->Prop} (h0:LtF prog w A E s kd kf a₀) (hn:nrem<=a₀.size) (hnn:n + 1<=nrem) (hB:SBk kd a₀ st) (hs:Blk (kF kf st) (rS rk st) n (n + 1)) (hr:Rst (rS rk st) (n + 1) a₀.size)
 (h:∀ m st',SBk kd a₀ st'->1<=m->m<=nrem->Lex (kF kf st') (rS rk st') m->Rst (rS rk st') m a₀.size->Q (some m) st') :
 wpS (model prog w) A E s (descPart n nrem) Q st:=by
 unfold descPart
 refine wpS_bind (wpS_lift (wpAny_rule ⟨rfl,?_⟩))
 refine wpS_bind (sV (rk:=rk) (kf:=kf) (kd:=kd) h0 hn (by omega) hnn hB (by rw [show n + 1 - 1=n by omega]; exact hs) hr λm neq st' hB' hm1 hm2 hq hs' hr'=>?_)
 dsimp only
 have hsz:m<=(arrOf st').size:=by rw [hB'.size]; omega
 by_cases hneq:neq > 0
 ·rw [if_pos hneq]
  exact wpS_bind (wpS_reverse (pr (rk:=rk) (kf:=kf) (kd:=kd) h0 hn (by omega) hm2 (hB'.setArr (mirror_perm _ _ _ _)) (Blk.turnF hsz hs') (Rst.turn hsz hr') h))
 ·rw [if_neg hneq]
  have:neq=0:=by omega
  subst this
  exact pr (rk:=rk) (kf:=kf) (kd:=kd) h0 hn (by omega) hm2 hB' (Blk.rev1 hs') hr' h
theorem pB {st:SortSt} {nrem:Nat} {Q:Option Nat->SortSt->Prop} (h0:LtF prog w A E s kd kf a₀) (hn:nrem<=a₀.size) (h1 : 1<=nrem) (hB:SBk kd a₀ st) (hr:∀ i,i<a₀.size->rS rk st i=i)
 (h:∀ m st',SBk kd a₀ st'->1<=m->m<=nrem->Lex (kF kf st') (rS rk st') m->Rst (rS rk st') m a₀.size->Q (some m) st') :
 wpS (model prog w) A E s (countRun' 0 nrem) Q st:=by
 rw [countRun0_eq]
 refine wpS_bind (q9 (rk:=rk) (kf:=kf) (kd:=kd) h0 hn (Nat.le_refl 1) h1 hB (λi j hij hj=>by omega) ⟨λi hi=>by have:=hr i (by omega); omega,λi _ h2=>hr i h2⟩ λn hn1 hn2 hsn hrn hor=>?_)
 dsimp only
 by_cases hnn:n=nrem
 ·rw [if_pos (by simpa using hnn)]
  exact wpS_pure (h n st hB hn1 hn2 hsn hrn)
 ·rw [if_neg (by simpa using hnn)]
  have hlt:KF kf (arrOf st) n<KF kf (arrOf st) (n - 1):=hor.resolve_left hnn
  have rst:∀ (xs:Array Keyed),(∀ i,i<n->RK rk xs i<n)->(∀ i,n<=i->i<a₀.size->RK rk xs i=i)->Rst (RK rk xs) (n + 1) a₀.size:=λxs g1 g2=>⟨λi hi=>by
   by_cases hin:i<n
   ·have:=g1 i hin; omega
   ·have:=g2 i (by omega) (by omega); omega,λi h1 h2=>g2 i (by omega) h2⟩
  by_cases hgt:n > 1
  ·rw [if_pos hgt]
   refine wpS_bind (h0 _ _ _ _ hB (by omega) (by omega) ?_)
   by_cases hrose:KF kf (arrOf st) 0<KF kf (arrOf st) (n - 1)
   ·simp only [hrose,decide_true,if_true]
    exact wpS_pure (h n st hB hn1 hn2 hsn hrn)
   ·simp only [hrose,decide_false,Bool.false_eq_true,if_false]
    have hsz:n<=(arrOf st).size:=by rw [hB.size]; omega
    have hall:∀ k,0<=k->k<n->KF kf (arrOf st) k=KF kf (arrOf st) (n - 1):=λk _ hk=>by
     have a1:KF kf (arrOf st) 0<=KF kf (arrOf st) k:=hsn.le (by omega) hk
     have a2:KF kf (arrOf st) k<=KF kf (arrOf st) (n - 1):=hsn.le (by omega) (by omega)
     omega
    have hK:=λt=>ck hsz hall t
    have hm:=Rst.turn (b:=0) hsz hrn
    refine wpS_bind (wpS_reverse (li (rk:=rk) (kf:=kf) (kd:=kd) h0 hn (by omega) (hB.setArr (mirror_perm _ _ _ _)) ?_ (rst _ hm.1 hm.2) h))
    have below:∀ i,i<n->KF kf (mirror (arrOf st) 0 n ((n - 0) / 2)) n<KF kf (mirror (arrOf st) 0 n ((n - 0) / 2)) i:=λi hi=>by rw [hK,hK,hall i (by omega) hi]; exact hlt
    refine Blk.one (λi j hij hj=>?_) below
    by_cases hjn:j<n
    ·right
     show KF kf (mirror (arrOf st) 0 n ((n - 0) / 2)) i=KF kf (mirror (arrOf st) 0 n ((n - 0) / 2)) j/\RK rk (mirror (arrOf st) 0 n ((n - 0) / 2)) j<RK rk (mirror (arrOf st) 0 n ((n - 0) / 2)) i
     rw [hK,hK,hall i (by omega) (by omega),hall j (by omega) hjn,bO hsz,bO hsz,if_pos (by omega),if_pos (by omega)]
     have r1:RK rk (arrOf st) (0 + n - 1 - j)=0 + n - 1 - j:=hr _ (by omega)
     have r2:RK rk (arrOf st) (0 + n - 1 - i)=0 + n - 1 - i:=hr _ (by omega)
     exact ⟨rfl,by rw [r1,r2]; omega⟩
    ·have:j=n:=by omega
     subst this
     exact .inl (below i hij)
  ·rw [if_neg hgt]
   have hn1':n=1:=by omega
   subst hn1'
   refine li (rk:=rk) (kf:=kf) (kd:=kd) h0 hn (by omega) hB ?_ (rst _ hrn.1 hrn.2) h
   have below:∀ i,i<1->kF kf st 1<kF kf st i:=λi hi=>by
    have:i=0:=by omega
    subst this; exact hlt
   exact Blk.one (λi j hij hj=>by
    have:j=1:=by omega
    subst this; exact .inl (below i hij)) below
theorem bin_f {st:SortSt} {n ok:Nat} {Q:Bool->SortSt->Prop} (h0:LtF prog w A E s kd kf a₀) (hn:n<=a₀.size) (hok:ok<=n) (h1 : 1<=ok) (hB:SBk kd a₀ st) (hs:Lex (kF kf st) (rS rk st) ok) (hr:Rst (rS rk st) ok a₀.size)
 (h:∀ st',SBk kd a₀ st'->Lex (kF kf st') (rS rk st') n->Q true st'):wpS (model prog w) A E s (binarySort' 0 n ok) Q st:=by
 rw [binarySort'_eq]
 simp only [Nat.zero_add]
 refine wpS_bind (wpS_mono (wpS_forRange (I:=λk c st'=>c=(none,())/\SBk kd a₀ st'/\Lex (kF kf st') (rS rk st') (min k n)/\Rst (rS rk st') (min k n) a₀.size)
  (Q:=λc st'=>c=(none,())/\SBk kd a₀ st'/\Lex (kF kf st') (rS rk st') n) ?step ?fin ?init) ?post)
 case post =>
  rintro c st' ⟨rfl,hB',hs'⟩
  exact wpS_pure (h st' hB' hs')
 case init =>
  rw [show min (max ok 1) n=ok by omega]
  exact ⟨rfl,hB,hs,hr⟩
 case fin =>
  rintro c st' ⟨hc,hB',hs',_⟩
  refine ⟨hc,hB',?_⟩
  rwa [show min (max (max ok 1) n) n=n by omega] at hs'
 case step =>
  rintro k c st' hak hkn ⟨rfl,hB',hs',hr'⟩
  rw [show min k n=k by omega] at hs' hr'
  have hk:k<a₀.size:=by omega
  refine wpS_bind (wpS_mono (wpS_forRange (I:=λx c st''=>st''=st'/\∃ l r,c=(none,l,r)/\l<=r/\r<=k/\r - l<=k - x /\
   (∀ i,i<l->KF kf (arrOf st') i<=KF kf (arrOf st') k)/\(∀ i,r<=i->i<k->KF kf (arrOf st') k<KF kf (arrOf st') i))
   (Q:=λc st''=>st''=st'/\∃ l r,c=(none,l,r)/\l<=k /\
    (∀ i,i<l->KF kf (arrOf st') i<=KF kf (arrOf st') k)/\(∀ i,l<=i->i<k->KF kf (arrOf st') k<KF kf (arrOf st') i)) ?istep ?ifin ?iinit) ?ipost)
  case iinit=>exact ⟨rfl,0,k,rfl,by omega,by omega,by omega,λi hi=>by omega,λi h1 h2=>by omega⟩
  case ifin =>
   rintro c st'' ⟨rfl,l,r,rfl,hlr,hrk,hm,hlo,hhi⟩
   have:l=r:=by omega
   subst this
   exact ⟨rfl,l,l,rfl,hrk,hlo,hhi⟩
  case istep =>
   rintro x c st'' _ hxk ⟨rfl,l,r,rfl,hlr,hrk,hm,hlo,hhi⟩
   dsimp only
   by_cases hge:l ≥ r
   ·rw [if_pos hge]
    have:l=r:=by omega
    subst this
    exact wpS_pure ⟨rfl,l,l,rfl,hrk,hlo,hhi⟩
   ·rw [if_neg hge]
    refine wpS_bind (h0 _ _ _ _ hB' hk (by omega) ?_)
    by_cases hless:KF kf (arrOf st'') k<KF kf (arrOf st'') ((l + r) / 2)
    ·simp only [hless,decide_true,if_true]
     refine wpS_pure ⟨rfl,l,(l + r) / 2,rfl,by omega,by omega,by omega,hlo,λi g1 g2=>?_⟩
     have:KF kf (arrOf st'') ((l + r) / 2)<=KF kf (arrOf st'') i:=hs'.le g1 g2
     omega
    ·simp only [hless,decide_false,Bool.false_eq_true,if_false]
     refine wpS_pure ⟨rfl,(l + r) / 2 + 1,r,rfl,by omega,by omega,by omega,λi g1=>?_,hhi⟩
     have:KF kf (arrOf st'') i<=KF kf (arrOf st'') ((l + r) / 2):=hs'.le (by omega) (by omega)
     omega
  case ipost =>
   rintro c st'' ⟨rfl,l,r,rfl,hlk,hlo,hhi⟩
   show wpS _ _ _ _ (do moveDown' k l; pure (ForInStep.yield (none,()))) _ _
   rw [moveDown'_eq]
   have hks:k<(arrOf st'').size:=by rw [hB'.size]; exact hk
   have hkk:RK rk (arrOf st'') k=k:=hr'.2 k (Nat.le_refl _) hk
   refine wpS_bind (wpS_modify (wpS_pure ⟨rfl,hB'.setArr (bubble_perm _ _ _),?_,?_⟩))
   ·rw [show min (k + 1) n=k + 1 by omega]
    intro i j hij hj
    show KF kf (bubble (arrOf st'') k (k - l)) i<KF kf (bubble (arrOf st'') k (k - l)) j\/(KF kf (bubble (arrOf st'') k (k - l)) i=KF kf (bubble (arrOf st'') k (k - l)) j/\RK rk (bubble (arrOf st'') k (k - l)) i<RK rk (bubble (arrOf st'') k (k - l)) j)
    rw [ib hks (by omega),ib hks (by omega),d7 hks (by omega),d7 hks (by omega),show k - (k - l)=l by omega]
    by_cases c1:i<l
    ·rw [if_neg (show ¬ i=l by omega),if_neg (show ¬ (l<i/\i<=k) by omega),if_neg (show ¬ i=l by omega),if_neg (show ¬ (l<i/\i<=k) by omega)]
     by_cases c2:j<l
     ·rw [if_neg (show ¬ j=l by omega),if_neg (show ¬ (l<j/\j<=k) by omega),if_neg (show ¬ j=l by omega),if_neg (show ¬ (l<j/\j<=k) by omega)]
      exact hs' i j hij (by omega)
     ·by_cases c3:j=l
      ·rw [if_pos c3,if_pos c3]
       have a1:=hlo i c1
       have a2:RK rk (arrOf st'') i<k:=hr'.1 i (by omega)
       omega
      ·rw [if_neg c3,if_pos ⟨by omega,by omega⟩,if_neg c3,if_pos ⟨by omega,by omega⟩]
       exact hs' i (j - 1) (by omega) (by omega)
    ·by_cases c2:i=l
     ·rw [if_pos c2,if_pos c2,if_neg (show ¬ j=l by omega),if_pos ⟨by omega,by omega⟩,if_neg (show ¬ j=l by omega),if_pos ⟨by omega,by omega⟩]
      exact .inl (hhi (j - 1) (by omega) (by omega))
     ·rw [if_neg c2,if_neg (show ¬ j=l by omega),if_neg c2,if_neg (show ¬ j=l by omega),if_pos (show l<i/\i<=k by omega),if_pos (show l<j/\j<=k by omega),if_pos (show l<i/\i<=k by omega),if_pos (show l<j/\j<=k by omega)]
      exact hs' (i - 1) (j - 1) (by omega) (by omega)
   ·rw [show min (k + 1) n=k + 1 by omega]
    refine ⟨λi hi=>?_,λi g1 g2=>?_⟩
    ·show RK rk (bubble (arrOf st'') k (k - l)) i<k + 1
     rw [d7 hks (by omega)]
     split
     ·omega
     ·split
      ·have:=hr'.1 (i - 1) (by omega)
       change RK rk (arrOf st'') (i - 1)<k at this
       omega
      ·by_cases hik:i<k
       ·have:=hr'.1 i hik
        change RK rk (arrOf st'') i<k at this
        omega
       ·have:i=k:=by omega
        subst this; omega
    ·show RK rk (bubble (arrOf st'') k (k - l)) i=i
     rw [d7 hks (by omega),if_neg (by omega),if_neg (by omega)]
     exact hr'.2 i (by omega) g2
def oy (rk:Keyed->Nat) (kf:Keyed->Int) (a₀:Array Keyed) (st:SortSt):Prop:=(arrOf st).Perm a₀/\failedOf st=none/\pendingOf st = #[(0,a₀.size,0)]/\Lex (kF kf st) (rS rk st) a₀.size
theorem nP {st:SortSt} (hB:SBk kd a₀ st) (hs:Lex (kF kf st) (rS rk st) a₀.size):oy rk kf a₀ (setPending st ((pendingOf st).push (0,a₀.size,0))) :=
 ⟨hB.perm,hB.failed,by show (pendingOf st).push _=_; rw [hB.pend]; rfl,hs⟩
theorem sP {st:SortSt} {Q:Unit->SortSt->Prop} (h0:LtF prog w A E s kd kf a₀) (hB:SBk kd a₀ st) (hr:∀ i,i<a₀.size->rS rk st i=i) (h2 : 2<=a₀.size) (h64:a₀.size<64)
 (h:∀ st',(arrOf st').Perm a₀->failedOf st'=none->Lex (kF kf st') (rS rk st') a₀.size->Q () st'):wpS (model prog w) A E s sortRuns' Q st:=by
 rw [sortRuns'_eq]
 refine wpS_bind (wpS_get ?_)
 dsimp only
 have hmr:minRun' a₀.size a₀.size 0=a₀.size:=by
  obtain ⟨f,hf⟩:∃ f,a₀.size=f + 1:=⟨a₀.size - 1,by omega⟩
  have:minRun' (f + 1) a₀.size 0=a₀.size:=by rw [minRun'_succ,if_pos h64]; rfl
  rwa [<- hf] at this
 simp only [hB.size,hmr]
 refine wpS_bind (wpS_mono (wpS_forRange
  (I:=λx c st'=>(x=0/\c=(none,0)/\st'=st)\/(1<=x/\c=(none,a₀.size)/\oy rk kf a₀ st'))
  (Q:=λc st'=>c=(none,a₀.size)/\oy rk kf a₀ st') ?step ?fin (.inl ⟨rfl,rfl,rfl⟩)) ?post)
 case fin =>
  rintro c st' (⟨hx,_,_⟩ | ⟨_,hc,hD⟩)
  ·omega
  ·exact ⟨hc,hD⟩
 case step =>
  rintro x c st' _ hx (⟨rfl,rfl,rfl⟩ | ⟨hx1,rfl,hD⟩)
  ·dsimp only
   rw [if_neg (by omega)]
   simp only [Nat.sub_zero,Nat.min_self,Nat.zero_add]
   refine wpS_bind (pB (rk:=rk) (kf:=kf) (kd:=kd) h0 (Nat.le_refl _) (by omega) hB hr λm st2 hB2 hm1 hm2 hs2 hr2=>?_)
   dsimp only
   by_cases hlt:m<a₀.size
   ·rw [if_pos hlt]
    refine wpS_bind (wpS_lift (wpAny_rule ⟨rfl,?_⟩))
    refine wpS_bind (bin_f (rk:=rk) (kf:=kf) (kd:=kd) h0 (Nat.le_refl _) hm2 hm1 hB2 hs2 hr2 λst3 hB3 hs3=>?_)
    simp only [Bool.not_true,Bool.false_eq_true,if_false]
    refine wpS_bind (wpS_get ?_)
    have hb:(pendingOf st3).back? = none:=by rw [hB3.pend]; rfl
    rw [hb]
    dsimp only
    exact wpS_bind (wpS_modify (wpS_pure (.inr ⟨by omega,rfl,nP hB3 hs3⟩)))
   ·rw [if_neg hlt]
    have hm:m=a₀.size:=by omega
    subst hm
    refine wpS_bind (wpS_get ?_)
    have hb:(pendingOf st2).back? = none:=by rw [hB2.pend]; rfl
    rw [hb]
    dsimp only
    exact wpS_bind (wpS_modify (wpS_pure (.inr ⟨by omega,rfl,nP hB2 hs2⟩)))
  ·dsimp only
   rw [if_pos (Nat.le_refl _)]
   exact wpS_pure ⟨rfl,hD⟩
 case post =>
  rintro c st' ⟨rfl,hD⟩
  dsimp only
  refine wpS_bind (wpS_mono (wpS_forRange (I:=λ_ c st''=>st''=st'/\c=(none,())) (Q:=λc st''=>st''=st'/\c=(none,())) ?_ (λ_ _ hh=>hh) ⟨rfl,rfl⟩) ?_)
  ·rintro x c st'' _ _ ⟨rfl,rfl⟩
   refine wpS_bind (wpS_get ?_)
   rw [if_pos (by rw [hD.2.2.1]; exact Nat.le_refl 1)]
   exact wpS_pure ⟨rfl,rfl⟩
  ·rintro c st'' ⟨rfl,rfl⟩
   exact wpS_pure (h _ hD.1 hD.2.1 hD.2.2.2)
end
section
variable {prog:Program} {w:World} {A:Around} {E:Value->Shared->Prop} {s:Shared} {a₀:Array Keyed} {rk:Keyed->Nat}
abbrev kS (st:SortSt):Nat->Int:=K (arrOf st)
def kfV (p:Keyed):Int:=numOf p.1
theorem K_kV (xs:Array Keyed):K xs=KF kfV xs:=funext λi=>by unfold K KF; cases xs[i]? <;> rfl
theorem qB (h0:IntKeys a₀):LtF prog w A E s oneType' kfV a₀:=λst i j Q hB hi hj h=>by
 rw [<- K_kV] at h
 exact wpS_ltK ⟨hB.perm,hB.kind,hB.failed,hB.pend⟩ h0 hi hj h
theorem qp {st:SortSt} {Q:Unit->SortSt->Prop} (h0:IntKeys a₀) (hB:SBase a₀ st) (hr:∀ i,i<a₀.size->rS rk st i=i) (h2 : 2<=a₀.size) (h64:a₀.size<64)
 (h:∀ st',(arrOf st').Perm a₀->failedOf st'=none->Lex (kS st') (rS rk st') a₀.size->Q () st'):wpS (model prog w) A E s sortRuns' Q st :=
 sP (qB h0) ⟨hB.perm,hB.kind,hB.failed,hB.pend⟩ hr h2 h64 λst' h1 h2 h3=>h st' h1 h2 (by unfold kS; rw [K_kV]; exact h3)
end
def rkV (p:Keyed):Nat:=(match p.2 with | .int z _=>z | _=>0:Int).toNat
section
variable {prog:Program} {w:World} {A:Around} {E:Value->Shared->Prop} {s:Shared} {h₀:Heap} {L:Addr} {m:Str->Option Value} {news:List (Addr×Obj)} {a kA:Addr} {vs:List Value} {kz:List Int} {keys:Array Value} {e e1:Nat} {P:PySem.Fin->Shared->Prop}
structure OutK (kz:List Int) (vs:List Value) (xs:Array Keyed):Prop where
 ex:∃ keys:Array Value,IntsAre keys.toList kz/\xs.Perm (keys.zip vs.toArray)/\Lex (K xs) (RK rkV xs) xs.size
theorem pf {st:SortSt} (F:Fr h₀ L s.heap m) (N:News h₀ L s.heap (news++[(kA,seqObj "list" keys e),(a,seqObj "list" #[] e1)])) (hka:kA≠a) (hnk:∀ p∈news,p.1≠kA) (hna:∀ p∈news,p.1≠a)
 (hk:IntsAre keys.toList kz) (hlen:kz.length=vs.length) (h64:vs.length<64) (hp:(arrOf st).Perm (keys.zip vs.toArray)) (hs:Lex (kS st) (rS rkV st) (arrOf st).size) (hfl:failedOf st=none)
 (h:∀ h' tk xs c,Fr h₀ L h' m->News h₀ L h' ((a,seqObj "list" (xs.map (·.2)) c) :: news)->OutK kz vs xs->P (.done (.ret .none)) { s with heap:=h',toks:=tk }) :
 wpAny (model prog w) A (ksk_tail a false e1 (.ref kA) st) P E s:=by
 have nk:=N (kA,seqObj "list" keys e) (List.mem_append_right _ (.head _))
 have na:=N (a,seqObj "list" #[] e1) (List.mem_append_right _ (.tail _ (.head _)))
 have Nn:News h₀ L s.heap news:=λp hp=>N p (List.mem_append_left _ hp)
 have hsz:keys.size=vs.length:=by have h1:=hk.length; rw [Array.length_toList] at h1; omega
 have hsz2:(arrOf st).size=vs.length:=by rw [hp.size_eq,Array.size_zip,hsz,List.size_toArray,Nat.min_self]
 have hout:((arrOf st).map (·.2)).size=vs.length:=by rw [Array.size_map]; exact hsz2
 have s1:=Heap.SameBut.update s.heap kA (Obj.mapSeq λ_=>(#[]:Array Value))
 have na1:(s.heap.update kA (Obj.mapSeq λ_=>(#[]:Array Value))).get? a=some (seqObj "list" #[] e1):=(s1.2 a hka.symm).trans na.1
 have s2:=Heap.SameBut.update (s.heap.update kA (Obj.mapSeq λ_=>(#[]:Array Value))) a (Obj.mapSeq λ_=>(arrOf st).map (·.2))
 obtain ⟨c2,hc2⟩:∃ c2,((s.heap.update kA (Obj.mapSeq λ_=>(#[]:Array Value))).update a (Obj.mapSeq λ_=>(arrOf st).map (·.2))).get? a=some (seqObj "list" ((arrOf st).map (·.2)) c2):=⟨_,get?_update_seq na1 λ_=>(arrOf st).map (·.2)⟩
 have N2:=ksk_news (ksk_news Nn s1 hnk) s2 hna
 unfold ksk_tail
 try dsimp only
 refine wpAny_bind (listUpdate_at nk.1 rfl ?_ (by rw [hsz,sizeLine_eq]; omega) (Nat.zero_le _))
 refine wpAny_bind (wpAny_letGo ?_)
 refine wpAny_bind (seqEpoch_at na1 rfl ?_)
 simp only [Bool.false_eq_true,if_false]
 refine wpAny_bind (listUpdate_at na1 rfl ?_ (Nat.zero_le _) (Nat.le_trans (Nat.le_of_eq hout) (by rw [sizeLine_eq]; omega)))
 rw [hfl]
 simp only [bne_self_eq_false,Bool.false_eq_true,if_false]
 refine wpAny_pure (h _ _ _ c2 (ksk_fr (ksk_fr F s1 nk.2.1 nk.2.2) s2 na.2.1 na.2.2) (λp hp=>?_) ⟨keys,hk,hp,hs⟩)
 rcases List.mem_cons.mp hp with rfl | hp
 ·exact ⟨hc2,na.2⟩
 ·exact N2 p hp
theorem qL (F:Fr h₀ L s.heap m) (N:News h₀ L s.heap (news++[(kA,seqObj "list" keys e),(a,seqObj "list" #[] e1)])) (hka:kA≠a) (hnk:∀ p∈news,p.1≠kA) (hna:∀ p∈news,p.1≠a)
 (hk:IntsAre keys.toList kz) (hlen:kz.length=vs.length) (h64:vs.length<64) (hrk:∀ keys:Array Value,IntsAre keys.toList kz->∀ i,i<(keys.zip vs.toArray).size->RK rkV (keys.zip vs.toArray) i=i)
 (h:∀ h' tk xs c,Fr h₀ L h' m->News h₀ L h' ((a,seqObj "list" (xs.map (·.2)) c) :: news)->OutK kz vs xs->P (.done (.ret .none)) { s with heap:=h',toks:=tk }) :
 wpAny (model prog w) A (ksk_end a false vs.toArray e1 (.ref kA) keys) P E s:=by
 have hsz:keys.size=vs.length:=by have h1:=hk.length; rw [Array.length_toList] at h1; omega
 have hzs:(keys.zip vs.toArray).size=vs.length:=by rw [Array.size_zip,hsz,List.size_toArray,Nat.min_self]
 unfold ksk_end
 simp only [Bool.false_eq_true,if_false]
 by_cases h2:vs.toArray.size<2
 ·rw [if_pos h2,if_pos h2]
  refine wpAny_bind (wpAny_pure ?_)
  rw [StateT.run_pure]
  refine wpAny_bind (wpAny_pure ?_)
  try dsimp only
  refine pf (st:=SortSt.mk' general' (keys.zip vs.toArray) #[] 7 none) F N hka hnk hna hk hlen h64 (Array.Perm.refl _) (λi j hij hj=>?_) rfl h
  have hj2:j<(keys.zip vs.toArray).size:=hj
  rw [hzs] at hj2
  rw [List.size_toArray] at h2
  omega
 ·rw [if_neg h2,if_neg h2]
  rw [List.size_toArray] at h2
  rw [ksk_kind hk (by rw [hsz]; omega)]
  refine wpAny_bind (wpAny_pure ?_)
  refine wpAny_bind (wpAny_mono (qp (rk:=rkV) (a₀:=keys.zip vs.toArray) (st:=SortSt.mk' oneType' (keys.zip vs.toArray) #[] 7 none)
   (Q:=λ_ st'=>(arrOf st').Perm (keys.zip vs.toArray)/\failedOf st'=none/\Lex (kS st') (rS rkV st') (keys.zip vs.toArray).size)
   (ksk_intKeys hk) ⟨Array.Perm.refl _,rfl,rfl,rfl⟩ (hrk keys hk) (by rw [hzs]; omega) (by rw [hzs]; exact h64) λst' a1 a2 a3=>⟨a1,a2,a3⟩) ?_ λ_ _ e=>e)
  rintro ⟨⟨⟩,st'⟩ s' ⟨rfl,hp,hf,hs⟩
  try dsimp only
  exact pf F N hka hnk hna hk hlen h64 hp (by rw [hp.size_eq]; exact hs) hf h
theorem sR {f:Value} (F:Fr h₀ L s.heap m) (N:News h₀ L s.heap (news++[(kA,seqObj "list" #[] 0),(a,seqObj "list" #[] e1)])) (hka:kA≠a) (hnk:∀ p∈news,p.1≠kA) (hna:∀ p∈news,p.1≠a)
 (hlen:kz.length=vs.length) (h64:vs.length<64) (hrk:∀ keys:Array Value,IntsAre keys.toList kz->∀ i,i<(keys.zip vs.toArray).size->RK rkV (keys.zip vs.toArray) i=i)
 (turn:∀ (i:Nat) (v:Value) (k:Int),vs[i]? = some v->kz[i]? = some k->∀ (h:Heap) (tk:Nat) (own:List (Addr×Obj)),Fr h₀ L h m->News h₀ L h (news++own) ->
  wpAny (model prog w) A (call f [v]) (KskEnd h₀ L m (news++own) k { s with heap:=h,toks:=tk }) (λ_ _=>False) { s with heap:=h,toks:=tk })
 (h:∀ h' tk xs c,Fr h₀ L h' m->News h₀ L h' ((a,seqObj "list" (xs.map (·.2)) c) :: news)->OutK kz vs xs->P (.done (.ret .none)) { s with heap:=h',toks:=tk }) :
 wpAny (model prog w) A (ksk_rest a f false vs.toArray e1 (.ref kA)) P E s:=by
 unfold ksk_rest
 refine wpAny_bind (wpAny_rule ?_)
 first
  | rw [List.forIn_toArray]
  | (rw [<- Array.forIn_toList]; simp only [List.toList_toArray])
  | rw [<- Array.forIn_toList]
 refine wpAny_bind (ksk_fold (λi s'=>∃ h' tk kB e,s' = { s with heap:=h',toks:=tk }/\Fr h₀ L h' m/\News h₀ L h' (news++[(kA,seqObj "list" kB e),(a,seqObj "list" #[] e1)])/\IntsAre kB.toList (kz.take i)) vs 0 s
  ⟨s.heap,s.toks,#[],0,rfl,F,N,by simpa using IntsAre.nil⟩ ?step ?done)
 case step =>
  rintro j x s' hx ⟨h',tk,kB,e,rfl,F',N',hk⟩
  simp only [Nat.zero_add] at hk ⊢
  have hj:j<vs.length:=(List.getElem?_eq_some_iff.mp hx).1
  obtain ⟨k,hkj⟩:∃ k,kz[j]? = some k:=⟨_,List.getElem?_eq_getElem (by omega)⟩
  have hz:kB.size<=vs.length:=by have h1:=hk.length; rw [Array.length_toList,List.length_take] at h1; omega
  refine wpAny_bind (wpAny_attempt (wpAny_mono (turn j x k hx hkj h' tk _ F' N') (λv s'' he=>?_) λ_ _ hF=>hF.elim))
  obtain ⟨g,tk2,t2,rfl,rfl,F2,N2⟩:=he
  try dsimp only
  have nk:=N2 (kA,seqObj "list" kB e) (List.mem_append_right _ (.head _))
  have na:=N2 (a,seqObj "list" #[] e1) (List.mem_append_right _ (.tail _ (.head _)))
  have s1:=Heap.SameBut.update g kA (Obj.mapSeq (·.push (.int k t2)))
  obtain ⟨c2,hc2⟩:∃ c2,(g.update kA (Obj.mapSeq (·.push (.int k t2)))).get? kA=some (seqObj "list" (kB.push (.int k t2)) c2):=⟨_,get?_update_seq nk.1 (·.push (.int k t2))⟩
  have ek:kz.take (j + 1)=kz.take j++[k]:=by rw [List.take_add_one,hkj]; simp
  have ea:(kB.push (Value.int k t2)).toList=kB.toList++[Value.int k t2]:=by simp
  refine wpAny_bind (listUpdate_at nk.1 rfl ?_ (by rw [sizeLine_eq]; omega) (Nat.le_trans (Nat.le_of_eq (Array.size_push ..)) (by rw [sizeLine_eq]; omega)))
  refine wpAny_pure ⟨rfl,_,_,kB.push (.int k t2),c2,rfl,ksk_fr F2 s1 nk.2.1 nk.2.2,λp hp=>?_,by rw [ea,ek]; exact ksk_snoc hk⟩
  rcases List.mem_append.mp hp with hp | hp
  ·exact ksk_news (λq hq=>N2 q (List.mem_append_left _ hq)) s1 hnk p hp
  ·rcases List.mem_cons.mp hp with rfl | hp
   ·exact ⟨hc2,nk.2⟩
   ·rw [List.mem_singleton.mp hp]
    exact ⟨(s1.2 a hka.symm).trans na.1,na.2⟩
 case done =>
  rintro s' ⟨h',tk,kB,e,rfl,F',N',hk⟩
  have hk':IntsAre kB.toList kz:=by
   have e3:kz.take (0 + vs.length)=kz:=List.take_of_length_le (by omega)
   rw [e3] at hk
   exact hk
  have nk:=N' (kA,seqObj "list" kB e) (List.mem_append_right _ (.head _))
  try dsimp only
  refine wpAny_bind (listItems_at nk.1 rfl ?_)
  exact qL F' N' hka hnk hna hk' hlen h64 hrk λh3 tk3 out c F3 N3 k3=>h h3 tk3 out c F3 N3 k3
theorem sM {f:Value} {n:Nat} (F:Fr h₀ L s.heap m) (N:News h₀ L s.heap news) (ho:s.heap.get? a=some (seqObj "list" vs.toArray n)) (haL:a≠L) (ha0:h₀.get? a=none) (hna:∀ p∈news,p.1≠a)
 (hlen:kz.length=vs.length) (h64:vs.length<64) (hrk:∀ keys:Array Value,IntsAre keys.toList kz->∀ i,i<(keys.zip vs.toArray).size->RK rkV (keys.zip vs.toArray) i=i)
 (turn:∀ (i:Nat) (v:Value) (k:Int),vs[i]? = some v->kz[i]? = some k->∀ (h:Heap) (tk:Nat) (own:List (Addr×Obj)),Fr h₀ L h m->News h₀ L h (news++own) ->
  wpAny (model prog w) A (call f [v]) (KskEnd h₀ L m (news++own) k { s with heap:=h,toks:=tk }) (λ_ _=>False) { s with heap:=h,toks:=tk })
 (h:∀ h' tk xs c,Fr h₀ L h' m->News h₀ L h' ((a,seqObj "list" (xs.map (·.2)) c) :: news)->OutK kz vs xs->P (.done (.ret .none)) { s with heap:=h',toks:=tk }) :
 wpAny (model prog w) A (ksk_tree a f false) P E s:=by
 have ha:a<s.heap.objs.size:=Heap.lt_size ho
 have s1:=Heap.SameBut.update s.heap a (Obj.mapSeq λ_=>(#[]:Array Value))
 obtain ⟨e1,ho1⟩:∃ e1,(s.heap.update a (Obj.mapSeq λ_=>(#[]:Array Value))).get? a=some (seqObj "list" #[] e1):=⟨_,get?_update_seq ho λ_=>#[]⟩
 have F1:=ksk_fr F s1 haL ha0
 have N1:=ksk_news N s1 hna
 have hkS:((s.heap.update a (Obj.mapSeq λ_=>(#[]:Array Value))).push (seqObj "tuple" vs.toArray 0)).objs.size=s.heap.objs.size + 1:=by rw [size_push',Heap.size_update]
 have hLk:L<((s.heap.update a (Obj.mapSeq λ_=>(#[]:Array Value))).push (seqObj "tuple" vs.toArray 0)).objs.size:=(F1.push _).ns.lt
 unfold ksk_tree
 refine wpAny_bind (listItems_at ho rfl ?_)
 refine wpAny_bind (listUpdate_at ho rfl ?_ (by rw [List.size_toArray,sizeLine_eq]; omega) (Nat.zero_le _))
 refine wpAny_bind (seqEpoch_at ho1 rfl ?_)
 refine wpAny_bind (wpAny_newTuple ?_ (by show vs.length<=_; rw [sizeLine_eq]; omega))
 refine wpAny_bind (wpAny_newList ?_ (Nat.zero_le _))
 refine wpAny_holding ?_
 refine sR (s:={ s with heap:=((s.heap.update a (Obj.mapSeq λ_=>(#[]:Array Value))).push (seqObj "tuple" vs.toArray 0)).push (seqObj "list" #[] 0) }) (kA:=((s.heap.update a (Obj.mapSeq λ_=>(#[]:Array Value))).push (seqObj "tuple" vs.toArray 0)).objs.size)
  ((F1.push _).push _) (λp hp=>?_) (by rw [hkS]; exact Nat.ne_of_gt (Nat.lt_succ_of_lt ha)) (λp hp=>by rw [hkS]; exact Nat.ne_of_lt (Nat.lt_succ_of_lt (Heap.lt_size (N p hp).1))) hna hlen h64 hrk turn h
 rcases List.mem_append.mp hp with hp | hp
 ·exact ⟨Heap.get?_push_of_some _ (Heap.get?_push_of_some _ (N1 p hp).1),(N1 p hp).2⟩
 ·rcases List.mem_cons.mp hp with rfl | hp
  ·exact ⟨Heap.get?_push_size _ rfl,Nat.ne_of_gt hLk,Heap.get?_none_of_le (Nat.le_trans F.above (Nat.le_of_lt hLk))⟩
  ·rw [List.mem_singleton.mp hp]
   exact ⟨Heap.get?_push_of_some _ (Heap.get?_push_of_some _ ho1),haL,ha0⟩
end
section
variable {prog:Program} {w:World} {A:Around} {E:Value->Shared->Prop} {s:Shared}
theorem f7 {r:Addr} {a b c:Int} {t u v:Tok} {n:Nat} {Q:List Value->Shared->Prop} (hh:A.handled=none) (hr:IsRange s.heap r a b c t u v) (hsmall:Builtin.Range.small a b c=true)
 (hn:Builtin.Range.rangeSize a b c=n) (hlen:n<=2 ^ 24)
 (h:∀ h' tk (ys:List Value),s.heap.objs.size<=h'.objs.size->(∀ b o,s.heap.get? b=some o->h'.get? b=some o)->ys.length=n->(∀ (j:Nat) v,ys[j]? = some v->∃ t,v=Value.int (a + j * c) t)->Q ys { s with heap:=h',toks:=tk }) :
 wpAny (model prog w) A (collect (.ref r)) Q E s:=by
 unfold collect
 refine wpAny_bind (wpAny_runValue (codeAny_builtin F.entry_proto_collect ?_))
 rw [Around.under_plainId F.plain_proto_collect _]
 show wpAny _ A.in1 (newList [] >>= λl=>again (.builtin "list.__iadd__" ⟨[l,.ref r],[]⟩)) _ _ s
 refine wpAny_bind (wpAny_newObj_type ?_)
 refine wpAny_pure ⟨plainId_quiet F.plain_list_iadd _,codeAny_builtin F.entry_list_iadd ?_⟩
 rw [Around.under_plainId F.plain_list_iadd _]
 have hr':IsRange (s.heap.push (seqObj "list" #[] 0)) r a b c t u v:=Heap.get?_push_of_some _ hr
 have fin:∀ h' tk acc' c',(∀ b o,b≠s.heap.objs.size->(s.heap.push (seqObj "list" #[] 0)).get? b=some o->h'.get? b=some o)->h'.get? s.heap.objs.size=some { cls:=.type "list",dict:=none,data:=.seq acc' c',slots:=#[] } ->
  ItemsOf (λi v=>∃ t,v = .int (a + i * c) t) acc' n->wpAny (model prog w) A (do
   let o <- load s.heap.objs.size
   match o.data with
   | .seq xs _=>pure xs.toList
   | _=>unsupported "internal:collect") Q E { s with heap:=h',toks:=tk }:=λh' tk acc' c' hk hS' hacc=>by
  refine wpAny_bind (wpAny_load hS' ?_)
  refine wpAny_pure (h h' tk acc'.toList (Nat.le_of_lt (Heap.lt_size hS')) (λb o e=>hk b o (Nat.ne_of_lt (Heap.lt_size e)) (Heap.get?_push_of_some _ e)) (by simpa using hacc.1) λj v hv=>?_)
  exact hacc.2 j v (by simpa using hv)
 have main := wpAny_extend_range (prog := prog) (w := w) (A := A) (s := { s with heap := s.heap.push (seqObj "list" #[] 0) }) (R := λr s' => r = .ok (.ret (.ref s.heap.objs.size)) /\ wpAny (model prog w) A (do
       let o <- load s.heap.objs.size
       match o.data with
       | .seq xs _=>pure xs.toList
       | _=>unsupported "internal:collect") Q E s') hh hr' hsmall hn hlen s.heap.objs.size (.ref s.heap.objs.size) 0 (Heap.get?_push_size _ rfl) λh' tk acc' c' hk hS' hacc=>⟨rfl,fin h' tk acc' c' hk hS' hacc⟩
 refine wpAny_mono main (λf s' q=>?_) λe s' q=>by cases q.1
 cases f with
 | done f=>obtain ⟨e,q⟩:=q; cases e; exact q
 | again c'=>exact ⟨q.1,codeAny_mono q.2 λr s'' q=>by obtain ⟨rfl,q⟩:=q; exact q⟩
theorem fM:∀ (ys:List Value) (a:Int),(∀ (j:Nat) v,ys[j]? = some v->∃ t,v=Value.int (a + j * 1) t)->IntsAre ys ((List.range ys.length).map λ(i:Nat)=>a + (i:Int))
 | [],_,_=>.nil
 | y :: ys,a,h=>by
  obtain ⟨t,rfl⟩:=h 0 y rfl
  have ih:=fM ys (a + 1) λj v e=>by
   obtain ⟨t,rfl⟩:=h (j + 1) v (by simpa using e)
   exact ⟨t,by congr 1; push_cast; omega⟩
  rw [List.length_cons,List.range_succ_eq_map,List.map_cons,List.map_map]
  have e:((List.range ys.length).map ((λ(i:Nat)=>a + (i:Int)) ∘ Nat.succ))=(List.range ys.length).map λ(i:Nat)=>a + 1 + (i:Int):=List.map_congr_left λi _=>by show a + ((i + 1:Nat):Int)=_; omega
  rw [e]
  have e0:a + ((0:Nat):Int) * 1=a + ((0:Nat):Int):=by omega
  rw [e0]
  exact .cons _ t ih
variable {h₀:Heap} {L:Addr} {m:Str->Option Value} {news:List (Addr×Obj)}
theorem fg:∀ {vs:List Value} {ns:List Int} {i:Nat} {v:Value},IntsAre vs ns->vs[i]? = some v->∃ z t,ns[i]? = some z/\v = .int z t
 | _,_,i,v,.nil,h=>by simp at h
 | _,_,0,v,.cons n t r,h=>by simp at h; exact ⟨n,t,rfl,h.symm⟩
 | _,_,i + 1,v,.cons n t r,h=>by
  obtain ⟨z,t',h1,h2⟩:=fg r (show _[i]? = some v by simpa using h)
  exact ⟨z,t',by simpa using h1,h2⟩
theorem k7 {keys:Array Value} {vs:List Value} {i:Nat} {p:Keyed} (h:(keys.zip vs.toArray)[i]? = some p):keys.toList[i]? = some p.1/\vs[i]? = some p.2:=by
 have h2:(keys.zip vs.toArray).toList[i]? = some p:=by rw [Array.getElem?_toList]; exact h
 rw [ksk_zip] at h2
 obtain ⟨x,y⟩:=p
 rw [List.getElem?_zip_eq_some] at h2
 exact h2
theorem jw {n:Nat} {kz:List Int} {vs:List Value} (hi:IntsAre vs ((List.range n).map λ(i:Nat)=>(i:Int))) (keys:Array Value) (_:IntsAre keys.toList kz) (i:Nat) (hl:i<(keys.zip vs.toArray).size):RK rkV (keys.zip vs.toArray) i=i:=by
 have h:(keys.zip vs.toArray)[i]? = some (keys.zip vs.toArray)[i]:=getElem?_pos _ i hl
 obtain ⟨_,h2⟩:=k7 h
 obtain ⟨z,t,h3,h4⟩:=fg hi h2
 unfold RK
 rw [h]
 show rkV (keys.zip vs.toArray)[i]=i
 unfold rkV
 rw [h4]
 rw [List.getElem?_map,Option.map_eq_some_iff] at h3
 obtain ⟨i',e1,e2⟩:=h3
 obtain ⟨g1,g2⟩:=List.getElem?_eq_some_iff.mp e1
 rw [List.getElem_range] at g2
 subst g2
 show z.toNat=i
 omega
theorem jT {kz:List Int} {f:Value} {kw:List (Str×Value)} {r:Addr} {t u v:Tok} {n:Nat} {Q:Value->Shared->Prop} (F:Fr h₀ L s.heap m) (N:News h₀ L s.heap news) (hh:A.handled=none) (hr:IsRange s.heap r 0 n 1 t u v) (hlen:kz.length=n) (h64:n<64)
 (ha1:argsOk "sorted" ⟨[.ref r],kw⟩) (ha2:∀ x,argsOk "list.sort" ⟨[.ref x],kw⟩) (ht:∀ x,Builtin.«list.sort» ⟨[.ref x],kw⟩=ksk_tree x f false)
 (turn:∀ (i:Nat) (k:Int) (ti:Tok),kz[i]? = some k->∀ (h:Heap) (tk:Nat) (own:List (Addr×Obj)),Fr h₀ L h m->News h₀ L h (news++own) ->
  wpAny (model prog w) A.in1.in1 (call f [.int i ti]) (KskEnd h₀ L m (news++own) k { s with heap:=h,toks:=tk }) (λ_ _=>False) { s with heap:=h,toks:=tk })
 (h:∀ D h' tk vs xs c,Fr h₀ L h' m->News h₀ L h' ((D,seqObj "list" (xs.map (·.2)) c) :: news)->s.heap.objs.size<=D->IntsAre vs ((List.range n).map λ(i:Nat)=>(i:Int))->OutK kz vs xs->Q (.ref D) { s with heap:=h',toks:=tk }) :
 wpAny (model prog w) A (call (.builtin "sorted") [.ref r] kw) Q E s:=by
 refine call_function_entry_kw kind_sorted plain_sorted entry_sorted ha1 ?_
 unfold Builtin.«sorted»
 refine wpAny_bind (m:=checkCount "sorted" 1 1 _) (wpAny_pure ?_)
 have hn1:Builtin.Range.rangeSize 0 n 1=(n:Int):=by rw [rangeSize_one]; split <;> omega
 refine wpAny_bind (f7 (n:=n) hh hr (small_one (by omega) (by omega) (by omega) (by omega)) hn1 (by omega) λh1 tk1 ys hsz hk hyl hys=>?_)
 refine wpAny_bind (wpAny_newList ?_ (by rw [sizeLine_eq]; omega))
 have hi:IntsAre ys ((List.range n).map λ(i:Nat)=>(i:Int)):=by
  have:=fM ys 0 hys
  rw [hyl] at this
  have e:((List.range n).map λ(i:Nat)=>(0:Int) + (i:Int))=(List.range n).map λ(i:Nat)=>(i:Int):=List.map_congr_left λi _=>by omega
  rw [e] at this; exact this
 have hoL:(h1.push (seqObj "list" ys.toArray 0)).get? h1.objs.size=some (seqObj "list" ys.toArray 0):=Heap.get?_push_size _ rfl
 have keep:∀ b o,s.heap.get? b=some o->(h1.push (seqObj "list" ys.toArray 0)).get? b=some o:=λb o q=>Heap.get?_push_of_some _ (hk b o q)
 have hL:L<h1.objs.size:=Heap.lt_size (hk _ _ F.ns.choose_spec.choose_spec.choose_spec.1)
 show wpAny _ _ _ _ _ { s with heap:=h1.push (seqObj "list" ys.toArray 0),toks:=tk1 }
 refine wpAny_bind (wpAny_holding (wpAny_call_entry_kw slot_list_sort ⟨_,hoL,rfl⟩ entry_list_sort ?body (ha2 _)))
 case body =>
  have ht':=ht h1.objs.size
  show wpAny (model prog w) A.in1.in1 (Builtin.«list.sort» ⟨[.ref h1.objs.size],kw⟩) _ _ _
  rw [ht']
  refine sM (s:={ s with heap:=h1.push (seqObj "list" ys.toArray 0),toks:=tk1 })
   (F.kept keep) (N.grown keep) hoL (Nat.ne_of_gt hL) (Heap.get?_none_of_le (Nat.le_trans F.above (Nat.le_of_lt hL)))
   (λp hp=>Nat.ne_of_lt (Heap.lt_size (hk _ _ (N p hp).1))) (hlen.trans hyl.symm) (by omega) (jw hi) (λi v k hv hkz h tk own Fh Nh=>?_) λh' tk out c F' N' k'=>⟨_,rfl,?_⟩
  ·obtain ⟨ti,rfl⟩:=hys i v hv
   have e:(0:Int) + (i:Int) * 1=(i:Int):=by omega
   rw [e]
   exact turn i k ti hkz h tk own Fh Nh
  ·exact wpAny_pure ⟨_,rfl,h _ h' tk ys out c F' N' hsz hi k'⟩
end
structure TbS (H H':Hp):Prop where
 old:∀ a o,H a=some o->(∀ ps q,o≠.tbl ps q)->H' a=some o
 tab:∀ a ps q,H a=some (.tbl ps q)->∃ more,H' a=some (.tbl (ps++more) q)
 new:∀ a,H' a=none->H a=none
 frz:∀ a o,H' a=some o->H a=none->∃ ob u,o = .frz ob u
theorem TbS.refl {H:Hp}:TbS H H:=⟨λ_ _ e _=>e,λ_ ps _ e=>⟨#[],by rw [e]; simp⟩,λ_ e=>e,λa o e n=>by rw [n] at e; cases e⟩
structure TabB (base:Heap) (mg:Str->Option Value) (c P:Addr) (q:Str):Prop where
 tm:TMk base P q
 code:CodeHd base c P
 blt:base.BuiltinsAt mg P
theorem nz {pos:Pos} {a b:Int} {c cv:Value} (l:List Value) (h:TriplesOk l):codeAmong pos (l++[rawInt a,rawInt b,c])=some cv->codeAmong pos l=some cv\/cv=c:=by
 fun_induction TriplesOk l with
 | case1 =>
  intro e
  simp only [List.nil_append,rawInt,codeAmong] at e
  split at e
  ·cases e; exact .inr rfl
  ·cases e
 | case2 a' t b' u x rest ih =>
  intro e
  simp only [List.cons_append,codeAmong] at e ⊢
  split at e
  ·rename_i hc; rw [if_pos hc]; exact .inl e
  ·rename_i hc; rw [if_neg hc]; exact ih h e
 | case3 l h1 h2=>exact h.elim
section
variable {X:Cx} {pins:List (Addr×Obj)} {σ:St} {H:Hp} {s:Shared} {args:Arguments} {body:Expr} {scope:Scope} {pos:Pos} {c P:Addr} {clos:List (Str×Addr)}
abbrev iP (X:Cx) (args:Arguments) (body:Expr) (scope:Scope) (clos:List (Str×Addr)) (cv ctv:Value):Obj:={ cls:=.type "function",data:=.func (kla_fn "<lambda>" (X.env.qual ++ "<lambda>") args body scope clos ((X.mg "__name__").getD .none) cv ctv) }
theorem nQ {Q:Value->Shared->Prop} (I:Inv X pins σ H s) (hdf:defaultsOf args X.env=([],[])) (hcl:closureFor scope X.env=pure clos) (hcode:X.env.code = .ref c) (hB:TabB X.base X.mg c P (X.env.qual ++ "<lambda>"))
 (h:∀ f cv ctv H' s',Inv X ((f,iP X args body scope clos cv ctv) :: pins) σ H' s'->TbS H H'->(∃ c' oc vs t,cv = .ref c'/\H' c'=some (.frz oc (.own 0))/\oc.data = .fields vs/\vs[1]? = some (.str (X.env.qual ++ "<lambda>") t))->Q (.ref f) s') :
 wpAny (model X.prog X.w) X.A (eval (.Lambda args body scope pos) X.env) Q X.xe s:=by
 rw [arm_eval_Lambda,hdf]
 show wpAny _ _ (do let dv <- evalAll []; let kdv <- holding dv (evalAllOpt []); makeFunction "<lambda>" (X.env.qual ++ "<lambda>") args (.expr body) scope X.env dv kdv [] pos pos.line) _ _ s
 refine wpAny_bind (m:=evalAll []) (wpAny_pure ?_)
 refine wpAny_bind (wpAny_holding (m:=evalAllOpt []) (wpAny_pure ?_))
 obtain ⟨hM,hC,hB⟩:=hB
 obtain ⟨ps,hps⟩:=(I.ok.tb.un I.base) P _ hM
 obtain ⟨hP,hV⟩:=I.hok P _ hps
 have bP:X.base.get? P=none:=by
  cases e:X.base.get? P with
  | none=>rfl
  | some o =>
   obtain ⟨e1,n1⟩:=nofree e
   rw [show X.base.objs[P]? = _ from hM] at e1; cases e1
   exact absurd rfl n1
 have neP:∀ {b:Addr} {o:Obj},X.base.get? b=some o->b≠P:=λe z=>by rw [z,bP] at e; cases e
 have hC':CodeHd s.heap c P:=hC.keeps I.bk
 have hg:s.heap.Ns mainGlobals X.mg:=I.ok.mod.glob.keeps I.bk
 have hgP:mainGlobals≠P:=by
  obtain ⟨o,es,ep,e,_⟩:=I.ok.mod.glob
  exact neP e
 have hb:s.heap.BuiltinsAt X.mg P:=by
  obtain ⟨bm,o,b1,b2,b3,b4,b5,b6⟩:=hB
  exact ⟨bm,o,b1,b2,b3,b4,I.bk _ _ b5,b6⟩
 have glob:X.env.globals=mainGlobals:=I.ok.glob
 have pinned:∀ {f:Addr} {o:Obj} {H':Hp} {s':Shared} {s1:Nat},Inv X pins σ H' s'->s'.heap.get? f=some o->H' f=none->s.heap.objs.size<=f->(∀ v,o.data≠.cell v)->Inv X ((f,o) :: pins) σ H' s':=λ{f o H' s' s1} J e n hf nc=>by
  refine J.pins_of λp hp=>?_
  rcases List.mem_cons.mp hp with rfl | hp
  ·refine ⟨e,n,Nat.ne_of_gt (Nat.lt_of_lt_of_le I.lt hf),λz=>?_,nc⟩
   obtain ⟨_,o',e',_⟩:=J.ok.funs.mem z
   exact absurd (Nat.lt_of_lt_of_le (Heap.lt_size e') (Nat.le_trans I.sz hf)) (Nat.lt_irrefl _)
  ·exact J.pin p (List.mem_append_right _ hp)
 cases hf:codeAmong pos ps.toList with
 | some cv =>
  refine kla_makeFunctionHit hcl glob hg hcode hC' hP hV.1 hf hb λctv h' tk hk hsz=>?_
  have J:Inv X pins σ H { s with heap:=h'.push (iP X args body scope clos cv ctv),toks:=tk }:=I.kept λb o e=>Heap.get?_push_of_some _ (hk b o e)
  exact h _ cv ctv H _ (pinned (s1:=0) J (Heap.get?_push_size _ rfl) (I.hok.fresh hsz) hsz (λv z=>by cases z)) TbS.refl (hV.2 pos cv hf)
 | none =>
  refine kla_makeFunction hcl glob hg hcode hC' hP hV.1 hf hgP hb λc' ctv h' tk hx hge hlt hrec htab=>?_
  obtain ⟨c0,oc,vc,tq,hc0,hoc,hdc,hqc⟩:=hrec
  cases hc0
  have hne:c'≠P:=λz=>absurd (Nat.lt_of_lt_of_le (Heap.lt_size hP) hge) (by rw [z]; exact Nat.lt_irrefl _)
  obtain ⟨H',hH'⟩:∃ H',H'=upd (upd H P (.tbl (ps++#[rawInt pos.line,rawInt pos.col,.ref c']) (X.env.qual ++ "<lambda>"))) c' (.frz oc (.own 0)):=⟨_,rfl⟩
  have atP:H' P=some (.tbl (ps++#[rawInt pos.line,rawInt pos.col,.ref c']) (X.env.qual ++ "<lambda>")):=by rw [hH',ah (Ne.symm hne),ay]
  have atC:H' c'=some (.frz oc (.own 0)):=by rw [hH',ay]
  have hcn:H c'=none:=I.hok.fresh hge
  have oth:∀ b,b≠P->b≠c'->H' b=H b:=λb z1 z2=>by rw [hH',ah z2,ah z1]
  have neo:∀ {b u},H b=some u->b≠c':=λe z=>by rw [z,hcn] at e; cases e
  have old:∀ a o,H a=some o->(∀ ps q,o≠.tbl ps q)->H' a=some o:=λa o e n=>by
   rw [oth a (λz=>by rw [z,hps] at e; cases e; exact n _ _ rfl) (neo e)]; exact e
  have hx2:∀ b o,b≠P->s.heap.get? b=some o->(h'.push (iP X args body scope clos (.ref c') ctv)).get? b=some o:=λb o z e=>Heap.get?_push_of_some _ (hx b o z e)
  have hhsz:s.heap.objs.size<=h'.objs.size:=Nat.le_trans hge (Nat.le_of_lt hlt)
  have un:Un X.fs [] H H' s.heap (h'.push (iP X args body scope clos (.ref c') ctv)):={
   keep:=λb o e n _ _=>hx2 b o (λz=>by rw [z,hps] at n; cases n) e
   slot:=λb o e n _ _=>⟨o.slots,hx2 b o (λz=>by rw [z,hps] at n; cases n) e⟩
   free:=λb o e n _=>by rw [oth b (λz=>by rw [z,hps] at n; cases n) (Nat.ne_of_lt (Nat.lt_of_lt_of_le (Heap.lt_size e) hge))]; exact n
   there:=λb o e _=>by
    by_cases z:b=P
    ·subst z; exact ⟨_,Heap.get?_push_of_some _ htab⟩
    ·exact ⟨o,hx2 b o z e⟩
   tups:=λb xs e=>old b _ e λ_ _ z=>by cases z
   frzs:=λb o u e=>old b _ e λ_ _ z=>by cases z
   tbls:=λb qs q e=>by
    by_cases z:b=P
    ·subst z; rw [hps] at e; cases e; exact ⟨_,atP⟩
    ·exact ⟨#[],by rw [oth b z (neo e),e]; simp⟩ }
  have hok:HOk X.prog X.w H' (h'.push (iP X args body scope clos (.ref c') ctv)):=λb u e=>by
   by_cases z:b=P
   ·subst z; rw [atP] at e; cases e
    refine ⟨Heap.get?_push_of_some _ htab,by simpa using TriplesOk_snoc pos.line pos.col (.ref c') ps.toList hV.1,λpos' cv e=>?_⟩
    rcases nz ps.toList hV.1 (by simpa using e) with e | rfl
    ·obtain ⟨c2,o2,v2,t2,a1,a2,a3⟩:=hV.2 pos' cv e
     exact ⟨c2,o2,v2,t2,a1,old _ _ a2 (λ_ _ z=>by cases z),a3⟩
    ·exact ⟨c',oc,vc,tq,rfl,atC,hdc,hqc⟩
   ·by_cases z2:b=c'
    ·subst z2; rw [atC] at e; cases e
     exact ⟨Heap.get?_push_of_some _ hoc,_,Heap.get?_push_of_some _ hoc⟩
    ·rw [oth b z z2] at e
     refine (I.hok b u e).stay (λd v hd q=>hx2 d v ?_ q) (λd q=>old d _ q λ_ _ z=>by cases z) (λd xs q=>old d _ q λ_ _ z=>by cases z) λd ob u q=>old d _ q λ_ _ z=>by cases z
     rcases hd with rfl | hd
     ·exact z
     ·exact λy=>by rw [y,hps] at hd; cases hd
  have J:Inv X pins σ H' { s with heap:=h'.push (iP X args body scope clos (.ref c') ctv),toks:=tk }:=I.un un hok
  refine h _ (.ref c') ctv H' _ (pinned (s1:=0) J (Heap.get?_push_size _ rfl) (by rw [oth _ (Nat.ne_of_gt (Nat.lt_of_lt_of_le (Heap.lt_size hP) hhsz)) (Nat.ne_of_gt hlt)]; exact I.hok.fresh hhsz) hhsz (λv z=>by cases z)) ⟨old,un.tbls,λa e=>?_,λa o e n=>?_⟩ ⟨c',oc,vc,tq,rfl,atC,hdc,hqc⟩
  ·by_cases z:a=P
   ·rw [z,atP] at e; cases e
   ·by_cases z2:a=c'
    ·rw [z2]; exact hcn
    ·rw [oth a z z2] at e; exact e
  ·by_cases z:a=P
   ·rw [z,hps] at n; cases n
   ·by_cases z2:a=c'
    ·rw [z2,atC] at e; cases e; exact ⟨_,_,rfl⟩
    ·rw [oth a z z2,n] at e; cases e
end
section
variable {prog:Program} {w:World} {A:Around} {s:Shared} {X:Cx} {args:Arguments} {scope:Scope} {clos:List (Str×Addr)} {cv ctv:Value} {f cc p:Addr} {x y:Str} {p1 p2 p3 p4:Pos}
theorem mq {its:Array Value} {i:Nat} {ti:Tok} {k:Int} {tk0:Tok} (ho:s.heap.get? f=some (iP X args (.UnaryOp .USub (.Subscript (.Name y p1) (.Name x p2) p3) p4) scope clos cv ctv)) (hcd:s.heap.CodeRec cv (X.env.qual ++ "<lambda>"))
 (hce:s.heap.IsCell cc (some (.ref p))) (hl:s.heap.IsList p its) (hi:its[i]? = some (.int k tk0)) (hlim:s.heap.NoLimit) (hroom:A.depth<recursionLimit) (hi63:i<2 ^ 62)
 (hb:bindArgs (kla_fn "<lambda>" (X.env.qual ++ "<lambda>") args (.UnaryOp .USub (.Subscript (.Name y p1) (.Name x p2) p3) p4) scope clos ((X.mg "__name__").getD .none) cv ctv) ⟨[.int i ti],[]⟩=pure [(x,.int i ti)])
 (hk:scope.kind = .function) (hco:scope.isCoroutine=false) (hgen:scope.isGenerator=false) (hnc:∀ z∈scope.names,z.2≠.cell) (hx:scope.names.lookup x=some .local) (hy:scope.names.lookup y=some .free) (hyc:clos.lookup y=some cc)
 (dx:(x == ("__debug__":Str))=false) (dy:(y == ("__debug__":Str))=false) (ey:(y == ("__classdict__":Str))=false) :
 wpAny (model prog w) A (call (.ref f) [.int i ti]) (λv s'=>∃ h' tk t',s' = { s with heap:=h',toks:=tk }/\v = .int (-k) t'/\∀ b o,s.heap.get? b=some o->h'.get? b=some o) (λ_ _=>False) s:=by
 refine wpAny_call ?_
 refine kla_callFunE hroom ho rfl hco hgen rfl hcd ?_
 rw [hb]
 refine wpAny_pure (wpAny_newFunctionEnv hnc (λz hz=>by rw [List.mem_singleton.mp hz]; exact hx) (λh₁ hns hsb=>⟨hlim.fresh _ hsb,?_⟩) hk)
 have hk₁:∀ b o,s.heap.get? b=some o->h₁.get? b=some o:=λb o e=>hsb.extBut b o (Nat.ne_of_lt (Heap.lt_size e)) (Heap.get?_push_of_some _ e)
 refine kla_codeExpr ?_
 rw [arm_eval_UnaryOp]
 refine wpAny_bind ?_
 refine Subscript_ (wpAny_Name (wpAny_loadName_free hk hy hyc (hce.keeps hk₁) ?_ ey) dy)
 refine wpAny_Name (wpAny_loadName_local (v:=.int i ti) hk hx hns (by show ([(x,Value.int i ti)]:List (Str×Value)).reverse.lookup x=_; simp) ?_) dx
 refine item_listR (x:=.int k tk0) (let ⟨o,e,r⟩:=hl; ⟨o,hk₁ _ _ e,r⟩) (by omega) (by omega) (by simpa using hi) ?_ (by with_unfolding_all rfl)
 refine wpAny_bind (wpAny_standAt ?_)
 refine wpAny_holding ?_
 exact neg_int ⟨h₁,_,_,rfl,rfl,hk₁⟩
end
def jh:Value->Int
 | .int z _=>z
 | _=>0
theorem jB:∀ {kz:List Int} {vs:List Value} {ns:List Int},IntsAre vs ns->kz.length=ns.length->(kz.zip vs).map (λp=>jh p.2)=ns
 | [],_,_,.nil,_=>rfl
 | [],_,_,.cons _ _ _,h=>by cases h
 | _ :: _,_,_,.nil,h=>by cases h
 | k :: kz,_,_,.cons n t r,h=>by
  rw [List.zip_cons_cons,List.map_cons,jB r (by simpa using h)]
  rfl
theorem lz:∀ {vs:List Value},(∀ v∈vs,∃ z t,v=Value.int z t)->IntsAre vs (vs.map jh)
 | [],_=>.nil
 | v :: vs,h=>by
  obtain ⟨z,t,rfl⟩:=h v (.head _)
  exact .cons z t (lz λu hu=>h u (.tail _ hu))
structure SortK (n:Nat) (key:Int->Int) (out:List Int):Prop where
 perm:out.Perm ((List.range n).map λ(i:Nat)=>(i:Int))
 ord:out.Pairwise λa b=>key a<=key b
 st:out.Pairwise λa b=>key a<key b\/(key a=key b/\a<b)
theorem SortK.of {n:Nat} {key:Int->Int} {vs:List Value} {xs:Array Keyed} (hi:IntsAre vs ((List.range n).map λ(i:Nat)=>(i:Int))) (h:OutK ((List.range n).map λ(i:Nat)=>key (i:Int)) vs xs):∃ os:List Int,IntsAre (xs.map (·.2)).toList os/\SortK n key os:=by
 obtain ⟨keys,hk,hp,hs⟩:=h.ex
 have hpl:xs.toList.Perm (keys.zip vs.toArray).toList:=Array.perm_iff_toList_perm.mp hp
 have hm:∀ q∈xs.toList,∃ (i:Nat) (t u:Tok),q.1 = .int (key (i:Int)) t/\q.2 = .int (i:Int) u:=λq hq=>by
  obtain ⟨i,hi2⟩:=List.getElem?_of_mem (hpl.mem_iff.mp hq)
  rw [Array.getElem?_toList] at hi2
  obtain ⟨g1,g2⟩:=k7 hi2
  obtain ⟨a,t,a1,a2⟩:=fg hk g1
  obtain ⟨b,u,b1,b2⟩:=fg hi g2
  rw [List.getElem?_map,Option.map_eq_some_iff] at a1 b1
  obtain ⟨i1,e1,rfl⟩:=a1
  obtain ⟨i2,e2,rfl⟩:=b1
  rw [e1] at e2; cases e2
  exact ⟨i1,t,u,a2,b2⟩
 have at':∀ (i:Nat) (hl:i<xs.size),∃ (z:Nat) (t u:Tok),xs[i]? = some (.int (key (z:Int)) t,.int (z:Int) u):=λi hl=>by
  have e:xs[i]? = some xs[i]:=getElem?_pos _ i hl
  obtain ⟨z,t,u,h1,h2⟩:=hm xs[i] (by simp)
  exact ⟨z,t,u,by rw [e]; congr 1; exact Prod.ext h1 h2⟩
 have hst:(xs.toList.map λp=>jh p.2).Pairwise λa b=>key a<key b\/(key a=key b/\a<b):=by
  rw [List.pairwise_map,List.pairwise_iff_getElem]
  intro i j hi' hj' hij
  have hj2:j<xs.size:=by simpa using hj'
  obtain ⟨z,t,u,e1⟩:=at' i (by omega)
  obtain ⟨z',t',u',e2⟩:=at' j hj2
  have g1:xs.toList[i]=(.int (key (z:Int)) t,.int (z:Int) u):=by
   have:xs.toList[i]? = some (.int (key (z:Int)) t,.int (z:Int) u):=by rw [Array.getElem?_toList]; exact e1
   rw [List.getElem?_eq_getElem hi'] at this; exact Option.some.inj this
  have g2:xs.toList[j]=(.int (key (z':Int)) t',.int (z':Int) u'):=by
   have:xs.toList[j]? = some (.int (key (z':Int)) t',.int (z':Int) u'):=by rw [Array.getElem?_toList]; exact e2
   rw [List.getElem?_eq_getElem hj'] at this; exact Option.some.inj this
  rw [g1,g2]
  have k1:K xs i=key (z:Int):=by unfold K; rw [e1]; rfl
  have k2:K xs j=key (z':Int):=by unfold K; rw [e2]; rfl
  have r1:RK rkV xs i=z:=by unfold RK; rw [e1]; show ((z:Int)).toNat=z; omega
  have r2:RK rkV xs j=z':=by unfold RK; rw [e2]; show ((z':Int)).toNat=z'; omega
  have:=hs i j hij hj2
  rw [k1,k2,r1,r2] at this
  show key (z:Int)<key (z':Int)\/(key (z:Int)=key (z':Int)/\(z:Int)<(z':Int))
  omega
 refine ⟨xs.toList.map λp=>jh p.2,?_,?_,hst.imp λh=>(by omega),hst⟩
 ·rw [Array.toList_map]
  have:=lz (vs:=xs.toList.map (·.2)) λv hv=>by
   obtain ⟨q,hq,rfl⟩:=List.mem_map.mp hv
   obtain ⟨i,_,t,_,e⟩:=hm q hq
   exact ⟨_,t,e⟩
  rw [List.map_map] at this
  exact this
 ·have e:=jB (kz:=(List.range n).map λ(i:Nat)=>key (i:Int)) hi (by simp)
  have e3:(keys.zip vs.toArray).toList.map (λp=>jh p.2)=vs.map jh:=by
   rw [ksk_zip]
   have hl:vs.length<=keys.toList.length:=by
    have a1:=hk.length
    have a2:=hi.length
    simp at a1 a2
    simp; omega
   show (keys.toList.zip vs).map (jh ∘ Prod.snd)=_
   rw [<- List.map_map,List.map_snd_zip hl]
  have e4:vs.map jh=(List.range n).map λ(i:Nat)=>(i:Int):=by
   clear e e3 hst at' hm hpl hp hs h hk
   generalize (List.range n).map (λ(i:Nat)=>(i:Int))=ns at hi
   induction hi with
   | nil=>rfl
   | cons n t r ih=>rw [List.map_cons,ih]; rfl
  rw [<- e4,<- e3]
  exact hpl.map _
section
variable {X:Cx} {pins:List (Addr×Obj)} {σ:St} {H:Hp} {s:Shared} {args:Arguments} {scope:Scope} {clos:List (Str×Addr)} {cv ctv:Value} {f cc p r:Addr} {x y:Str} {p1 p2 p3 p4:Pos} {n:Nat} {ns:List Int} {t u v:Tok} {Q:Value->Shared->Prop}
structure LamOk (X:Cx) (args:Arguments) (scope:Scope) (clos:List (Str×Addr)) (x y:Str) (body:Expr) (cc:Addr):Prop where
 bind:∀ (cv ctv:Value) (i:Nat) (ti:Tok),bindArgs (kla_fn "<lambda>" (X.env.qual ++ "<lambda>") args body scope clos ((X.mg "__name__").getD .none) cv ctv) ⟨[.int i ti],[]⟩=pure [(x,.int i ti)]
 kind:scope.kind = .function
 co:scope.isCoroutine=false
 gen:scope.isGenerator=false
 nc:∀ z∈scope.names,z.2≠.cell
 hx:scope.names.lookup x=some .local
 hy:scope.names.lookup y=some .free
 yc:clos.lookup y=some cc
 dx:(x == ("__debug__":Str))=false
 dy:(y == ("__debug__":Str))=false
 ey:(y == ("__classdict__":Str))=false
theorem lY (I:Inv X pins σ H s) (hh:X.A.handled=none) (hroom:X.A.in1.in1.depth<recursionLimit) (hr:IsRange s.heap r 0 n 1 t u v) (hfn:s.heap.get? f=some (iP X args (.UnaryOp .USub (.Subscript (.Name y p1) (.Name x p2) p3) p4) scope clos cv ctv))
 (hcv:∃ c' oc vs t,cv = .ref c'/\H c'=some (.frz oc (.own 0))/\oc.data = .fields vs/\vs[1]? = some (.str (X.env.qual ++ "<lambda>") t)) (hce:s.heap.IsCell cc (some (.ref p))) (hcL:cc≠X.env.locals) (hl:SqL X.K H p (ns.map V.int)) (hn:n<=ns.length) (h64:n<64)
 (L:LamOk X args scope clos x y (.UnaryOp .USub (.Subscript (.Name y p1) (.Name x p2) p3) p4) cc)
 (h:∀ D out s',Inv X pins σ (upd H D (.lst (out.map V.int))) s'->H D=none->SortK n (λz=>-(ns.getD z.toNat 0)) out->Q (.ref D) s') :
 wpAny (model X.prog X.w) X.A (call (.builtin "sorted") [.ref r] [(Str.ofString "key",.ref f)]) Q X.xe s:=by
 obtain ⟨m,hns,hloc⟩:=id I.loc
 obtain ⟨oL,esL,epL,hoL,hdL,hrL⟩:=id hns
 have neL:∀ {b:Addr} {o:Obj},s.heap.get? b=some o->(∀ es ep,o.data≠.dict es ep)->b≠X.env.locals:=λe nd z=>by
  rw [z,hoL] at e; cases e; exact nd _ _ hdL
 have tL:∀ {b:Addr} {u:HO},H b=some u->b≠X.env.locals:=λe z=>by rw [z,I.free] at e; cases e
 obtain ⟨its,rv,pl,hz⟩:=I.list hl
 have hil:=rv.length
 rw [List.length_map] at hil
 obtain ⟨ol,nl,el,ecl,edl,edd⟩:=id pl
 have pL:p≠X.env.locals:=neL el λes ep z=>by rw [edd] at z; cases z
 have N0:News (gG s.heap) X.env.locals s.heap (fH s.heap X.env.locals X.env.locals):=λq hq=>by
  obtain ⟨a,o⟩:=q
  have:=cI.mp hq
  exact ⟨this.2.2,this.1,cK _ _⟩
 have inN:∀ {b:Addr} {o:Obj},s.heap.get? b=some o->b≠X.env.locals->(b,o)∈fH s.heap X.env.locals X.env.locals:=λe z=>cI.mpr ⟨z,z,e⟩
 obtain ⟨c',oc,vc,tq,rfl,hc',hdc,hqc⟩:=hcv
 have hc1:=(I.hok c' _ hc').1
 refine jT (kz:=(List.range n).map λ(i:Nat)=>-(ns.getD (i:Int).toNat 0)) (f:=.ref f) (nL hns) N0 hh hr (by simp) h64 (ksk_s1 _ _) (λx=>ksk_l1 _ _) (λx=>ksk_t1 _ _) (λi k ti hkz g tk own Fg Ng=>?_) λD h' tk vs out c F' N' hD hi ko=>?_
 ·rw [List.getElem?_map,Option.map_eq_some_iff] at hkz
  obtain ⟨i',e1,rfl⟩:=hkz
  have hin:i<n/\i'=i:=by
   obtain ⟨h1,h2⟩:=List.getElem?_eq_some_iff.mp e1
   rw [List.length_range] at h1
   rw [List.getElem_range] at h2
   exact ⟨h1,h2.symm⟩
  obtain ⟨hin,ei⟩:=hin
  subst i'
  have get:∀ {b:Addr} {o:Obj},s.heap.get? b=some o->b≠X.env.locals->g.get? b=some o:=λe z=>(Ng _ (List.mem_append_left _ (inN e z))).1
  have hni:ns[i]? = some ns[i]:=List.getElem?_eq_getElem (by omega)
  obtain ⟨w1,ew,rw1⟩:=rv.get (show (ns.map V.int)[i]? = some (.int ns[i]) by rw [List.getElem?_map,hni]; rfl)
  obtain ⟨t1,rfl⟩:=(show ∃ t,w1=Value.int ns[i] t from rw1)
  have egd:ns.getD ((i:Nat):Int).toNat 0=ns[i]:=by rw [Int.toNat_natCast,List.getD_eq_getElem?_getD,hni]; rfl
  rw [egd]
  have blt:∀ b o,X.base.get? b=some o->g.get? b=some o:=λb o e=>get (I.bk b o e) (λz=>absurd (Heap.lt_size e) (by rw [z]; exact Nat.not_lt.mpr (Nat.le_trans I.ok.bsz I.ok.above)))
  obtain ⟨oce,ece,ecd⟩:=hce
  refine wpAny_mono (mq (s:={ s with heap:=g,toks:=tk }) (X:=X) (args:=args) (scope:=scope) (clos:=clos) (cv:=.ref c') (ctv:=ctv) (f:=f) (cc:=cc) (p:=p) (x:=x) (y:=y) (p1:=p1) (p2:=p2) (p3:=p3) (p4:=p4) (its:=its.toArray) (i:=i) (ti:=ti) (k:=ns[i]) (tk0:=t1)
   (get hfn (neL hfn λes ep z=>by cases z)) ⟨c',oc,vc,tq,rfl,get hc1 (tL hc'),hdc,hqc⟩ ⟨oce,get ece hcL,ecd⟩ ⟨ol,get el pL,ecl,nl,edd⟩ (by simpa using ew) (I.ok.mod.nolimit.keeps blt) hroom (by omega) (L.bind _ _ _ _) L.kind L.co L.gen L.nc L.hx L.hy L.yc L.dx L.dy L.ey) (λv s' q=>?_) λ_ _ z=>z
  obtain ⟨h',tk',t',rfl,rfl,kp⟩:=q
  exact ⟨h',tk',t',rfl,rfl,Fg.kept kp,λq hq=>⟨kp _ _ (Ng q hq).1,(Ng q hq).2⟩⟩
 ·obtain ⟨os,hos,hsk⟩:=SortK.of (key:=λz=>-(ns.getD z.toNat 0)) hi ko
  have hDn:H D=none:=I.hok.fresh hD
  refine h D os _ ?_ hDn hsk
  have get:∀ {b:Addr} {o:Obj},s.heap.get? b=some o->b≠X.env.locals->h'.get? b=some o:=λe z=>(N' _ (List.mem_cons_of_mem _ (inN e z))).1
  have hDo:=(N' _ (.head _)).1
  have neD:∀ {b:Addr} {o:Obj},s.heap.get? b=some o->b≠D:=λe=>Nat.ne_of_lt (Nat.lt_of_lt_of_le (Heap.lt_size e) hD)
  have up:∀ {b u},H b=some u->upd H D (.lst (os.map V.int)) b=some u:=λe=>by rw [ah (av e hDn)]; exact e
  have hlo:os.length=n:=by have:=hsk.perm.length_eq; simpa using this
  refine I.step (g':=s.gens) (d':=s.drawn) (ch:=[]) (λ_ z=>nomatch z) (λb o hL _ _ e _=>get e hL) (λb o hL _ _ e _=>⟨o.slots,get e hL⟩) (λb o _ e q=>by rw [ah (neD e)]; exact q) (λb o _ e=>?_) (λb xs e=>up e) (λb o u e=>up e) (λb ps q e=>⟨#[],by rw [up e]; simp⟩) (λm' hm'=>?_) (λb u e=>?_) I.bare
  ·by_cases z:b=X.env.locals
   ·obtain ⟨o',_,_,e',_⟩:=F'.ns; exact ⟨o',by rw [z]; exact e'⟩
   ·exact ⟨o,get e z⟩
  ·rw [hm'.eq_nsMap,<- hns.eq_nsMap]; exact F'.ns
  ·by_cases z:b=D
   ·subst z; rw [ay] at e; cases e
    exact ⟨by rw [List.length_map,hlo]; exact Nat.le_trans (Nat.le_of_lt h64) (by decide),(out.map (·.2)).toList,c,cW hos,by rw [Array.toArray_toList]; exact hDo⟩
   ·rw [ah z] at e
    exact (I.hok b u e).stay (λd w hd q=>get q (hd.elim (λy=>by rw [y]; exact tL e) λy=>tL y)) (λd q=>up q) (λd xs q=>up q) λd ob u q=>up q
end
theorem Inv.pinNew {X:Cx} {pins:List (Addr×Obj)} {σ:St} {H:Hp} {s:Shared} {f:Addr} {o:Obj} (J:Inv X pins σ H s) (e:s.heap.get? f=some o) (n:H f=none) (hf:X.s₀.heap.objs.size<=f) (hL:f≠X.env.locals) (nc:∀ v,o.data≠.cell v):Inv X ((f,o) :: pins) σ H s:=by
 refine J.pins_of λp hp=>?_
 rcases List.mem_cons.mp hp with rfl | hp
 ·refine ⟨e,n,hL,λz=>?_,nc⟩
  obtain ⟨_,o',e',_⟩:=J.ok.funs.mem z
  exact absurd (Nat.lt_of_lt_of_le (Heap.lt_size e') hf) (Nat.lt_irrefl _)
 ·exact J.pin p (List.mem_append_right _ hp)
def ra (K:PySem.W.Frag) (j:Nat) (te:TE):TE:=λσ H Q=>te σ H λv H1=>∃ n:Nat,v = .int n/\n<64/\∃ (p:Addr) (ns:List Int),σ[j]? = some (some (.ref p))/\SqL K H1 p (ns.map V.int)/\n<=ns.length /\
 ∀ H2 out D,TbS H1 H2->SortK n (λz=>-(ns.getD z.toNat 0)) out->H2 D=none->Q (.ref D) (upd H2 D (.lst (out.map V.int)))
theorem TbS.sq {K:PySem.W.Frag} {H H':Hp} {p:Addr} {xs:List V} (h:TbS H H') (s:SqL K H p xs):SqL K H' p xs:=by
 rcases s with (s | ⟨o,s⟩) | s
 ·exact .inl (.inl (h.old _ _ s λ_ _ z=>by cases z))
 ·exact .inl (.inr ⟨o,h.old _ _ s λ_ _ z=>by cases z⟩)
 ·exact .inr s
section
variable {X:Cx} {e:Expr} {te:TE} {x y:Str} {j:Nat} {c P:Addr} {args:Arguments} {scope:Scope} {p1 p2 p3 p4 q1 q2 q3 lp kp pos:Pos}
theorem i4 {cc:Addr} (hnm:scope.names=[(x,.local),(y,.free)]) (h:X.env.cells.lookup y=some cc):closureFor scope X.env=pure [(y,cc)]:=by
 unfold closureFor
 rw [hnm]
 simp [cellOf,h]
theorem mj (hg1:Gl X "sorted") (hm1:X.mg "sorted" = none) (hg2:Gl X "range") (hm2:X.mg "range" = none) (he:PE X e te) (hj:X.N[j]? = some y) (hyk:X.env.kindOf y=some .cell) (hcode:X.env.code = .ref c)
 (hB:TabB X.base X.mg c P (X.env.qual ++ "<lambda>")) (hcalm:X.calm=true) (hroom:X.A.in1.in1.depth<recursionLimit) (hnm:scope.names=[(x,.local),(y,.free)]) (hkd:scope.kind = .function) (hco:scope.isCoroutine=false) (hge:scope.isGenerator=false)
 (hbind:∀ (cc:Addr) (cv ctv:Value) (i:Nat) (ti:Tok),bindArgs (kla_fn "<lambda>" (X.env.qual ++ "<lambda>") args (.UnaryOp .USub (.Subscript (.Name y p1) (.Name x p2) p3) p4) scope [(y,cc)] ((X.mg "__name__").getD .none) cv ctv) ⟨[.int i ti],[]⟩=pure [(x,.int i ti)])
 (hdf:defaultsOf args X.env=([],[])) (hxy:(y == x)=false) (dx:(x == ("__debug__":Str))=false) (dy:(y == ("__debug__":Str))=false) (ey:(y == ("__classdict__":Str))=false) (hs:starEach [e] X.env=[(false,eval e X.env)]:=by rfl) :
 PE X (.Call (.Name "sorted" q1) [.Call (.Name "range" q2) [e] [] q3] [⟨some "key",.Lambda args (.UnaryOp .USub (.Subscript (.Name y p1) (.Name x p2) p3) p4) scope lp,kp⟩] pos) (ra X.K j te):=by
 refine ⟨λpins s σ H Q I h=>?_⟩
 refine wpAny_Call_Name_kw (cG I hg1 hm1 cD ?_)
 refine callWith_kw (rest:=[]) ?_
 show wpAny _ _ (spliced ((false,eval (.Call (.Name "range" q2) [e] [] q3) X.env) :: [])) _ _ s
 refine Calls.spliced_cons ?_
 refine Call_ (cG I hg2 hm2 boot_range (PyProof.Rows.callWith_type1 (rest:=[]) ?_ hs rfl))
 rw [hs]
 refine Calls.spliced_cons (thn (he pins s σ H _ I h) λu1 s1 ⟨v1,H1,I1,r1,n,e1,h64,p,ns,ep,hq,hnl,hQ⟩=>Calls.spliced_nil ?_)
 subst e1
 obtain ⟨tn,rfl⟩:=r1
 refine call_range_1 ?_
 refine Calls.spliced_nil ?_
 show wpAny _ _ (evalAll [(do let v <- eval (.Lambda args (.UnaryOp .USub (.Subscript (.Name y p1) (.Name x p2) p3) p4) scope lp) X.env; standAt pos; pure v)]) (λkvs s₂=>wpAny (model X.prog X.w) X.A (call (.builtin "sorted") [.ref s1.heap.objs.size] ([Str.ofString "key"].zip kvs)) (EP X pins σ Q) X.xe s₂) _ _
 have I2:Inv X pins σ H1 { s1 with heap:=s1.heap.push { cls:=.type "range",data:=.fields #[.int 0 s1.toks,.int n tn,.int 1 (s1.toks + 1)] },toks:=s1.toks + 1 + 1 }:=I1.kept λb o e=>Heap.get?_push_of_some _ e
 have J:=I2.pinNew (Heap.get?_push_size s1.heap (o:={ cls:=.type "range",data:=.fields #[.int 0 s1.toks,.int n tn,.int 1 (s1.toks + 1)] }) rfl) (I1.hok.fresh (Nat.le_refl _)) I1.sz (Nat.ne_of_gt I1.lt) (λv z=>by cases z)
 obtain ⟨cc,hcc⟩:=I.ok.has y (.inl hyk)
 unfold evalAll
 refine wpAny_bind (wpAny_bind ?_)
 refine nQ J hdf (i4 hnm hcc) hcode hB λf cv ctv H' s' J2 tb hcv=>?_
 refine wpAny_bind (wpAny_standAt (wpAny_pure ?_))
 refine wpAny_bind (wpAny_holding ?_)
 unfold evalAll
 refine wpAny_pure (wpAny_pure ?_)
 obtain ⟨m,hns,hloc⟩:=id J2.loc
 obtain ⟨u,ru,lk⟩:=hloc j y (.ref p) hj ep (.inr (.inl hyk))
 obtain rfl:u = .ref p:=ru
 have hce:s'.heap.IsCell cc (some (.ref p)):=by
  rcases lk with ⟨z,_⟩ | ⟨_,c2,e2,z⟩
  ·rw [hyk] at z; cases z
  ·rw [hcc] at e2; cases e2; exact z
 refine lY J2 (J2.ok.hd hcalm) hroom (J2.pin _ (List.mem_append_right _ (.tail _ (.head _)))).1 (J2.pin _ (List.mem_append_right _ (.head _))).1 hcv hce (J2.cne y cc hcc) (tb.sq hq) hnl h64 ⟨hbind cc,hkd,hco,hge,λz hz=>?nc,by rw [hnm]; exact List.lookup_cons_self,by rw [hnm,List.lookup_cons,hxy]; exact List.lookup_cons_self,List.lookup_cons_self,dx,dy,ey⟩ λD out s'' J3 hD sk=>?_
 case nc =>
  rw [hnm] at hz
  rcases List.mem_cons.mp hz with rfl | hz
  ·exact λz=>by cases z
  ·rw [List.mem_singleton.mp hz]; exact λz=>by cases z
 exact ⟨.ref D,_,J3.pins_of λq hq=>J3.pin q (List.mem_append_right _ (.tail _ (.tail _ hq))),rfl,hQ H' out D tb sk hD⟩
end
end L2
namespace L2
open PySem PySem.Spec PyProof.Rows PySem.W
section
variable {C:Ctx} {ow:List Bool} {G:Hp} {ρ:DSt} {σ:St} {H H2:Hp} {pd:List (D×V)} {O:Own}
theorem RO.tbs (h:RO C ow G ρ σ H pd O) (t:TbS H H2):RO C ow G ρ σ H2 pd O:=by
 have gnt:∀ a o,G a=some o->NT o:=λa o e ps q z=>by
  have:=h.ft a ps q (by rw [h.gh a o e,z])
  rw [e] at this; cases this
 have gh:aB G H2:=λa o e=>t.old a o (h.gh a o e) (gnt a o e)
 have og:∀ a l,O a=some l->H2 a=H a:=λa l e=>by
  obtain ⟨_,⟨xs,q⟩,_⟩:=h.og a l e
  rw [t.old a _ q (WrO.nt xs),q]
 refine ⟨h.len,gh,h.g0,h.gn,λa l e=>?_,h.cok,λa o e n nt=>t.old a o (h.fr a o e n nt) nt,λa ps q e=>?_,λa e=>h.al a (t.new a e),h.mp,λi d e=>?_,?_,h.np⟩
 ·obtain ⟨q1,q2,q3⟩:=h.og a l e
  rw [og a l e]; exact ⟨q1,q2,q3⟩
 ·cases z:G a with
  | none=>rfl
  | some o =>
   rw [gh a o z] at e; cases e
   exact absurd rfl (gnt a _ z ps q)
 ·obtain ⟨v,h1,h2⟩:=h.sl i d e
  refine ⟨v,h1,?_⟩
  split at h2
  ·rename_i c; rw [if_pos c]; exact h2.keep (λ_ _ z=>z) λa τ q=>⟨q,og a _ q⟩
  ·rename_i c; rw [if_neg c]; exact h2
 ·exact bG.keep (λ_ _ z=>z) (λa j π _ q=>⟨q,og a _ q⟩) h.pn
end
def sW (j:Nat) (me:ME):ME:=λρ q=>me ρ λd ρ1=>match d with
 | .int n=>0<=n/\n<64/\∃ ns:List Int,ρ1[j]? = some (some (.lst (ns.map D.int)))/\n<=(ns.length:Int)/\∀ out,SortK n.toNat (λz=>-(ns.getD z.toNat 0)) out->q (.lst (out.map D.int)) ρ1
 | _=>False
section
variable {X:Cx} {ow:List Bool} {e:Expr} {me:ME} {x y:Str} {j:Nat} {c P:Addr} {args:Arguments} {scope:Scope} {p1 p2 p3 p4 q1 q2 q3 lp kp pos:Pos} {k:Nat}
theorem ng (hr:Room (k + 2) X.A) (hg1:Gl X "sorted") (hm1:X.mg "sorted" = none) (hg2:Gl X "range") (hm2:X.mg "range" = none) (he:QE X ow e me) (hj:X.N[j]? = some y) (hyk:X.env.kindOf y=some .cell) (hcode:X.env.code = .ref c)
 (hB:TabB X.base X.mg c P (X.env.qual ++ "<lambda>")) (hcalm:X.calm=true:=by rfl) (hnm:scope.names=[(x,.local),(y,.free)]:=by rfl) (hkd:scope.kind = .function:=by rfl) (hco:scope.isCoroutine=false:=by rfl) (hge:scope.isGenerator=false:=by rfl)
 (hbind:∀ (cc:Addr) (cv ctv:Value) (i:Nat) (ti:Tok),bindArgs (kla_fn "<lambda>" (X.env.qual ++ "<lambda>") args (.UnaryOp .USub (.Subscript (.Name y p1) (.Name x p2) p3) p4) scope [(y,cc)] ((X.mg "__name__").getD .none) cv ctv) ⟨[.int i ti],[]⟩=pure [(x,.int i ti)]:=by intros; rfl)
 (hdf:defaultsOf args X.env=([],[]):=by rfl) (hxy:(y == x)=false:=by decide) (dx:(x == ("__debug__":Str))=false:=by decide) (dy:(y == ("__debug__":Str))=false:=by decide) (ey:(y == ("__classdict__":Str))=false:=by decide) (hs:starEach [e] X.env=[(false,eval e X.env)]:=by rfl) (ho:ow[j]?≠some true:=by decide) :
 QE X ow (.Call (.Name "sorted" q1) [.Call (.Name "range" q2) [e] [] q3] [⟨some "key",.Lambda args (.UnaryOp .USub (.Subscript (.Name y p1) (.Name x p2) p3) p4) scope lp,kp⟩] pos) (sW j me):=by
 obtain ⟨t,p,s⟩:=he
 refine ⟨_,mj hg1 hm1 hg2 hm2 p hj hyk hcode hB hcalm ?_ hnm hkd hco hge hbind hdf hxy dx dy ey hs,λC G ρ σ H pd q Q r hm kk=>?_⟩
 ·exact hr.in1.in1.depth
 refine s C G ρ σ H pd _ _ r hm λd ρ1 v G1 H1 h1 z1 k1 r1 p1=>?_
 cases d with
 | int n =>
  obtain ⟨n0,n64,ns,e1,hn,hq⟩:=h1
  obtain ⟨O1,ro1⟩:=r1
  obtain ⟨w1,e2,e3⟩:=ro1.sl j _ e1
  rw [if_neg ho] at e3
  obtain ⟨pa,xs,rfl,g1,g2⟩:=aN e3
  rw [bT g2] at g1
  refine ⟨n.toNat,by rw [ax p1]; congr 1; omega,by omega,pa,ns,e2,.inl (.inl (ro1.gh _ _ g1)),by omega,λH2 out D tb sk hD=>?_⟩
  have ro2:=ro1.tbs tb
  obtain ⟨ro3,z3⟩:=ro2.new hD (.lst (out.map V.int))
  refine kk _ ρ1 _ _ _ (hq out sk) (z1.trans z3) k1 ⟨O1,ro3⟩ ?_
  exact eX ay (cZ _)
 | _=>exact h1.elim
end
theorem Fun.okc {P:Program} {w:World} {K:PySem.W.Frag} {mg:Str->Option Value} {base:Heap} {x qual:Str} {st:Stmt} {f c:Addr} {fd:FuncData} {N ps:List Str} {k:Nat} {sp:Sp} (F:Fun K x qual st f fd) (hc:fd.code = .ref c) (S:FnScope N ps (ai st)) (len:∀ vs H Q E,sp vs H Q E->vs.length=ps.length)
 (hbody:∀ (A:Around) (outer:List Env) (s:Shared) (H:Hp) (vs:List V) (Q:VK) (E:XK),Room k (A.deeper (envOfC qual (ai st) s.heap.objs.size f (.ref c)))->sp vs H Q E ->
  ∃ t,PSs (iF CX0 P w K mg base N qual (ai st) f (.ref c) A outer s H E).nox (bV st) t/\t { nx:=λ_ H'=>Q .non H',rt:=Q } (start N vs) H):FnOk P w K mg base CX0 (k + 1) f fd ps sp:=by
 obtain ⟨oc,od,kV,doc,pm,an,cdv,ct,osl,rfl,lk,hcd⟩:=F.ex
 have e:cdv = .ref c:=hc
 subst e
 refine qN lk hcd S len λA outer s H vs Q E hr hsp=>?_
 obtain ⟨t,h,q⟩:=hbody A outer s H vs Q E hr hsp
 exact ⟨t,h.nox,q⟩
theorem fnDc {P:Program} {w:World} {K:PySem.W.Frag} {mg:Str->Option Value} {base:Heap} {x qual:Str} {st:Stmt} {f:Addr} {fd:FuncData} {N ps:List Str} {k:Nat} {c:Addr} (F:Fun K x qual st f fd) (hc:fd.code = .ref c) (S:FnScope N ps (ai st)) (M:Md) (sd:SpD)
 (hl:∀ ds q,sd ds q->ds.length=ps.length) (ho:M.ow.take ps.length=M.mu) (hml:M.mu.length=ps.length)
 (hbody:∀ (A:Around) (outer:List Env) (s:Shared) (H:Hp) (E:XK),Room k (A.deeper (envOfC qual (ai st) s.heap.objs.size f (.ref c))) ->
  ∃ m,QSs (iF CX0 P w K mg base N qual (ai st) f (.ref c) A outer s H E).nox M (bV st) m/\∀ ds q,sd ds q->m (iK M.mu q) (ds.map some++List.replicate (N.length - ps.length) none)) :
 FnOk P w K mg base CX0 (k + 1) f fd ps (a_ M.mu M.fr sd):=by
 have hov:∀ i:Nat,i<M.mu.length->M.ow[i]? = M.mu[i]?:=λi hi=>by rw [<- ho,List.getElem?_take_of_lt (by omega)]
 have hlen:∀ vs H Q E,a_ M.mu M.fr sd vs H Q E->vs.length=ps.length:=λvs H Q E ⟨C,G,ds,q,_,_,⟨O,ro⟩,h1,_,_⟩=>by
  have:=ro.len; simp at this; rw [<- this]; exact hl ds q h1
 refine F.okc hc S hlen λA outer s H vs Q E hr hsp=>?_
 obtain ⟨m,⟨t,p,ss⟩,hm⟩:=hbody A outer s H E hr
 have hvl:=hlen vs H Q E hsp
 obtain ⟨C,G,ds,q,hnp,hmu,⟨O,ro⟩,hsd,hml2,kk⟩:=hsp
 refine ⟨t,p,?_⟩
 have hmo:f8 C M.mu:=λi v e=>by rw [hmu] at e; exact (iz e).1
 have r0:R C M.ow G (ds.map some++List.replicate (N.length - ps.length) none) (start N vs) H []:=by
  unfold start; rw [hvl]
  exact ⟨O,ro.grow _ λi hi=>hov i (by omega)⟩
 refine ss C G _ _ H (iK M.mu q) _ hmo hnp r0 (hm ds q hsd) ⟨?_,λ_ _ _ _ h=>h.elim,λ_ _ _ _ h=>h.elim,?_⟩
 ·intro ρ σ G' H' h z ⟨O',r'⟩
  refine kk .non (bX M.mu.length ρ) (bX M.mu.length σ) .non G' H' (by rw [ci]; exact h) z (cf _ _) (R.non ⟨O',r'.trim hmo hov⟩)
 ·intro d ρ σ v G' H' h z hr'
  refine kk d (bX M.mu.length ρ) (bX M.mu.length σ) v G' H' (by rw [ci]; exact h) z (cf _ _) ?_
  unfold Ret at hr' ⊢
  split at hr'
  ·rename_i c; rw [if_pos c]; obtain ⟨O',r'⟩:=hr'; exact ⟨O',r'.trim hmo hov⟩
  ·rename_i c; rw [if_neg c]; obtain ⟨⟨O',r'⟩,p⟩:=hr'; exact ⟨⟨O',r'.trim hmo hov⟩,p⟩
def lw (H:Hp):Prop:=∀ b,H b=none\/(∃ o xs,H b=some (.frz o (.lst xs)))\/∃ ps q,H b=some (.tbl ps q)
def jz (H:Hp):Hp:=λa=>match H a with
 | some (.tbl _ _)=>none
 | o=>o
theorem qD {H:Hp} {a:Addr} {o:HO} (h:H a=some o) (n:NT o):jz H a=some o:=by
 unfold jz; rw [h]
 cases o <;> first | rfl | exact absurd rfl (n _ _)
theorem qa {H:Hp} {a:Addr} {o:HO} (h:jz H a=some o):H a=some o:=by
 unfold jz at h
 split at h
 ·cases h
 ·exact h
def iS (K:PySem.W.Frag):Sp:=λvs H Q _=>∃ (a:Addr) (ns:List Int),vs=[.ref a]/\lw H/\SqL K H a (ns.map V.int)/\ns.length<=63/\∀ H',Q (.bl true) H'
theorem lH {K:PySem.W.Frag} {vs:List V} {H:Hp} {Q:VK} {E:XK} (h:iS K vs H Q E):a_ [false] false (oX K) vs H Q E:=by
 obtain ⟨a,ns,rfl,hO,hS,hl,hq⟩:=h
 have main:∀ φ:Addr->Prop,nb K φ ns->Rep (jz H) (.scr φ ns) (.ref a)->a_ [false] false (oX K) [.ref a] H Q E:=λφ hφ r=>by
  refine ⟨⟨jz H,H,λ_=>none,[none],0⟩,jz H,[.scr φ ns],λd _=>d = .bl true,rfl,rfl,⟨λ_=>none,rfl,λ_ _ e=>qa e,aB.refl _,λ_ _ e=>.inl e,λa l e=>by (first | cases e),λa l π e=>by (first | cases e),λ_ _ e _ _=>e,(λa ps q e=>by unfold jz; rw [e]),λ_ e=>e,λi v e=>?_,?_,trivial,Nat.le_refl _⟩,⟨φ,ns,rfl,hφ,hl,rfl⟩,rfl,?_⟩
  ·cases i with
   | zero=>simp at e
   | succ i=>simp at e
  ·intro i d e
   cases i with
   | zero=>simp at e; subst e; exact ⟨_,rfl,by simpa using r⟩
   | succ i=>simp at e
  ·intro d ρ' σ' v G' H' hd _ _ hr
   subst hd
   unfold Ret at hr
   rw [if_neg (by decide)] at hr
   rw [cC hr.2]
   exact hq H'
 rcases hS with (h1 | ⟨o,h1⟩) | h1
 ·rcases hO a with z | ⟨o,xs,z⟩ | ⟨ps,q,z⟩ <;> (rw [h1] at z; cases z)
 ·exact main (λ_=>False) (λ_ _ z=>z.elim) (by rw [Rep]; exact ⟨a,rfl,.inl ⟨o,qD h1 λ_ _ z=>by cases z⟩⟩)
 ·exact main (λb=>b=a) (λb H' z=>by subst z; exact .inr h1) (by rw [Rep]; exact ⟨a,rfl,.inr rfl⟩)
end L2
namespace L2
open PySem
def cx (ps e:List Int) (as:List Ask):List Int:=as.map λa=>e.getD (bo ps a.one a.other).toNat 0
def metF (ps e:List Int):D->D
 | .tup [.int a,.int b,_,_]=>.int (e.getD (bo ps a b).toNat 0)
 | d=>d
theorem oq (ps e:List Int) (as:List Ask):(as.map dg).map (metF ps e)=(cx ps e as).map D.int:=by unfold cx; rw [List.map_map,List.map_map]; rfl
def cR (ps:List Int) (as:List Ask) (o:List Int):Prop:=∃ e,DepOk ps e ps.length/\SortK as.length (λz=>-((cx ps e as).getD z.toNat 0)) o
theorem cR.mem {ps o:List Int} {as:List Ask}:cR ps as o->o.length=as.length/\∀ k∈o,0<=k/\k<(as.length:Int)
 | ⟨_,_,h⟩=>⟨by have:=h.perm.length_eq; simpa using this,λk hk=>by
  obtain ⟨i,hi,rfl⟩:=List.mem_map.mp (h.perm.mem_iff.mp hk)
  have:=List.mem_range.mp hi
  omega⟩
def rz:SpD:=λds q=>∃ ps rs as,ds=[aL ps rs,a8 as]/\Tree ps rs/\AsksOk ps as/\∀ o,cR ps as o->q (ae o) []
end L2
namespace L2
open PySem PySem.Spec PyProof.Rows PySem.W
end L2
namespace L2
open PySem
theorem cR.ord {ps o:List Int} {as:List Ask} (h:cR ps as o):o.Nodup/\o.Perm ((List.range as.length).map λ(i:Nat)=>(i:Int))/\∃ e,DepOk ps e ps.length/\o.Pairwise (λi j=>e.getD (bo ps (aT as j).one (aT as j).other).toNat 0<=e.getD (bo ps (aT as i).one (aT as i).other).toNat 0):=by
 have hm:=h.mem.2
 obtain ⟨e,h1,h2⟩:=h
 have hr:((List.range as.length).map λ(i:Nat)=>(i:Int)).Nodup:=List.Pairwise.map _ (λa b h e=>h (Int.ofNat.inj e)) List.nodup_range
 refine ⟨h2.perm.nodup_iff.mpr hr,h2.perm,e,h1,?_⟩
 have key:∀ k:Int,0<=k->k<(as.length:Int)->(cx ps e as).getD k.toNat 0=e.getD (bo ps (aT as k).one (aT as k).other).toNat 0:=λk k0 k1=>by
  unfold cx aT
  rw [List.getD_eq_getElem?_getD,List.getElem?_map,List.getD_eq_getElem?_getD (l:=as),List.getElem?_eq_getElem (show k.toNat<as.length by omega)]; rfl
 refine List.Pairwise.imp_of_mem (λ{a b} ha hb hab=>?_) h2.ord
 have a1:=hm a ha; have b1:=hm b hb
 have hab : -((cx ps e as).getD a.toNat 0)<=-((cx ps e as).getD b.toNat 0):=hab
 rw [key a a1.1 a1.2,key b b1.1 b1.2] at hab
 omega
end L2
namespace L2
open PySem PySem.Spec PyProof.Rows
section
variable {X:Cx} {M:Md} {a b c e:Expr} {ma mb mc:ME} {pos pos':Pos}
def qO (g:Int->Int->Int) (i:Nat) (mk m:ME):MS:=λn ρ=>match ρ[i]? with
 | some (some (.lst _))=>mk ρ λk ρ1=>match k with
  | .int j=>match ρ1[i]? with
   | some (some (.lst ds))=>0<=j/\match atI ds j with
    | some (.int x)=>m ρ1 λd ρ2=>match d with
     | .int y=>match ρ2[i]? with
      | some (some (.lst ds2))=>match ixN ds2.length j with
       | some p=>n.nx (ρ2.set i (some (.lst (ds2.set p (.int (g x y))))))
       | none=>False
      | _=>False
     | _=>False
    | _=>False
   | _=>False
  | _=>False
 | _=>False
theorem qz {op:Operator} {g:Int->Int->Int} (hp:PIp X op (ipI g)) {i:Nat} {x:Str} {npos spos:Pos} (hN:X.N[i]? = some x) (he:QE X M.ow e ma) (hk:QE X M.ow b mb) (ho:M.ow[i]? = some true:=by decide)
 (hv:Vis X.env.scope x:=by first | exact Or.inl rfl | exact Or.inr (Or.inl rfl) | exact Or.inr (Or.inr rfl)) (hd:(x == ("__debug__":Str))=false:=by decide) (hcd:(x == ("__classdict__":Str))=false:=by decide)
 (ha:∀ ov iv new,augStore b ov iv new=(do holding [new,ov,iv] (setItem ov iv new); release [new,ov,iv] []; pure .next):=by intros; rfl) :
 QS X M (.AugAssign (.Subscript (.Name x npos) b spos) op e pos) (qO g i mb ma):=by
 obtain ⟨t,p,s⟩:=he; obtain ⟨t2,p2,s2⟩:=hk
 refine ⟨_,p9 (cF hN hv hd hcd) p2 nV p hp gt ha,λC G ρ σ H n D hm hn r h k=>?_⟩
 unfold qO at h
 split at h
 ·rename_i ds0 e0
  obtain ⟨O0,ro⟩:=r
  obtain ⟨a,xs0,hu,g0,_,_⟩:=ro.write e0 ho
  refine ⟨.ref a,hu,?_⟩
  refine s2 C G ρ σ H [] _ _ ⟨O0,ro⟩ h λdk ρ1 jv G1 H1 hq1 z1 kp1 r1 pj=>?_
  cases dk with
  | int j =>
   dsimp only at hq1
   split at hq1
   ·rename_i ds1 e1
    obtain ⟨j0,hq1⟩:=hq1
    obtain ⟨O1,r1⟩:=r1
    obtain ⟨a1,xs1,hu1,g1,g2,_⟩:=r1.write e1 ho
    rw [hu] at hu1; cases hu1
    split at hq1
    ·rename_i x ex
     have exx:=ex
     obtain ⟨jj,q1,q2,q3,q4,q5⟩:=fc ex
     obtain ⟨v,w1,w2⟩:=g2.at q2
     have hv:atI xs1 j=some v:=by
      unfold atI at ex ⊢
      rw [g2.length]
      cases z:ixN ds1.length j with
      | none=>rw [z] at ex; cases ex
      | some j' =>
       have:j'=jj:=by
        have:=(iY z).1; rw [this] at q1; exact Option.some.inj q1
       subst this; exact w1
     have hv2:v = .int x:=by rw [Sep] at w2; exact w2
     subst hv2
     refine ⟨a,xs1,j,.int x,rfl,ax pj,SqL.of g1,j0,hv,?_⟩
     refine s C G1 ρ1 σ H1 [] _ _ ⟨O1,r1⟩ hq1 λdy ρ2 yv G2 H2 hq2 z2 kp2 r2 py=>?_
     cases dy with
     | int y =>
      dsimp only at hq2
      split at hq2
      ·rename_i ds2 e2
       split at hq2
       ·rename_i pl e3
        obtain ⟨O2,r2⟩:=r2
        obtain ⟨a2,xs2,f1,f2,f3,f4⟩:=r2.write e2 ho
        rw [hu] at f1; cases f1
        refine ⟨x,y,rfl,ax py,a,xs2,j,pl,rfl,ax pj,f2,by rw [f3.length]; exact e3,?_⟩
        exact k.nx _ _ G2 _ hq2 (z1.trans z2) ⟨O2,f4 _ _ (f3.set (by rw [Sep]))⟩
       ·exact hq2.elim
      ·exact hq2.elim
     | _=>exact hq2.elim
    ·exact hq1.elim
   ·exact hq1.elim
  | _=>exact hq1.elim
 ·exact h.elim
def ls (i:Nat) (m:ME):MS:=λn ρ=>match ρ[i]? with
 | some (some (.lst _))=>m ρ λd ρ1=>match ρ1[i]?,d with
  | some (some (.lst ds)),.lst es=>imms ds=true/\imms es=true/\ds.length + es.length<=1000/\n.nx (ρ1.set i (some (.lst (ds++es))))
  | _,_=>False
 | _=>False
theorem l6 {i:Nat} {x:Str} {apos cpos npos:Pos} (hN:X.N[i]? = some x) (he:QE X M.ow e ma) (ho:M.ow[i]? = some true:=by decide)
 (hv:Vis X.env.scope x:=by first | exact Or.inl rfl | exact Or.inr (Or.inl rfl) | exact Or.inr (Or.inr rfl)) (hd:(x == ("__debug__":Str))=false:=by decide) (hcd:(x == ("__classdict__":Str))=false:=by decide)
 (hbase:attributeBase (.Name x npos) "extend" X.env (eval (.Name x npos) X.env)=eval (.Name x npos) X.env:=by rfl)
 (hfew:((backTo cpos (starEach [e] X.env)).all (λx=>!x.1)&&(backToKw cpos (keywordEach [] X.env)).all (λx=>x.1.isSome)
  && decide ([e].length + ([]:List Keyword).length + (if ([]:List Keyword).isEmpty then 0 else 1)<30))=true:=by rfl)
 (hline:(apos.endLine == cpos.line)=true:=by rfl) (hst:starEach [e] X.env=[(false,eval e X.env)]:=by rfl)
 (hs:swapsWith (.Call (.Attribute (.Name x npos) "extend" apos) [e] [] cpos) none pos.line X.env=pure false:=by rfl) :
 QS X M (.Expr (.Call (.Attribute (.Name x npos) "extend" apos) [e] [] cpos) pos) (ls i ma):=by
 obtain ⟨t,p,s⟩:=he
 refine ⟨_,dz (kE PySem.F.plainAttrs_list PySem.F.slot_list_extend PySem.F.type_list_extend lC (cF hN hv hd hcd) (bC p dl hst) hbase hfew hline hst (by rfl)) hs,λC G ρ σ H n D hm hn r h k=>?_⟩
 unfold ls at h
 split at h
 ·rename_i ds e1
  obtain ⟨O,ro⟩:=r
  obtain ⟨a,xs,h1,h2,_,_⟩:=ro.write e1 ho
  refine ⟨.ref a,h1,.inl ⟨rfl,xs,SqL.of h2⟩,?_⟩
  refine s C G ρ σ H [] _ _ ⟨O,ro⟩ h λd ρ' v G' H' hq z kp r' p=>?_
  split at hq
  ·rename_i ds' es e2
   obtain ⟨hq1,hq2,hq3,hq4⟩:=hq
   obtain ⟨b,ys,rfl,p1,p2⟩:=aN p
   obtain ⟨O',r'⟩:=r'
   obtain ⟨a',xs',g1,g2,g3,g4⟩:=r'.write e2 ho
   rw [h1] at g1; cases g1
   have hl:=g3.length
   have hl2:=p2.length
   have hr:=Seps.imm _ _ _ _ hq1 g3
   refine ⟨a,b,xs',ys,rfl,rfl,g2,r'.gh _ _ p1,by rw [hl,hl2]; exact Nat.le_of_lt (bY hq3),?_⟩
   exact k.nx _ _ G' _ hq4 z ⟨O',g4 _ _ (Reps.sep _ _ _ _ (gy hq1 hq2) (cH hr p2))⟩
  ·exact hq.elim
 ·exact h.elim
end
end L2
namespace L2
open PySem
abbrev a9 (ps:List Int) (as:List Ask) (k:Int):List Int:=aG ps (aT as k)
def dN (ps:List Int) (as:List Ask) (fl:List Int) (t:Int):Int:=((List.range as.length).map λ(i:Nat)=>cnt t (a9 ps as (i:Int)) (fl.getD i 0)).sum
structure FC where
 left:List Int
 flow:List Int
 row:List Int
def dL (ps:List Int) (as:List Ask) (S:FC) (k m:Int):FC :=
 ⟨a7 S.left (a9 ps as k) (-m),S.flow.set k.toNat m,S.row++(a9 ps as k).filter λt=>decide ((a7 S.left (a9 ps as k) (-m)).getD (t - 1).toNat 0=0) && !S.row.contains t⟩
inductive FillC (ps rs:List Int) (as:List Ask):List Int->FC->Prop
 | nil:FillC ps rs as [] ⟨rs,List.replicate as.length 0,[]⟩
 | snoc {X:List Int} {S:FC} {k m:Int} (h:FillC ps rs as X S) (k0 : 0<=k) (k1:k<(as.length:Int)) (hm:∃ t∈a9 ps as k,S.left.getD (t - 1).toNat 0=m) (hl:∀ t∈a9 ps as k,m<=S.left.getD (t - 1).toNat 0):FillC ps rs as (X++[k]) (dL ps as S k m)
structure FI (ps rs:List Int) (as:List Ask) (X:List Int) (S:FC):Prop where
 rg:∀ k∈X,0<=k/\k<(as.length:Int)
 ll:S.left.length=ps.length
 fl:S.flow.length=as.length
 nn:∀ i:Nat,0<=S.flow.getD i 0
 z:∀ i:Nat,(i:Int) ∉ X->S.flow.getD i 0=0
 lf:∀ t:Int,0<t->t<=(ps.length:Int)->S.left.getD (t - 1).toNat 0=rs.getD (t - 1).toNat 0 - dN ps as S.flow t/\0<=S.left.getD (t - 1).toNat 0
 rn:S.row.Nodup
 rw:∀ t:Int,t∈S.row↔(0<t/\t<=(ps.length:Int)/\S.left.getD (t - 1).toNat 0=0)
 pt:∀ k∈X,∃ t∈a9 ps as k,t∈S.row
 hi:∀ X1 i X2,X=X1++i :: X2->∃ B rest,S.row=B++rest/\(0<S.flow.getD i.toNat 0->∀ t∈a9 ps as i,t ∉ B)/\∀ j∈X1,∃ t∈a9 ps as j,t∈B
theorem jM {ps:List Int} {as:List Ask} {fl:List Int} {k m t:Int} (k0 : 0<=k) (k1:k<(as.length:Int)) (hl:fl.length=as.length) (hz:fl.getD k.toNat 0=0):dN ps as (fl.set k.toNat m) t=dN ps as fl t + cnt t (a9 ps as k) m:=by
 unfold dN
 have key:∀ (n:Nat),((List.range n).map λ(i:Nat)=>cnt t (a9 ps as (i:Int)) ((fl.set k.toNat m).getD i 0)).sum=((List.range n).map λ(i:Nat)=>cnt t (a9 ps as (i:Int)) (fl.getD i 0)).sum + if k.toNat<n then cnt t (a9 ps as k) m else 0:=λn=>by
  induction n with
  | zero=>simp
  | succ n ih =>
   rw [List.range_succ,List.map_append,List.map_append,List.sum_append,List.sum_append,ih]
   simp only [List.map_cons,List.map_nil,List.sum_cons,List.sum_nil]
   by_cases h:k.toNat=n
   ·subst h
    rw [if_neg (by omega),if_pos (by omega)]
    have e1:(fl.set k.toNat m).getD k.toNat 0=m:=by rw [List.getD_eq_getElem?_getD,List.getElem?_set_self (by omega)]; rfl
    rw [e1,hz,show ((k.toNat:Nat):Int)=k by omega]
    have:cnt t (a9 ps as k) 0=0:=by unfold cnt; split <;> rfl
    omega
   ·have e1:(fl.set k.toNat m).getD n 0=fl.getD n 0:=by rw [List.getD_eq_getElem?_getD,List.getElem?_set_ne h,<- List.getD_eq_getElem?_getD]
    rw [e1]
    by_cases h2:k.toNat<n
    ·rw [if_pos h2,if_pos (by omega)]; omega
    ·rw [if_neg h2,if_neg (by omega)]; omega
 rw [key,if_pos (by omega)]
theorem FI.start {ps rs:List Int} (hT:Tree ps rs) (as:List Ask):FI ps rs as [] ⟨rs,List.replicate as.length 0,[]⟩:=by
 have hr:∀ t:Int,0<t->t<=(ps.length:Int)->1<=rs.getD (t - 1).toNat 0:=λt t0 t1=>by
  have hl:=hT.len
  exact (hT.room (t - 1).toNat _ (by rw [List.getD_eq_getElem?_getD,List.getElem?_eq_getElem (show (t - 1).toNat<rs.length by omega)]; rfl)).1
 refine ⟨λk h=>(by cases h),hT.len.symm,List.length_replicate,λi=>by show 0<=(List.replicate as.length (0:Int)).getD i 0; rw [fJ]; decide,λi _=>fJ _ _ _,λt t0 t1=>?_,.nil,λt=>?_,λk h=>(by cases h),λX1 i X2 h=>by cases X1 <;> cases h⟩
 ·have e:dN ps as (List.replicate as.length 0) t=0:=by
   unfold dN
   have:∀ l:List Nat,(l.map λ(i:Nat)=>cnt t (a9 ps as (i:Int)) ((List.replicate as.length (0:Int)).getD i 0)).sum=0:=λl=>by
    induction l with
    | nil=>rfl
    | cons i l ih =>
     rw [List.map_cons,List.sum_cons,ih,fJ]
     unfold cnt; split <;> rfl
   exact this _
  have:=hr t t0 t1
  show rs.getD (t - 1).toNat 0=_ - dN ps as (List.replicate as.length 0) t/\_
  rw [e]
  exact ⟨by omega,by show 0<=rs.getD (t - 1).toNat 0; omega⟩
 ·constructor
  ·intro h; cases h
  ·rintro ⟨t0,t1,h⟩
   have:=hr t t0 t1
   have h:rs.getD (t - 1).toNat 0=0:=h
   omega
theorem FI.step {ps rs:List Int} {as:List Ask} {X:List Int} {S:FC} {k m:Int} (hT:Tree ps rs) (ha:AsksOk ps as) (h:FI ps rs as X S) (k0 : 0<=k) (k1:k<(as.length:Int)) (hk:k ∉ X) (hm:∃ t∈a9 ps as k,S.left.getD (t - 1).toNat 0=m) (hl:∀ t∈a9 ps as k,m<=S.left.getD (t - 1).toNat 0):FI ps rs as (X++[k]) (dL ps as S k m):=by
 have hok:=dC ha k0 k1
 have hwm:∀ t∈a9 ps as k,0<t/\t<=(ps.length:Int):=λt ht=>gj hT hok.ends ht
 have hwn:(a9 ps as k).Nodup:=iw hT hok.ends
 obtain ⟨tm,tm1,tm2⟩:=hm
 have m0 : 0<=m:=by have:=(h.lf tm (hwm tm tm1).1 (hwm tm tm1).2).2; omega
 have hz:S.flow.getD k.toNat 0=0:=h.z k.toNat (by rw [show ((k.toNat:Nat):Int)=k by omega]; exact hk)
 have hfl:=h.fl
 have eL:∀ t:Int,0<t->(a7 S.left (a9 ps as k) (-m)).getD (t - 1).toNat 0=S.left.getD (t - 1).toNat 0 + cnt t (a9 ps as k) (-m):=λt t0=>by
  have:=iV (j:=(t - 1).toNat) (s:=-m) (l:=S.left) hwn (λx hx=>by rw [h.ll]; exact hwm x hx)
  rw [show (((t - 1).toNat:Nat):Int) + 1=t by omega] at this
  exact this
 have eF:∀ i:Nat,(S.flow.set k.toNat m).getD i 0=if i=k.toNat then m else S.flow.getD i 0:=λi=>by
  by_cases e:i=k.toNat
  ·subst e; rw [if_pos rfl,List.getD_eq_getElem?_getD,List.getElem?_set_self (by omega)]; rfl
  ·rw [if_neg e,List.getD_eq_getElem?_getD,List.getElem?_set_ne (Ne.symm e),<- List.getD_eq_getElem?_getD]
 have ecn:∀ t,cnt t (a9 ps as k) (-m) = - cnt t (a9 ps as k) m:=λt=>by unfold cnt; split <;> omega
 have hrow:∀ t:Int,t∈S.row++(a9 ps as k).filter (λt=>decide ((a7 S.left (a9 ps as k) (-m)).getD (t - 1).toNat 0=0) && !S.row.contains t)↔(0<t/\t<=(ps.length:Int)/\(a7 S.left (a9 ps as k) (-m)).getD (t - 1).toNat 0=0):=λt=>by
  rw [List.mem_append,List.mem_filter]
  constructor
  ·rintro (q | ⟨q1,q2⟩)
   ·obtain ⟨t0,t1,t2⟩:=(h.rw t).mp q
    refine ⟨t0,t1,?_⟩
    rw [eL t t0,t2]
    unfold cnt
    split
    ·rename_i c
     have:=hl t (by simpa using c)
     omega
    ·rfl
   ·have:=hwm t q1
    refine ⟨this.1,this.2,?_⟩
    simp only [Bool.and_eq_true] at q2
    exact of_decide_eq_true q2.1
  ·rintro ⟨t0,t1,t2⟩
   by_cases c:t∈S.row
   ·exact .inl c
   ·right
    have hw:t∈a9 ps as k:=by
     refine Classical.byContradiction λz=>c ((h.rw t).mpr ⟨t0,t1,?_⟩)
     rw [eL t t0] at t2
     have:cnt t (a9 ps as k) (-m)=0:=by unfold cnt; rw [if_neg (by simpa using z)]
     omega
    exact ⟨hw,by rw [Bool.and_eq_true]; exact ⟨decide_eq_true t2,by simpa using c⟩⟩
 refine ⟨λj hj=>?_,by show (a7 S.left _ _).length=_; rw [cY]; exact h.ll,by show (S.flow.set _ _).length=_; rw [List.length_set]; exact h.fl,λi=>?_,λi hi=>?_,λt t0 t1=>?_,?_,hrow,λj hj=>?_,λX1 i X2 e=>?_⟩
 ·rcases List.mem_append.mp hj with q | q
  ·exact h.rg j q
  ·rw [List.mem_singleton.mp q]; exact ⟨k0,k1⟩
 ·show 0<=(S.flow.set k.toNat m).getD i 0
  rw [eF]; split
  ·exact m0
  ·exact h.nn i
 ·show (S.flow.set k.toNat m).getD i 0=0
  rw [eF,if_neg (λz=>hi (List.mem_append.mpr (.inr (List.mem_singleton.mpr (by omega)))))]
  exact h.z i λz=>hi (List.mem_append.mpr (.inl z))
 ·obtain ⟨q1,q2⟩:=h.lf t t0 t1
  show (a7 S.left _ _).getD _ 0=_ - dN ps as (S.flow.set k.toNat m) t/\0<=(a7 S.left _ _).getD _ 0
  rw [eL t t0,jM k0 k1 h.fl hz,ecn]
  refine ⟨by omega,?_⟩
  unfold cnt
  split
  ·rename_i c
   have:=hl t (by simpa using c)
   omega
  ·omega
 ·show (S.row++_).Nodup
  rw [List.nodup_append]
  refine ⟨h.rn,hwn.filter _,λx hx y hy e=>?_⟩
  subst e
  have:=(List.mem_filter.mp hy).2
  simp only [Bool.and_eq_true] at this
  have:=this.2
  simp at this
  exact this hx
 ·rcases List.mem_append.mp hj with q | q
  ·obtain ⟨t,t1,t2⟩:=h.pt j q
   exact ⟨t,t1,List.mem_append.mpr (.inl t2)⟩
  ·rw [List.mem_singleton.mp q]
   refine ⟨tm,tm1,(hrow tm).mpr ⟨(hwm tm tm1).1,(hwm tm tm1).2,?_⟩⟩
   rw [eL tm (hwm tm tm1).1,tm2]
   unfold cnt
   rw [if_pos (by simpa using tm1)]; omega
 ·rcases List.eq_nil_or_concat X2 with rfl | ⟨X2',y,rfl⟩
  ·obtain ⟨rfl,e2⟩:=List.append_inj' e rfl
   cases e2
   refine ⟨S.row,_,rfl,λhp t ht hr=>?_,λj hj=>h.pt j hj⟩
   have hp : 0<(S.flow.set k.toNat m).getD k.toNat 0:=hp
   rw [eF,if_pos rfl] at hp
   have:=hl t ht
   have:=((h.rw t).mp hr).2.2
   omega
  ·have e:X++[k]=(X1++i :: X2')++[y]:=by rw [e]; simp
   obtain ⟨e1,e2⟩:=List.append_inj' e rfl
   obtain ⟨B,rest,b1,b2,b3⟩:=h.hi X1 i X2' e1
   refine ⟨B,rest++_,by show S.row++_=_; rw [b1,List.append_assoc],λhp=>b2 ?_,b3⟩
   have hp : 0<(S.flow.set k.toNat m).getD i.toNat 0:=hp
   rw [eF] at hp
   split at hp
   ·rename_i q
    have hi:i∈X:=by rw [e1]; simp
    have:=(h.rg i hi).1
    have ek:i=k:=by omega
    exact absurd (ek ▸ hi) hk
   ·exact hp
theorem FillC.fi {ps rs:List Int} {as:List Ask} {X:List Int} {S:FC} (hT:Tree ps rs) (ha:AsksOk ps as) (h:FillC ps rs as X S):X.Nodup->FI ps rs as X S:=by
 induction h with
 | nil=>intro _; exact FI.start hT as
 | @snoc X S k m h k0 k1 hm hl ih =>
  intro hn
  rw [List.nodup_append] at hn
  exact (ih hn.1).step hT ha k0 k1 (λz=>hn.2.2 _ z _ (List.mem_singleton.mpr rfl) rfl) hm hl
def dj (ws:List (List Int)) (cu:List Int):Bool:=ws.all λw=>w.any λt=>cu.contains t
def bK (ws:List (List Int)) (cu:List Int) (t:Int):List Int:=if dj ws (cu.filter λx=>!decide (x=t))=true then cu.filter λx=>!decide (x=t) else cu
def iu (ws:List (List Int)) (row:List Int):List Int:=row.reverse.foldl (bK ws) row
end L2
namespace L2
open PySem PySem.Spec PyProof.Rows
section
variable {X:Cx}
end
section
variable {X:Cx} {o e:Expr} {apos cpos:Pos} {te:TE} {a:Addr} {kv:List (Str×Int)}
end
section
variable {X:Cx} {ow:List Bool} {b:Expr} {mb:ME} {pos apos cpos:Pos}
end
section
variable {X:Cx}
end
section
variable {X:Cx} {M:Md} {e:Expr} {ma:ME} {pos:Pos}
end
section
variable {X:Cx}
end
section
variable {X:Cx} {pos:Pos}
end
section
variable {X:Cx} {M:Md} {a b c:Expr} {ma mb mc:ME} {pos:Pos}
end
end L2
namespace L2
open PySem
end L2
namespace L2
open PySem PyProof.Rows
section
variable {prog:Program} {w:World} {A:Around} {E:Value->Shared->Prop} {s:Shared}
end
end L2
namespace L2
open PySem PyProof.Rows PySem.Spec
section
variable {prog:Program} {w:World} {A:Around} {R:Result->Shared->Prop} {I:Addr} {fp wr:List Addr} {G:Array GenState->Array GenState->Prop} {n:Nat} {P:Nat->Value->Prop} {St:Nat->Shared->Prop}
end
section
variable {prog:Program} {w:World} {A:Around} {E:Value->Shared->Prop} {s:Shared}
end
section
variable {prog:Program} {w:World} {A:Around} {E:Value->Shared->Prop} {s:Shared}
end
section
variable {prog:Program} {w:World} {A:Around} {E:Value->Shared->Prop} {s:Shared}
end
section
variable {prog:Program} {w:World} {A:Around} {E:Value->Shared->Prop} {s:Shared}
end
section
variable {prog:Program} {w:World} {A:Around} {E:Value->Shared->Prop} {s:Shared}
end
section
variable {prog:Program} {w:World} {A:Around} {E:Value->Shared->Prop} {s:Shared}
end
end L2
namespace L2
open PySem PySem.Spec PyProof.Rows
section
variable {X:Cx}
variable {ow:List Bool} {e:Expr} {ma:ME} {pos p1 p2 p3:Pos}
end
end L2
namespace L2
open PySem
end L2
namespace L2
open PySem PySem.Spec PyProof.Rows
section
variable {X:Cx}
end
section
variable {X:Cx} {es:List Expr} {ps:List FP}
end
end L2
namespace L2
open PySem PySem.Spec PyProof.Rows PySem.NumText
end L2
namespace L2
open PySem PySem.Spec PyProof.Rows
section
variable {C:Ctx} {ow:List Bool} {G:Hp} {ρ:DSt} {σ:St} {H:Hp} {pd:List (D×V)} {O:Own}
end
section
variable {X:Cx} {ow:List Bool} {a b c e o:Expr} {ma mb:ME} {pos apos:Pos} {Cc:Addr} {f m:Str}
section
variable {k j:Nat} {fa:Addr} {fd:FuncData} {ps:List Str} {mu:List Bool} {sd:SpD} {sx:SpX} {ks:List AK} {es:List Expr} {mr:MA} {ak:AK}
end
section
variable {k j:Nat} {fa:Addr} {fd:FuncData} {ps:List Str} {mu:List Bool} {sd:SpD} {x:Str} {p':Pos} {es:List Expr} {mr:MA}
end
end
section
variable {X:Cx} {ow:List Bool} {a:Expr} {ma:ME} {ta:TE} {pos:Pos}
end
end L2
namespace L2
open PySem PySem.Spec PyProof.Rows PySem.NumText
section
variable {X:Cx} {ow:List Bool} {e a b:Expr} {ma mb:ME}
open PySem.Builtin.Str (occurrences strSub)
end
end L2
namespace L2
open PySem PySem.Spec PyProof.Rows
section
variable {C:Ctx} {ow:List Bool} {G:Hp} {ρ:DSt} {σ:St} {H:Hp} {O:Own}
end
section
variable {X:Cx} {M:Md} {st:Stmt} {m:MS}
end
section
variable {X:Cx} {ow:List Bool} {a b:Expr} {ma mb:ME} {pos:Pos}
end
section
variable {C:Ctx} {ow mu:List Bool} {G:Hp} {ρ:DSt} {σ:St} {H:Hp} {pd:List (D×V)} {O:Own} {f b:Lb->Option Lb}
end
open Classical in
section
variable {X:Cx} {ow:List Bool} {k j:Nat} {f:Addr} {fd:FuncData} {ps:List Str} {mu:List Bool} {sd:SpD} {x y:Str} {st:Stmt} {ks:List AK} {es:List Expr} {mr:MA} {pos p' p0 p1 n0 n1 c0 c1:Pos} {k0 k1:Nat}
end
end L2
namespace L2
open PySem PySem.Spec PyProof.Rows
section
variable {C:Ctx} {ow:List Bool} {G G2:Hp} {ρ ρ2:DSt} {σ σ2:St} {H H2:Hp} {pd pd2:List (D×V)} {O O2:Own} {l:Nat}
end
section
variable {X:Cx} {M:Md} {i:Nat} {pos:Pos} {m:MS} {me:ME}
end
end L2
namespace L2
open PySem PySem.Spec PyProof.Rows
open Classical in
section
variable {mv:List (Option V)} {s a b c:Nat}
end
section
variable {C:Ctx} {ow mu:List Bool} {G G2:Hp} {ρ ρ2:DSt} {σ σ2:St} {H H2:Hp} {pd2:List (D×V)} {O O2:Own} {s a b c:Nat} {d0 d1 d2:D} {x0 x1 x2:V} {p:Addr}
end
section
variable {X:Cx} {M:Md} {rest:List Stmt} {m:MS}
end
end L2
namespace L2
open PySem PySem.Spec PyProof.Rows
section
variable {X:Cx} {ow:List Bool} {js:List Nat} {pos:Pos}
end
section
variable {prog:Program} {w:World} {A:Around} {E:Value->Shared->Prop} {s:Shared} {env:Env}
end
section
variable {X:Cx} {pins p:List (Addr×Obj)} {σ:St} {H:Hp} {s:Shared} {E:Value->Shared->Prop}
end
section
variable {X:Cx} {pins p:List (Addr×Obj)} {σ:St} {H:Hp} {s:Shared} {E:Value->Shared->Prop}
variable {x:Str} {C D1 D2:Addr} {bm bm1 bm2 bmC:List Value} {ini ini1 ini2:Option Value} {x1 x2:Str} {p1 p2 tpos npos np cpos cp rpos ap:Pos} {kt j ja:Nat} {m:Str} {D:Ends} {e t:Addr} {dx:Option Addr} {xk:XS}
end
end L2
namespace L2
open PySem PySem.Spec PyProof.Rows PySem.W Att
open Classical in
open Classical in
section
variable {prog:Program} {w:World} {A:Around} {E:Value->Shared->Prop} {s:Shared} {a₀:Array Keyed}
end
end L2
namespace L2
open PySem PySem.Spec PyProof.Rows
section
variable {X:Cx} {M:Md} {st:Stmt} {m:MS}
end
section
variable {X:Cx} {ow:List Bool} {k j:Nat} {f:Addr} {fd:FuncData} {ps:List Str} {mu:List Bool} {sd:SpD} {x:Str} {st:Stmt} {pos p':Pos}
end
end L2
namespace L2
open PySem PySem.Spec PyProof.Rows PySem.W Att
abbrev gK (X:Cx) (args:Arguments) (body:Expr) (scope:Scope) (clos:List (Str×Addr)) (cv ctv:Value) (f L:Addr):Env :=
 newEnv (kla_fn "<lambda>" (X.env.qual ++ "<lambda>") args body scope clos ((X.mg "__name__").getD .none) cv ctv).scope L (kla_fn "<lambda>" (X.env.qual ++ "<lambda>") args body scope clos ((X.mg "__name__").getD .none) cv ctv).globals
  (kla_fn "<lambda>" (X.env.qual ++ "<lambda>") args body scope clos ((X.mg "__name__").getD .none) cv ctv).closure ((kla_fn "<lambda>" (X.env.qual ++ "<lambda>") args body scope clos ((X.mg "__name__").getD .none) cv ctv).qualname ++ ".<locals>.") (some f)
  (kla_fn "<lambda>" (X.env.qual ++ "<lambda>") args body scope clos ((X.mg "__name__").getD .none) cv ctv).code none (kla_fn "<lambda>" (X.env.qual ++ "<lambda>") args body scope clos ((X.mg "__name__").getD .none) cv ctv).builtins
def jm (X:Cx) (A:Around) (N:List Str) (env:Env) (s₀:Shared) (H₀:Hp):Cx where
 prog:=X.prog
 w:=X.w
 K:=X.K
 mg:=X.mg
 base:=X.base
 A:=A.deeper env
 N:=N
 s₀:=s₀
 H₀:=H₀
 env:=env
 outer:=X.stack
 stack:=env :: X.stack
 ex:=[]
 fn:=λ_=>false
 calm:=X.calm
 pn:=[]
 xe:=λ_ _=>False
section
variable {X:Cx} {pins:List (Addr×Obj)} {σ:St} {H:Hp} {s:Shared} {scope:Scope} {cl:List (Str×Addr)} {x:Str} {js:List Nat} {args:Arguments} {body:Expr} {cv ctv:Value} {f:Addr} {A:Around}
def jG (v:V) (js:List Nat) (σ:St):St:=some v :: js.map λj=>(σ[j]?).getD none
theorem qo {h1:Heap} {t':Nat} {v:V} {u:Value} (c:CompOk X scope cl [x] js) (I:Inv X pins σ H s) (hfr:A.frames=X.A.frames) (hhd:A.handled=X.A.handled) (hx:scope.names.lookup x=some .local) (rv:aW v u)
 (hk:∀ b o,s.heap.get? b=some o->h1.get? b=some o) (hn:h1.Ns s.heap.objs.size λy=>List.lookup y [(x,u)].reverse) :
 Inv (jm X A (bL X [x] js) (gK X args body scope cl cv ctv f s.heap.objs.size) s H) [] (jG v js σ) H { s with heap:=h1,toks:=t' }:=by
 have noA:∀ b:Addr,b ∉ (jm X A (bL X [x] js) (gK X args body scope cl cv ctv f s.heap.objs.size) s H).ex:=λb z=>absurd (show b∈([]:List Addr) from z) (by simp)
 have hC:s.heap.objs.size<=s.heap.objs.size:=Nat.le_refl _
 refine ⟨⟨I.ok.mod,c.kind,rfl,rfl,Nat.le_refl _,λx y d h1 h2=>I.ok.inj x y d (c.cells.get h1) (c.cells.get h2),λy hy=>?_,λx d h=>(by cases h),λz=>hhd.trans (I.ok.hd z),Around.frames_deeper (hfr.trans I.ok.frames),.inr ⟨rfl,rfl⟩,λb z=>absurd z (noA b),I.bs,Nat.le_trans I.ok.bsz I.sz,λb _ _=>noA b,λb z=>absurd z (noA b),I.stack,I.stkFree,I.ok.tb.un I.base⟩,
  rfl,I.bare,Un.kept hk,⟨_,hn,λi y w e1 e2 e3=>?_⟩,λy d e=>?_,I.hok.fresh hC,λy d e=>I.freeC y d (c.cells.get e),λp hp=>absurd (show p∈([]:List (Addr×Obj)) from hp) (by simp),I.hok.kept hk,?_⟩
 ·have hy:scope.names.lookup y=some .cell\/scope.names.lookup y=some .free:=hy
  rcases hy with hy | hy
  ·exact absurd rfl (c.nc _ (PySem.mem_of_lookup hy))
  ·exact c.fr hy
 ·have e1:(bL X [x] js)[i]? = some y:=e1
  unfold bL at e1
  unfold jG at e2
  cases i with
  | zero =>
   simp at e1 e2
   subst e1 e2
   exact ⟨u,rv,.inl ⟨hx,by show List.lookup x [(x,u)].reverse=_; simp⟩⟩
  | succ i =>
   have e1:(js.map λj=>(X.N[j]?).getD (Str.ofString ""))[i]? = some y:=by simpa using e1
   have e2:(js.map λj=>(σ[j]?).getD none)[i]? = some (some w):=by simpa using e2
   rw [List.getElem?_map] at e1 e2
   cases ej:js[i]? with
   | none=>rw [ej] at e2; cases e2
   | some j =>
    rw [ej] at e1 e2
    have hj:=List.all_eq_true.mp c.js j (List.mem_of_getElem? ej)
    unfold okJ at hj
    have e1':(X.N[j]?).getD (Str.ofString "")=y:=Option.some.inj e1
    have e2':(σ[j]?).getD none=some w:=Option.some.inj e2
    cases en:X.N[j]? with
    | none=>rw [en] at hj; cases hj
    | some y' =>
     rw [en] at hj e1'
     have e1'':y'=y:=e1'
     subst e1''
     have hv : σ[j]? = some (some w):=by
      cases es : σ[j]? with
      | none=>rw [es] at e2'; cases e2'
      | some ov=>rw [es] at e2'; rw [show ov=some w from e2']
     dsimp only at hj
     rw [Bool.and_eq_true] at hj
     have k1:X.env.scope.names.lookup y'=some .cell:=by
      have:=hj.1
      split at this
      ·assumption
      ·cases this
     have k2:scope.names.lookup y'=some .free:=by
      have:=hj.2
      split at this
      ·assumption
      ·cases this
     obtain ⟨m,_,hl⟩:=I.loc
     obtain ⟨u',ru,l⟩:=hl j y' w en hv (.inr (.inl k1))
     refine ⟨u',ru,?_⟩
     rcases l with ⟨l,_⟩ | ⟨_,d,ed,z⟩
     ·rw [show X.env.kindOf y'=some .cell from k1] at l; cases l
     ·obtain ⟨d',ed'⟩:=c.fr k2
      have:=c.cells.get ed'
      rw [ed] at this
      cases this
      obtain ⟨o,ho,hd⟩:=z
      exact .inr ⟨.inr k2,d,ed',⟨o,hk _ _ ho,hd⟩⟩
 ·obtain ⟨v',o,ho,hd⟩:=I.cell y d (c.cells.get e)
  exact ⟨v',o,hk _ _ ho,hd⟩
 ·unfold jG
  show _=(bL X [x] js).length
  unfold bL
  simp
theorem pY {Q:VK} {tb:TE} {i:Nat} {ti:Tok} (c:CompOk X scope cl [x] js) (I:Inv X pins σ H s) (hfr:A.frames=X.A.frames) (hhd:A.handled=X.A.handled) (hx:scope.names.lookup x=some .local)
 (ho:s.heap.get? f=some (iP X args body scope cl cv ctv)) (hcd:s.heap.CodeRec cv (X.env.qual ++ "<lambda>")) (hroom:A.depth<recursionLimit)
 (hb:bindArgs (kla_fn "<lambda>" (X.env.qual ++ "<lambda>") args body scope cl ((X.mg "__name__").getD .none) cv ctv) ⟨[.int i ti],[]⟩=pure [(x,.int i ti)])
 (hco:scope.isCoroutine=false) (hgen:scope.isGenerator=false)
 (hp:PE (jm X A (bL X [x] js) (gK X args body scope cl cv ctv f s.heap.objs.size) s H) body tb) (h:tb (jG (.int i) js σ) H Q) :
 wpAny (model X.prog X.w) A (call (.ref f) [.int i ti]) (EP X pins σ λv H2=>Q v H2/\∀ b o u,H b=some (.frz o u)->H2 b=some (.frz o u)) (λ_ _=>False) s:=by
 refine wpAny_call ?_
 refine kla_callFunE hroom ho rfl hco hgen rfl hcd ?_
 rw [hb]
 refine wpAny_pure (wpAny_newFunctionEnv c.nc (λz hz=>by rw [List.mem_singleton.mp hz]; exact hx) (λh₁ hns hsb=>⟨I.nolimit.fresh _ hsb,?_⟩) c.kind)
 have hk₁:∀ b o,s.heap.get? b=some o->h₁.get? b=some o:=λb o e=>hsb.extBut b o (Nat.ne_of_lt (Heap.lt_size e)) (Heap.get?_push_of_some _ e)
 refine kla_codeExpr ?_
 have J:=qo (t':=s.toks + 1) (args:=args) (body:=body) (cv:=cv) (ctv:=ctv) (f:=f) (v:=V.int i) (u:=.int i ti) c I hfr hhd hx ⟨ti,rfl⟩ hk₁ hns
 refine wpAny_mono (hp [] _ _ H Q J h) (λu s' hs=>?_) λe s' hs=>hs.elim
 obtain ⟨v,H',J',rv,q⟩:=hs
 exact I.after ⟨v,H',J'.os,J'.bare,J'.base,J'.hok,rv,q,J'.base.frzs⟩
variable {P:Nat->Hp->Prop} {key:Int->Int} {vs:List Value} {n:Nat} {g:Value} {a kA:Addr} {e1:Nat} {Pf:PySem.Fin->Shared->Prop} {E:Value->Shared->Prop}
theorem Inv.cellNe (I:Inv X pins σ H s) {b:Addr} {o:Obj} (e:s.heap.get? b=some o) (nc:∀ v,o.data≠.cell v):∀ x c,X.env.cells.lookup x=some c->c≠b:=λx c h z=>by
 obtain ⟨v,o',h1,h2⟩:=I.cell x c h
 rw [z,e] at h1; cases h1
 exact nc v h2
theorem rZ (I:Inv X ((kA,seqObj "list" #[] 0) :: (a,seqObj "list" #[] e1) :: pins) σ H s) (p0:P 0 H) (hka:kA≠a) (hpk:∀ p∈X.pn++pins,p.1≠kA) (hpa:∀ p∈X.pn++pins,p.1≠a) (hk0:X.s₀.heap.objs.size<=kA) (ha0:X.s₀.heap.objs.size<=a)
 (hvl:vs.length=n) (hi:IntsAre vs ((List.range n).map λ(i:Nat)=>(i:Int))) (hys:∀ (j:Nat) v,vs[j]? = some v->∃ t,v=Value.int (j:Int) t) (h64:n<64)
 (turn:∀ (i:Nat) (ti:Tok),i<n->∀ pins' H' s',Inv X pins' σ H' s'->(∀ p∈pins,p∈pins')->P i H'->wpAny (model X.prog X.w) A (call g [.int i ti]) (EP X pins' σ λw H2=>w = .int (key i)/\P (i + 1) H2) (λ_ _=>False) s')
 (h:∀ H' s' os,Inv X pins σ (upd H' a (.lst (os.map V.int))) s'->H' a=none->P n H'->SortK n key os->Pf (.done (.ret .none)) s') :
 wpAny (model X.prog X.w) A (ksk_rest a g false vs.toArray e1 (.ref kA)) Pf E s:=by
 have hkl:((List.range n).map λ(i:Nat)=>key (i:Int)).length=vs.length:=by simp [hvl]
 unfold ksk_rest
 refine wpAny_bind (wpAny_rule ?_)
 first
  | rw [List.forIn_toArray]
  | (rw [<- Array.forIn_toList]; simp only [List.toList_toArray])
  | rw [<- Array.forIn_toList]
 refine wpAny_bind (ksk_fold (λi s'=>∃ H' kB e,Inv X ((kA,seqObj "list" kB e) :: (a,seqObj "list" #[] e1) :: pins) σ H' s'/\P i H'/\IntsAre kB.toList (((List.range n).map λ(i:Nat)=>key (i:Int)).take i)) vs 0 s
  ⟨H,#[],0,I,p0,by simpa using IntsAre.nil⟩ ?step ?done)
 case step =>
  rintro j x' s' hx ⟨H',kB,e,J,pj,hk⟩
  simp only [Nat.zero_add] at hk pj ⊢
  have hj:j<vs.length:=(List.getElem?_eq_some_iff.mp hx).1
  obtain ⟨ti,rfl⟩:=hys j x' hx
  have hz:kB.size<=vs.length:=by have h1:=hk.length; rw [Array.length_toList,List.length_take] at h1; omega
  refine wpAny_bind (wpAny_attempt (wpAny_mono (turn j ti (by omega) _ H' s' J (λp hp=>.tail _ (.tail _ hp)) pj) (λv s2 he=>?_) λ_ _ hF=>hF.elim))
  obtain ⟨w,H2,J2,rw2,rfl,pj2⟩:=he
  obtain ⟨t2,rfl⟩:=(show ∃ t,v=Value.int (key j) t from rw2)
  try dsimp only
  have nk:=J2.pin (kA,seqObj "list" kB e) (List.mem_append_right _ (.head _))
  have s1:=Heap.SameBut.update s2.heap kA (Obj.mapSeq (·.push (.int (key j) t2)))
  obtain ⟨c2,hc2⟩:∃ c2,(s2.heap.update kA (Obj.mapSeq (·.push (.int (key j) t2)))).get? kA=some (seqObj "list" (kB.push (.int (key j) t2)) c2):=⟨_,get?_update_seq nk.1 (·.push (.int (key j) t2))⟩
  have ek:((List.range n).map λ(i:Nat)=>key (i:Int)).take (j + 1)=((List.range n).map λ(i:Nat)=>key (i:Int)).take j++[key j]:=by
   rw [List.take_add_one,List.getElem?_map,List.getElem?_range (by omega)]; rfl
  have ea:(kB.push (Value.int (key j) t2)).toList=kB.toList++[Value.int (key j) t2]:=by simp
  refine wpAny_bind (listUpdate_at nk.1 rfl ?_ (by rw [sizeLine_eq]; omega) (Nat.le_trans (Nat.le_of_eq (Array.size_push ..)) (by rw [sizeLine_eq]; omega)))
  have J3:Inv X ((a,seqObj "list" #[] e1) :: pins) σ H2 s2:=J2.pins_of λp hp=>J2.pin p (List.mem_append_right _ (.tail _ hp))
  have J4:=J3.turned (t':=s2.toks) (h':=s2.heap.update kA (Obj.mapSeq (·.push (.int (key j) t2)))) (it:=kA) (λb o hb eb=>(s1.2 b hb).trans eb) nk.2.1 nk.2.2.1 (.inr hk0) (J2.cellNe nk.1 nk.2.2.2.2) (λp hp=>by
   rcases List.mem_append.mp hp with hp | hp
   ·exact hpk p (List.mem_append_left _ hp)
   ·rcases List.mem_cons.mp hp with rfl | hp
    ·exact hka.symm
    ·exact hpk p (List.mem_append_right _ hp))
  refine wpAny_pure ⟨rfl,H2,kB.push (.int (key j) t2),c2,J4.pins_of λp hp=>?_,pj2,by rw [ea,ek]; exact ksk_snoc hk⟩
  rcases List.mem_cons.mp hp with rfl | hp
  ·exact ⟨hc2,nk.2.1,nk.2.2.1,nk.2.2.2.1,λv z=>by cases z⟩
  ·exact J4.pin p (List.mem_append_right _ hp)
 case done =>
  rintro s' ⟨H',kB,e,J,pj,hk⟩
  have hk':IntsAre kB.toList ((List.range n).map λ(i:Nat)=>key (i:Int)):=by
   have e3:((List.range n).map λ(i:Nat)=>key (i:Int)).take (0 + vs.length)=(List.range n).map λ(i:Nat)=>key (i:Int):=List.take_of_length_le (by omega)
   rw [e3] at hk
   exact hk
  rw [Nat.zero_add,hvl] at pj
  have nk:=J.pin (kA,seqObj "list" kB e) (List.mem_append_right _ (.head _))
  have na:=J.pin (a,seqObj "list" #[] e1) (List.mem_append_right _ (.tail _ (.head _)))
  try dsimp only
  refine wpAny_bind (listItems_at nk.1 rfl ?_)
  obtain ⟨m,hns,hloc⟩:=id J.loc
  have inN:∀ {b:Addr} {o:Obj},s'.heap.get? b=some o->b≠X.env.locals->b≠kA->b≠a->(b,o)∈(fH s'.heap X.env.locals kA).filter λp=>decide (p.1≠a):=λe z1 z2 z3=>List.mem_filter.mpr ⟨cI.mpr ⟨z1,z2,e⟩,decide_eq_true z3⟩
  have N0:News (gG s'.heap) X.env.locals s'.heap ((fH s'.heap X.env.locals kA).filter (λp=>decide (p.1≠a))++[(kA,seqObj "list" kB e),(a,seqObj "list" #[] e1)]):=λq hq=>by
   rcases List.mem_append.mp hq with hq | hq
   ·obtain ⟨b,o⟩:=q
    have:=cI.mp (List.mem_filter.mp hq).1
    exact ⟨this.2.2,this.1,cK _ _⟩
   ·rcases List.mem_cons.mp hq with rfl | hq
    ·exact ⟨nk.1,nk.2.2.1,cK _ _⟩
    ·rw [List.mem_singleton.mp hq]; exact ⟨na.1,na.2.2.1,cK _ _⟩
  refine qL (nL hns) N0 hka (λp hp=>(cI.mp (List.mem_filter.mp hp).1).2.1) (λp hp=>of_decide_eq_true (List.mem_filter.mp hp).2) hk' (by simp [hvl]) (by omega) (jw hi) λh' tk xs c F' N' ko=>?_
  obtain ⟨os,hos,hsk⟩:=SortK.of (key:=key) hi ko
  have get:∀ {b:Addr} {o:Obj},s'.heap.get? b=some o->b≠X.env.locals->b≠kA->b≠a->h'.get? b=some o:=λe z1 z2 z3=>(N' _ (List.mem_cons_of_mem _ (inN e z1 z2 z3))).1
  have hao:=(N' _ (.head _)).1
  have up:∀ {b u},H' b=some u->upd H' a (.lst (os.map V.int)) b=some u:=λe=>by rw [ah (av e na.2.1)]; exact e
  have nh:∀ {b u},H' b=some u->b≠X.env.locals/\b≠kA/\b≠a:=λ{b u} e=>⟨av e J.free,av e nk.2.1,av e na.2.1⟩
  have hlo:os.length=n:=by have:=hsk.perm.length_eq; simpa using this
  have J0:Inv X pins σ H' s':=J.pins_of λp hp=>J.pin p (List.mem_append_right _ (.tail _ (.tail _ hp)))
  refine h H' _ os ?_ na.2.1 pj hsk
  refine J0.step (g':=s'.gens) (d':=s'.drawn) (ch:=[kA,a]) (λb hb=>?_) (λb o hL _ hc e _=>get e hL (λz=>hc (by simp [z])) (λz=>hc (by simp [z]))) (λb o hL _ hc e _=>⟨o.slots,get e hL (λz=>hc (by simp [z])) (λz=>hc (by simp [z]))⟩) (λb o hc e q=>by rw [ah (λz=>hc (by simp [z]))]; exact q) (λb o hc e=>?_) (λb xs e=>up e) (λb o u e=>up e) (λb ps q e=>⟨#[],by rw [up e]; simp⟩) (λm' hm'=>?_) (λb u e=>?_) J0.bare
  ·rcases List.mem_cons.mp hb with rfl | hb
   ·exact ⟨.inr hk0,nk.2.2.1,J.cellNe nk.1 nk.2.2.2.2,hpk⟩
   ·rw [List.mem_singleton.mp hb]
    exact ⟨.inr ha0,na.2.2.1,J.cellNe na.1 na.2.2.2.2,hpa⟩
  ·by_cases z:b=X.env.locals
   ·obtain ⟨o',_,_,e',_⟩:=F'.ns; exact ⟨o',by rw [z]; exact e'⟩
   ·exact ⟨o,get e z (λz=>hc (by simp [z])) (λz=>hc (by simp [z]))⟩
  ·rw [hm'.eq_nsMap,<- hns.eq_nsMap]; exact F'.ns
  ·by_cases z:b=a
   ·subst z; rw [ay] at e; cases e
    exact ⟨by rw [List.length_map,hlo]; exact Nat.le_trans (Nat.le_of_lt h64) (by decide),(xs.map (·.2)).toList,c,cW hos,by rw [Array.toArray_toList]; exact hao⟩
   ·rw [ah z] at e
    refine (J0.hok b u e).stay (λd w hd q=>?_) (λd q=>up q) (λd xs q=>up q) λd ob u q=>up q
    have:=hd.elim (λy=>(by rw [y]; exact nh e:d≠X.env.locals/\d≠kA/\d≠a)) λy=>nh y
    exact get q this.1 this.2.1 this.2.2
theorem rN {c0:Nat} (I:Inv X pins σ H s) (p0:P 0 H) (ho:s.heap.get? a=some (seqObj "list" vs.toArray c0)) (fa:f_ X pins H a) (ha0:X.s₀.heap.objs.size<=a)
 (hvl:vs.length=n) (hi:IntsAre vs ((List.range n).map λ(i:Nat)=>(i:Int))) (hys:∀ (j:Nat) v,vs[j]? = some v->∃ t,v=Value.int (j:Int) t) (h64:n<64)
 (turn:∀ (i:Nat) (ti:Tok),i<n->∀ pins' H' s',Inv X pins' σ H' s'->(∀ p∈pins,p∈pins')->P i H'->wpAny (model X.prog X.w) A (call g [.int i ti]) (EP X pins' σ λw H2=>w = .int (key i)/\P (i + 1) H2) (λ_ _=>False) s')
 (h:∀ H' s' os,Inv X pins σ (upd H' a (.lst (os.map V.int))) s'->H' a=none->P n H'->SortK n key os->Pf (.done (.ret .none)) s') :
 wpAny (model X.prog X.w) A (ksk_tree a g false) Pf E s:=by
 obtain ⟨f1,f2,f3,f4,f5,f6⟩:=id fa
 have ha:a<s.heap.objs.size:=Heap.lt_size ho
 have s1:=Heap.SameBut.update s.heap a (Obj.mapSeq λ_=>(#[]:Array Value))
 obtain ⟨e1,ho1⟩:∃ e1,(s.heap.update a (Obj.mapSeq λ_=>(#[]:Array Value))).get? a=some (seqObj "list" #[] e1):=⟨_,get?_update_seq ho λ_=>#[]⟩
 have hkS:((s.heap.update a (Obj.mapSeq λ_=>(#[]:Array Value))).push (seqObj "tuple" vs.toArray 0)).objs.size=s.heap.objs.size + 1:=by rw [size_push',Heap.size_update]
 unfold ksk_tree
 refine wpAny_bind (listItems_at ho rfl ?_)
 refine wpAny_bind (listUpdate_at ho rfl ?_ (by rw [List.size_toArray,sizeLine_eq]; omega) (Nat.zero_le _))
 refine wpAny_bind (seqEpoch_at ho1 rfl ?_)
 refine wpAny_bind (wpAny_newTuple ?_ (by show vs.length<=_; rw [sizeLine_eq]; omega))
 refine wpAny_bind (wpAny_newList ?_ (Nat.zero_le _))
 refine wpAny_holding ?_
 have I1:=I.turned (t':=s.toks) (h':=s.heap.update a (Obj.mapSeq λ_=>(#[]:Array Value))) (it:=a) (λb o hb eb=>(s1.2 b hb).trans eb) f1 f2 f4 f5 f6
 have I2:=I1.kept (t':=s.toks) (h':=((s.heap.update a (Obj.mapSeq λ_=>(#[]:Array Value))).push (seqObj "tuple" vs.toArray 0)).push (seqObj "list" #[] 0)) λb o e=>Heap.get?_push_of_some _ (Heap.get?_push_of_some _ e)
 have hge:s.heap.objs.size<=((s.heap.update a (Obj.mapSeq λ_=>(#[]:Array Value))).push (seqObj "tuple" vs.toArray 0)).objs.size:=by rw [hkS]; exact Nat.le_succ _
 have fk:f_ X pins H ((s.heap.update a (Obj.mapSeq λ_=>(#[]:Array Value))).push (seqObj "tuple" vs.toArray 0)).objs.size:=I.fpOk hge (I.hok.fresh hge)
 obtain ⟨k1,k2,k3,k4,k5,k6⟩:=id fk
 refine rZ (P:=P) (H:=H) (pins:=pins) (kA:=((s.heap.update a (Obj.mapSeq λ_=>(#[]:Array Value))).push (seqObj "tuple" vs.toArray 0)).objs.size) (e1:=e1) (I2.pins_of λp hp=>?_) p0 (by rw [hkS]; exact Nat.ne_of_gt (Nat.lt_succ_of_lt ha)) k6 f6 (Nat.le_trans I.sz hge) ha0 hvl hi hys h64 turn h
 rcases List.mem_cons.mp hp with rfl | hp
 ·exact ⟨Heap.get?_push_size _ rfl,k1,k2,k3,λv z=>by cases z⟩
 ·rcases List.mem_cons.mp hp with rfl | hp
  ·exact ⟨Heap.get?_push_of_some _ (Heap.get?_push_of_some _ ho1),f1,f2,f3,λv z=>by cases z⟩
  ·exact I2.pin p (List.mem_append_right _ hp)
theorem nS {kw:List (Str×Value)} {r:Addr} {t u v:Tok} {Q:Value->Shared->Prop} (I:Inv X pins σ H s) (p0:P 0 H) (hh:A.handled=none) (hr:IsRange s.heap r 0 n 1 t u v) (h64:n<64)
 (ha1:argsOk "sorted" ⟨[.ref r],kw⟩) (ha2:∀ x,argsOk "list.sort" ⟨[.ref x],kw⟩) (ht:∀ x,Builtin.«list.sort» ⟨[.ref x],kw⟩=ksk_tree x g false)
 (turn:∀ (i:Nat) (ti:Tok),i<n->∀ pins' H' s',Inv X pins' σ H' s'->(∀ p∈pins,p∈pins')->P i H'->wpAny (model X.prog X.w) A.in1.in1 (call g [.int i ti]) (EP X pins' σ λw H2=>w = .int (key i)/\P (i + 1) H2) (λ_ _=>False) s')
 (h:∀ H' s' D os,Inv X pins σ (upd H' D (.lst (os.map V.int))) s'->H' D=none->P n H'->SortK n key os->Q (.ref D) s') :
 wpAny (model X.prog X.w) A (call (.builtin "sorted") [.ref r] kw) Q E s:=by
 refine call_function_entry_kw kind_sorted plain_sorted entry_sorted ha1 ?_
 unfold Builtin.«sorted»
 refine wpAny_bind (m:=checkCount "sorted" 1 1 _) (wpAny_pure ?_)
 have hn1:Builtin.Range.rangeSize 0 n 1=(n:Int):=by rw [rangeSize_one]; split <;> omega
 refine wpAny_bind (f7 (n:=n) hh hr (small_one (by omega) (by omega) (by omega) (by omega)) hn1 (by omega) λh1 tk1 ys hsz hk hyl hys=>?_)
 refine wpAny_bind (wpAny_newList ?_ (by rw [sizeLine_eq]; omega))
 have hys':∀ (j:Nat) v,ys[j]? = some v->∃ t,v=Value.int (j:Int) t:=λj v e=>by
  obtain ⟨t,rfl⟩:=hys j v e
  exact ⟨t,by congr 1; omega⟩
 have hi:IntsAre ys ((List.range n).map λ(i:Nat)=>(i:Int)):=by
  have:=fM ys 0 hys
  rw [hyl] at this
  have e:((List.range n).map λ(i:Nat)=>(0:Int) + (i:Int))=(List.range n).map λ(i:Nat)=>(i:Int):=List.map_congr_left λi _=>by omega
  rw [e] at this; exact this
 have hoL:(h1.push (seqObj "list" ys.toArray 0)).get? h1.objs.size=some (seqObj "list" ys.toArray 0):=Heap.get?_push_size _ rfl
 show wpAny _ _ _ _ _ { s with heap:=h1.push (seqObj "list" ys.toArray 0),toks:=tk1 }
 have J:Inv X pins σ H { s with heap:=h1.push (seqObj "list" ys.toArray 0),toks:=tk1 }:=I.kept λb o q=>Heap.get?_push_of_some _ (hk b o q)
 have fD:f_ X pins H h1.objs.size:=I.fpOk hsz (I.hok.fresh hsz)
 refine wpAny_bind (wpAny_holding (wpAny_call_entry_kw slot_list_sort ⟨_,hoL,rfl⟩ entry_list_sort ?body (ha2 _)))
 case body =>
  have ht':=ht h1.objs.size
  show wpAny (model X.prog X.w) A.in1.in1 (Builtin.«list.sort» ⟨[.ref h1.objs.size],kw⟩) _ _ _
  rw [ht']
  refine rN (P:=P) J p0 hoL fD (Nat.le_trans I.sz hsz) hyl hi hys' h64 turn λH' s' os J' n' p' k'=>⟨_,rfl,?_⟩
  exact wpAny_pure ⟨_,rfl,h H' s' _ os J' n' p' k'⟩
end
def sh (js:List Nat) (te tb:TE):TE:=λσ H Q=>te σ H λv H1=>∃ n:Nat,v = .int n/\n<64/\∃ (P:Nat->Hp->Prop) (key:Int->Int),(∀ H2,TbS H1 H2->P 0 H2) /\
 (∀ i:Nat,i<n->∀ H2,P i H2->tb (jG (.int i) js σ) H2 λw H3=>w = .int (key i)/\P (i + 1) H3)/\∀ H2 D os,P n H2->SortK n key os->H2 D=none->Q (.ref D) (upd H2 D (.lst (os.map V.int)))
section
variable {X:Cx} {e:Expr} {te tb:TE} {x:Str} {c P:Addr} {args:Arguments} {scope:Scope} {body:Expr} {cl:List (Str×Addr)} {js:List Nat} {q1 q2 q3 lp kp pos:Pos}
theorem mK (js:List Nat) (hg1:Gl X "sorted") (hm1:X.mg "sorted" = none) (hg2:Gl X "range") (hm2:X.mg "range" = none) (he:PE X e te) (co:CompOk X scope cl [x] js) (hcode:X.env.code = .ref c)
 (hB:TabB X.base X.mg c P (X.env.qual ++ "<lambda>")) (hcalm:X.calm=true) (hroom:X.A.in1.in1.depth<recursionLimit) (hco:scope.isCoroutine=false) (hge:scope.isGenerator=false) (hx:scope.names.lookup x=some .local)
 (hbind:∀ (cv ctv:Value) (i:Nat) (ti:Tok),bindArgs (kla_fn "<lambda>" (X.env.qual ++ "<lambda>") args body scope cl ((X.mg "__name__").getD .none) cv ctv) ⟨[.int i ti],[]⟩=pure [(x,.int i ti)])
 (hb:∀ (f:Addr) (cv ctv:Value) (s:Shared) (H:Hp),PE (jm X X.A.in1.in1 (bL X [x] js) (gK X args body scope cl cv ctv f s.heap.objs.size) s H) body tb)
 (hdf:defaultsOf args X.env=([],[])) (hs:starEach [e] X.env=[(false,eval e X.env)]:=by rfl) :
 PE X (.Call (.Name "sorted" q1) [.Call (.Name "range" q2) [e] [] q3] [⟨some "key",.Lambda args body scope lp,kp⟩] pos) (sh js te tb):=by
 refine ⟨λpins s σ H Q I h=>?_⟩
 refine wpAny_Call_Name_kw (cG I hg1 hm1 cD ?_)
 refine callWith_kw (rest:=[]) ?_
 show wpAny _ _ (spliced ((false,eval (.Call (.Name "range" q2) [e] [] q3) X.env) :: [])) _ _ s
 refine Calls.spliced_cons ?_
 refine Call_ (cG I hg2 hm2 boot_range (PyProof.Rows.callWith_type1 (rest:=[]) ?_ hs rfl))
 rw [hs]
 refine Calls.spliced_cons (thn (he pins s σ H _ I h) λu1 s1 ⟨v1,H1,I1,r1,n,e1,h64,Pk,key,pk0,turn,hQ⟩=>Calls.spliced_nil ?_)
 subst e1
 obtain ⟨tn,rfl⟩:=r1
 refine call_range_1 ?_
 refine Calls.spliced_nil ?_
 show wpAny _ _ (evalAll [(do let v <- eval (.Lambda args body scope lp) X.env; standAt pos; pure v)]) (λkvs s₂=>wpAny (model X.prog X.w) X.A (call (.builtin "sorted") [.ref s1.heap.objs.size] ([Str.ofString "key"].zip kvs)) (EP X pins σ Q) X.xe s₂) _ _
 have I2:Inv X pins σ H1 { s1 with heap:=s1.heap.push { cls:=.type "range",data:=.fields #[.int 0 s1.toks,.int n tn,.int 1 (s1.toks + 1)] },toks:=s1.toks + 1 + 1 }:=I1.kept λb o e=>Heap.get?_push_of_some _ e
 have J:=I2.pinNew (Heap.get?_push_size s1.heap (o:={ cls:=.type "range",data:=.fields #[.int 0 s1.toks,.int n tn,.int 1 (s1.toks + 1)] }) rfl) (I1.hok.fresh (Nat.le_refl _)) I1.sz (Nat.ne_of_gt I1.lt) (λv z=>by cases z)
 unfold evalAll
 refine wpAny_bind (wpAny_bind ?_)
 refine nQ J hdf co.clos hcode hB λf cv ctv H' s' J2 tb hcv=>?_
 refine wpAny_bind (wpAny_standAt (wpAny_pure ?_))
 refine wpAny_bind (wpAny_holding ?_)
 unfold evalAll
 refine wpAny_pure (wpAny_pure ?_)
 obtain ⟨c',oc,vc,tq,rfl,hc',hdc,hqc⟩:=hcv
 have hh:=J2.ok.hd hcalm
 refine nS (P:=λi H2=>Pk i H2/\H2 c'=some (.frz oc (.own 0))) (key:=key) (g:=.ref f) (n:=n) J2 ⟨pk0 H' tb,hc'⟩ hh (J2.pin _ (List.mem_append_right _ (.tail _ (.head _)))).1 h64 (ksk_s1 _ _) (λx=>ksk_l1 _ _) (λx=>ksk_t1 _ _) (λi ti hi pins' H2 s2 J3 sub pi=>?_) λH2 s2 D os J3 hD pn sk=>?_
 ·have hf:=J3.pin _ (List.mem_append_right _ (sub _ (.head _)))
  refine wpAny_mono (pY (js:=js) co J3 rfl rfl hx hf.1 ⟨c',oc,vc,tq,rfl,(J3.hok c' _ pi.2).1,hdc,hqc⟩ hroom (hbind _ _ _ _) hco hge (hb f _ ctv s2 H2) (turn i hi H2 pi.1)) (λv s3 q=>?_) λ_ _ z=>z
  obtain ⟨w,H3,J4,r4,q4,fz⟩:=q
  exact ⟨w,H3,J4,r4,q4.1,q4.2,fz c' oc _ pi.2⟩
 ·exact ⟨.ref D,_,J3.pins_of λq hq=>J3.pin q (List.mem_append_right _ (.tail _ (.tail _ hq))),rfl,hQ H2 D os pn.1 sk hD⟩
end
def rhoL (d:D) (js:List Nat) (ρ:DSt):DSt:=some d :: js.map λj=>(ρ[j]?).getD none
theorem RO.innerL {C:Ctx} {ow:List Bool} {G:Hp} {ρ:DSt} {σ:St} {H:Hp} {pd:List (D×V)} {O:Own} (h:RO C ow G ρ σ H pd O) (i:Int) (js:List Nat) (hj:∀ j∈js,ow[j]?≠some true) :
 RO ⟨G,H,bN (λ_=>none) O,[],0⟩ [] G (rhoL (.int i) js ρ) (jG (.int i) js σ) H [] (bN (λ_=>none) O):=by
 have no:∀ a,bN (λ_=>none) O a=none:=λa=>by unfold bN; cases O a <;> rfl
 refine ⟨by simp [rhoL,jG],h.gh,λ_ _ e=>e,λ_ _ e=>.inl e,λa l e=>?_,λa l π e=>?_,λ_ _ e _ _=>e,h.ft,λ_ e=>e,λi v e=>by simp at e,?_,trivial,Nat.le_refl _⟩
 ·rw [no] at e; cases e
 ·exact absurd (e.symm.trans (no a)) (by simp)
 ·intro k d e
  unfold rhoL at e
  cases k with
  | zero =>
   simp at e
   subst e
   exact ⟨.int i,rfl,by simpa using bq _⟩
  | succ k =>
   have e:(js.map λj=>(ρ[j]?).getD none)[k]? = some (some d):=by simpa using e
   rw [List.getElem?_map] at e
   cases z:js[k]? with
   | none=>rw [z] at e; cases e
   | some j =>
    rw [z] at e
    have e':(ρ[j]?).getD none=some d:=Option.some.inj e
    have e2 : ρ[j]? = some (some d):=by
     cases w : ρ[j]? with
     | none=>rw [w] at e'; cases e'
     | some o=>rw [w] at e'; exact congrArg some e'
    obtain ⟨v,h1,h2⟩:=h.sl j d e2
    rw [if_neg (hj j (List.mem_of_getElem? z))] at h2
    refine ⟨v,?_,by simpa using h2⟩
    unfold jG
    rw [List.getElem?_cons_succ,List.getElem?_map,z]
    show some ((σ[j]?).getD none)=_
    rw [h1]; rfl
def rd (js:List Nat) (me mb:ME):ME:=λρ q=>me ρ λd ρ1=>match d with
 | .int n=>0<=n/\n<64/\∃ key:Int->Int,(∀ i:Int,0<=i->i<n->∀ k:D->Prop,k (.int (key i))->mb (rhoL (.int i) js ρ1) λd _=>k d)/\∀ out,SortK n.toNat key out->q (.lst (out.map D.int)) ρ1
 | _=>False
section
variable {X:Cx} {ow:List Bool} {e:Expr} {me mb:ME} {x:Str} {c P:Addr} {args:Arguments} {scope:Scope} {body:Expr} {cl:List (Str×Addr)} {q1 q2 q3 lp kp pos:Pos} {k:Nat}
theorem oJ (js:List Nat) (hr:Room (k + 2) X.A) (hg1:Gl X "sorted") (hm1:X.mg "sorted" = none) (hg2:Gl X "range") (hm2:X.mg "range" = none) (he:QE X ow e me) (co:CompOk X scope cl [x] js) (hcode:X.env.code = .ref c)
 (hB:TabB X.base X.mg c P (X.env.qual ++ "<lambda>"))
 (hb:∀ (f:Addr) (cv ctv:Value) (s:Shared) (H:Hp),QE (jm X X.A.in1.in1 (bL X [x] js) (gK X args body scope cl cv ctv f s.heap.objs.size) s H) [] body mb)
 (hcalm:X.calm=true:=by rfl) (hco:scope.isCoroutine=false:=by rfl) (hge:scope.isGenerator=false:=by rfl) (hx:scope.names.lookup x=some .local:=by rfl)
 (hbind:∀ (cv ctv:Value) (i:Nat) (ti:Tok),bindArgs (kla_fn "<lambda>" (X.env.qual ++ "<lambda>") args body scope cl ((X.mg "__name__").getD .none) cv ctv) ⟨[.int i ti],[]⟩=pure [(x,.int i ti)]:=by intros; rfl)
 (hdf:defaultsOf args X.env=([],[]):=by rfl) (hs:starEach [e] X.env=[(false,eval e X.env)]:=by rfl) (hj:∀ j∈js,ow[j]?≠some true:=by decide) :
 QE X ow (.Call (.Name "sorted" q1) [.Call (.Name "range" q2) [e] [] q3] [⟨some "key",.Lambda args body scope lp,kp⟩] pos) (rd js me mb):=by
 obtain ⟨t,p,s⟩:=he
 refine ⟨_,mK js hg1 hm1 hg2 hm2 p co hcode hB hcalm ?_ hco hge hx hbind (λf cv ctv s H=>(hb f cv ctv s H).can) hdf hs,λC G ρ σ H pd q Q r hm kk=>?_⟩
 ·exact hr.in1.in1.depth
 refine s C G ρ σ H pd _ _ r hm λd ρ1 v G1 H1 h1 z1 k1 r1 p1=>?_
 cases d with
 | int n =>
  obtain ⟨n0,n64,key,turn,hq⟩:=h1
  refine ⟨n.toNat,by rw [ax p1]; congr 1; omega,by omega,λ_ H2=>∃ G2,aB G1 G2/\R C ow G2 ρ1 σ H2 pd,key,λH2 tb=>?_,λi hi H2 ⟨G2,z2,O2,r2⟩=>?_,λH2 D os ⟨G2,z2,O2,r2⟩ sk hD=>?_⟩
  ·obtain ⟨O1,ro1⟩:=r1
   exact ⟨G1,aB.refl _,O1,ro1.tbs tb⟩
  ·refine iN (m:=mb) _ G2 _ _ H2 [] _ _ ⟨_,r2.innerL i js hj⟩ (turn i (by omega) (by omega) (λd=>d = .int (key i)) rfl) λd ρ4 v4 G4 H4 h4 z4 kp4 r4 p4=>?_
   subst h4
   obtain ⟨O4,r4⟩:=r4
   refine ⟨ax p4,G4,z2.trans z4,jX (λ_=>none) (λ_=>none) O2 O4,?_⟩
   refine r2.out (vs:=[]) r4 (λ_ _ _ e=>by cases e) r2.len r2.np (λi d _ e=>e) (λi d _ e=>.inl ⟨rfl,e⟩) λO3 h1 h2 ts=>?_
   exact bG.keep ts (λa j π hj e=>h1 a _ _ e rfl) r2.pn
  ·obtain ⟨r3,z3⟩:=r2.new hD (.lst (os.map V.int))
   exact kk _ ρ1 _ _ _ (hq os sk) (z1.trans (z2.trans z3)) k1 ⟨O2,r3⟩ (eX ay (cZ _))
 | _=>exact h1.elim
end
end L2
namespace L2
open PySem PySem.Spec PyProof.Rows PySem.W
theorem kr {P:Program} {w:World} {K:PySem.W.Frag} {mg mb:Str->Option Value} {CX:CXT} {k:Nat} {fa a c Pt c2 Pu:Addr} {tq tr:Str} {fd:FuncData} {x:Str} {sp:Sp} {s₁:Shared} {vs:List Value} {ns:List Int}
 (KX:K.In s₁.heap) (hns:s₁.heap.Ns mainGlobals mg) (hb:s₁.heap.Ns builtinsNs mb) (hbb:∀ x:Str,x ≠ "__name__" -> mb x=bootBuiltins x) (hlim:s₁.heap.NoLimit) (hg:s₁.gens = #[])
 (ha:s₁.heap.get? a=some { cls:=.type "list",data:=.seq vs.toArray }) (hi:IntsAre vs ns) (hl:ns.length<=sizeLine) (hr:Room k callerA)
 (hT:CodeHd s₁.heap c Pt) (hPt:s₁.heap.get? Pt=some (tabObj #[])) (hblt:s₁.heap.BuiltinsAt mg Pt) (hKP:K.lookup Pt=none)
 (hT2:CodeHd s₁.heap c2 Pu) (hPu:s₁.heap.get? Pu=some (tabObj #[])) (hblt2:s₁.heap.BuiltinsAt mg Pu) (hKP2:K.lookup Pu=none) (hPne:Pt≠Pu)
 (F:∀ base:Heap,K.In base->base.Ns mainGlobals mg->TabB base mg c Pt tq/\TabB base mg c2 Pu tr->FnOk P w K mg base CX k fa fd [x] sp) (hbind:∀ (s:Shared) (u:Value),BindsTo s fd ⟨[u],[]⟩ [(x,u)])
 (hsp:∀ H:Hp,lw H->SqL K H a (ns.map V.int)->sp [.ref a] H (λv _=>v = .bl true) λ_ _ _=>False)
 (hCX:∀ H e s',CX [] H s₁ (λ_ _ _=>False) e s'->False) :
 codeAny (model P w) callerA (.call (.ref fa) ⟨[.ref a],[]⟩) (λr s'=>r = .ok (.ret (.bool true))/\OldK s₁.heap s'.heap/\s'.os=s₁.os/\AllBare s'.gens) s₁:=by
 have rv:=cW hi
 have lenV:=hi.length
 have hne:Pt≠a:=λz=>by rw [z,ha] at hPt; cases hPt
 have hne2:Pu≠a:=λz=>by rw [z,ha] at hPu; cases hPu
 have core:∀ H:Hp,lw H->SqL K H a (ns.map V.int)->HOk P w H s₁.heap->H Pt=some (.tbl #[] tq)->H Pu=some (.tbl #[] tr)->(∀ b,H b≠none->b=a\/b=Pt\/b=Pu)->(H a≠none->K.lookup a=none) ->
  codeAny (model P w) callerA (.call (.ref fa) ⟨[.ref a],[]⟩) (λr s'=>r = .ok (.ret (.bool true))/\OldK s₁.heap s'.heap/\s'.os=s₁.os/\AllBare s'.gens) s₁:=by
  intro H hO hS hok hP hP2 hA hK
  have base_of:∀ {b:Addr} {o:Obj},s₁.heap.get? b=some o->H b=none->(cS s₁.heap H).get? b=some o:=λe n=>nO e n
  have noA:∀ {b:Addr} {o:Obj},s₁.heap.get? b=some o->(∀ xs n,o.data≠.seq xs n)->o.cls≠.none\/(∀ xs,o.data≠.fields xs)->H b=none:=λ{b o} e d1 d2=>by
   cases q:H b with
   | none=>rfl
   | some u =>
    rcases hA b (by rw [q]; simp) with z | z | z
    ·rw [z,ha] at e; cases e; exact absurd rfl (d1 _ _)
    ·rw [z,hPt] at e; cases e
     rcases d2 with d2 | d2
     ·exact absurd rfl d2
     ·exact absurd rfl (d2 _)
    ·rw [z,hPu] at e; cases e
     rcases d2 with d2 | d2
     ·exact absurd rfl d2
     ·exact absurd rfl (d2 _)
  have nsK:∀ {b:Addr} {m:Str->Option Value},s₁.heap.Ns b m->(cS s₁.heap H).Ns b m:=λ{b m} ⟨o,es,ep,e,d,r⟩=>⟨o,es,ep,base_of e (noA e (λ_ _ z=>by rw [d] at z; cases z) (.inr λ_ z=>by rw [d] at z; cases z)),d,r⟩
  have hKb:K.In (cS s₁.heap H):=λb o e=>base_of (KX b o e) (by
   cases q:H b with
   | none=>rfl
   | some u =>
    rcases hA b (by rw [q]; simp) with z | z | z
    ·subst z; rw [hK (by rw [q]; simp)] at e; cases e
    ·rw [z,hKP] at e; cases e
    ·rw [z,hKP2] at e; cases e)
  have hM:Mod K mg (cS s₁.heap H):=⟨hKb,nsK hns,⟨mb,nsK hb,hbb⟩,let ⟨mc,h1,h2⟩:=hlim; ⟨mc,nsK h1,h2⟩⟩
  have e0:Env0 P w K mg (cS s₁.heap H) callerA [] s₁ H:=⟨rfl,hM,λb o e=>qw e,Nat.le_of_eq (et _ _),trivial,λb hb=>absurd (show b∈([]:List Addr) from hb) (by simp),hok,.of_eq hg,TbM.hid⟩
  have tab:TabB (cS s₁.heap H) mg c Pt tq:=by
   refine ⟨TMk.hid (Heap.lt_size hPt) hP,?_,?_⟩
   ·obtain ⟨o,vs,file,tf,flags,tg,inF,text,tt,e,ec,ed,r⟩:=hT
    exact ⟨o,vs,file,tf,flags,tg,inF,text,tt,base_of e (noA e (λ_ _ z=>by rw [ed] at z; cases z) (.inl (by rw [ec]; intro z; cases z))),ec,ed,r⟩
   ·obtain ⟨bm,o,b1,b2,b3,b4,b5,b6,b7,b8⟩:=hblt
    exact ⟨bm,o,b1,b2,b3,b4,base_of b5 (noA b5 (λ_ _ z=>by rw [b8] at z; cases z) (.inl (by rw [b6]; intro z; cases z))),b6,b7,b8⟩
  have tab2:TabB (cS s₁.heap H) mg c2 Pu tr:=by
   refine ⟨TMk.hid (Heap.lt_size hPu) hP2,?_,?_⟩
   ·obtain ⟨o,vs,file,tf,flags,tg,inF,text,tt,e,ec,ed,r⟩:=hT2
    exact ⟨o,vs,file,tf,flags,tg,inF,text,tt,base_of e (noA e (λ_ _ z=>by rw [ed] at z; cases z) (.inl (by rw [ec]; intro z; cases z))),ec,ed,r⟩
   ·obtain ⟨bm,o,b1,b2,b3,b4,b5,b6,b7,b8⟩:=hblt2
    exact ⟨bm,o,b1,b2,b3,b4,base_of b5 (noA b5 (λ_ _ z=>by rw [b8] at z; cases z) (.inl (by rw [b6]; intro z; cases z))),b6,b7,b8⟩
  refine codeAny_mono ((F _ hKb (nsK hns) ⟨tab,tab2⟩).run callerA [] s₁ H ⟨[.ref a],[]⟩ [.ref a] [.ref a] _ _ hr e0 (hbind s₁ (.ref a)) (.cons rfl .nil) (hsp H hO hS)) λr s' h=>?_
  cases r with
  | error e=>exact (hCX H e s' h).elim
  | ok fl =>
   cases fl with
   | next=>exact False.elim h
   | brk=>exact False.elim h
   | cont=>exact False.elim h
   | ret u =>
    obtain ⟨v,H',os,bare,un,hok',r',q⟩:=h
    have q':v = .bl true:=q
    subst q'
    obtain rfl:u=Value.bool true:=r'
    refine ⟨rfl,⟨λb o e=>?_,λb o e=>un.there b o e (by simp)⟩,os,bare⟩
    cases q:H b with
    | none=>exact .inl (un.keep b o e q (by intro z; exact absurd (show b∈([]:List Addr) from z) (by simp)) (by simp))
    | some u =>
     by_cases zP:b=Pt
     ·subst zP
      obtain ⟨more,z2⟩:=un.tbls b _ _ hP
      obtain ⟨e2,_⟩:=hok' b _ z2
      rw [hPt] at e; cases e
      exact .inr (.inl ⟨(hT.tab hPt).isCodeTable,rfl,#[],more,rfl,e2⟩)
     by_cases zP2:b=Pu
     ·subst zP2
      obtain ⟨more,z2⟩:=un.tbls b _ _ hP2
      obtain ⟨e2,_⟩:=hok' b _ z2
      rw [hPu] at e; cases e
      exact .inr (.inl ⟨(hT2.tab hPu).isCodeTable,rfl,#[],more,rfl,e2⟩)
     ·rcases hO b with z | ⟨ob,xs,z⟩ | ⟨ps,q2,z⟩
      ·rw [q] at z; cases z
      ·have z2:=un.frzs b ob _ z
       obtain ⟨e1,_⟩:=hok b _ z
       obtain ⟨e2,_⟩:=hok' b _ z2
       rw [e] at e1; cases e1
       exact .inl e2
      ·rcases hA b (by rw [q]; simp) with y | y | y
       ·subst y
        obtain ⟨e1,_⟩:=hok b _ z
        rw [ha] at e1; cases e1
       ·exact absurd y zP
       ·exact absurd y zP2
 have tok:∀ {H:Hp} {tq:Str},TbV H #[] tq:=⟨trivial,λpos cv e=>by cases e⟩
 cases hk:K.lookup a with
 | some o =>
  have e:=KX a o hk
  rw [ha] at e
  cases e
  obtain ⟨H,hH⟩:∃ H:Hp,H=λb=>if b=Pt then some (.tbl #[] tq) else if b=Pu then some (.tbl #[] tr) else none:=⟨_,rfl⟩
  have h1:H Pt=some (.tbl #[] tq):=by rw [hH]; exact if_pos rfl
  have h2:H Pu=some (.tbl #[] tr):=by rw [hH]; show (if Pu=Pt then _ else _)=_; rw [if_neg hPne.symm,if_pos rfl]
  have h3:∀ b,b≠Pt->b≠Pu->H b=none:=λb z1 z2=>by rw [hH]; show (if b=Pt then _ else _)=_; rw [if_neg z1,if_neg z2]
  refine core H (λb=>?_) (.inr ⟨_,vs.toArray,_,hk,rfl,rfl,rfl,by rw [List.size_toArray,lenV]; exact hl,by simpa using rv⟩) (λb u z=>?_) h1 h2 (λb z=>?_) λz=>absurd (h3 a hne.symm hne2.symm) z
  ·by_cases hb:b=Pt
   ·rw [hb]; exact .inr (.inr ⟨_,_,h1⟩)
   ·by_cases hb2:b=Pu
    ·rw [hb2]; exact .inr (.inr ⟨_,_,h2⟩)
    ·exact .inl (h3 b hb hb2)
  ·by_cases hb:b=Pt
   ·subst hb; rw [h1] at z; cases z; exact ⟨hPt,tok⟩
   ·by_cases hb2:b=Pu
    ·subst hb2; rw [h2] at z; cases z; exact ⟨hPu,tok⟩
    ·rw [h3 b hb hb2] at z; cases z
  ·by_cases hb:b=Pt
   ·exact .inr (.inl hb)
   ·by_cases hb2:b=Pu
    ·exact .inr (.inr hb2)
    ·exact absurd (h3 b hb hb2) z
 | none =>
  obtain ⟨H,hH⟩:∃ H:Hp,H=λb=>if b=Pt then some (.tbl #[] tq) else if b=Pu then some (.tbl #[] tr) else if b=a then some (.frz { cls:=.type "list",data:=.seq vs.toArray } (.lst (ns.map V.int))) else none:=⟨_,rfl⟩
  have h1:H Pt=some (.tbl #[] tq):=by rw [hH]; exact if_pos rfl
  have h2:H Pu=some (.tbl #[] tr):=by rw [hH]; show (if Pu=Pt then _ else _)=_; rw [if_neg hPne.symm,if_pos rfl]
  have h4:H a=some (.frz { cls:=.type "list",data:=.seq vs.toArray } (.lst (ns.map V.int))):=by rw [hH]; show (if a=Pt then _ else _)=_; rw [if_neg hne.symm,if_neg hne2.symm,if_pos rfl]
  have h3:∀ b,b≠Pt->b≠Pu->b≠a->H b=none:=λb z1 z2 z3=>by rw [hH]; show (if b=Pt then _ else _)=_; rw [if_neg z1,if_neg z2,if_neg z3]
  refine core H (λb=>?_) (.inl (.inr ⟨{ cls:=.type "list",data:=.seq vs.toArray },h4⟩)) (λb u z=>?_) h1 h2 (λb z=>?_) λ_=>hk
  ·by_cases hb:b=Pt
   ·rw [hb]; exact .inr (.inr ⟨_,_,h1⟩)
   ·by_cases hb2:b=Pu
    ·rw [hb2]; exact .inr (.inr ⟨_,_,h2⟩)
    ·by_cases hb3:b=a
     ·rw [hb3]; exact .inr (.inl ⟨_,_,h4⟩)
     ·exact .inl (h3 b hb hb2 hb3)
  ·by_cases hb:b=Pt
   ·subst hb; rw [h1] at z; cases z; exact ⟨hPt,tok⟩
   ·by_cases hb2:b=Pu
    ·subst hb2; rw [h2] at z; cases z; exact ⟨hPu,tok⟩
    ·by_cases hb3:b=a
     ·subst hb3; rw [h4] at z; cases z
      exact ⟨ha,by rw [List.length_map]; exact hl,vs,_,rv,ha⟩
     ·rw [h3 b hb hb2 hb3] at z; cases z
  ·by_cases hb:b=Pt
   ·exact .inr (.inl hb)
   ·by_cases hb2:b=Pu
    ·exact .inr (.inr hb2)
    ·by_cases hb3:b=a
     ·exact .inl hb3
     ·exact absurd (h3 b hb hb2 hb3) z
theorem lV {l:PySem.W.OpenLaw} {n k:Nat} {q:Program} {loose:List Str} {XP:(Str->Option Value)->Heap->Prop} {YP:World->Heap->Prop} {d:DefRec} {K:Params->PySem.W.Frag} {sp:World->Sp} {x:Str} {c Pt c2 Pu:Addr} {tq tr:Str}
 (hn:l.most=some n) (hn2:n<=sizeLine) (hdf:d.params.defaults=[]) (hr:Room k callerA)
 (hY:∀ (w:World) (h:Heap),YP w h->(K w.params).In h/\h.get? Pt=some (tabObj #[])/\h.get? Pu=some (tabObj #[]))
 (hcd0:∀ w:World,codeHdIn (K w.params) c Pt=true) (hKP:∀ w:World,(K w.params).lookup Pt=none)
 (hcd2:∀ w:World,codeHdIn (K w.params) c2 Pu=true) (hKP2:∀ w:World,(K w.params).lookup Pu=none) (hPne:Pt≠Pu)
 (F:∀ (w:World) (mg:Str->Option Value) (fa:Addr) (h:Heap),(K w.params).In h->h.Ns mainGlobals mg->mg d.name=some (.ref fa) ->
  ∃ fd:FuncData,(∀ (s:Shared) (u:Value),BindsTo s fd ⟨[u],[]⟩ [(x,u)]) /\
   ∀ base:Heap,(K w.params).In base->base.Ns mainGlobals mg->TabB base mg c Pt tq/\TabB base mg c2 Pu tr->FnOk l.prog w (K w.params) mg base CX0 k fa fd [x] (sp w))
 (hsp:∀ (w:World) (H:Hp) (a:Addr) (ns:List Int),ns.length<=n->lw H->SqL (K w.params) H a (ns.map V.int)->sp w [.ref a] H (λv _=>v = .bl true) λ_ _ _=>False)
 (hCX:∀ (H:Hp) (s:Shared) (e:Value) (s':Shared),CX0 [] H s (λ_ _ _=>False) e s'->False) :
 PySem.W.WalkO q loose XP YP l.row.toRowW d [] (λf vs=>PySem.call f vs):=by
 refine Att.attach_call hn hdf λw s₀ s₁ mg mb fa o pm cd doc a vs ns G Y ho hd hcd hmg hobj hints hlen hg=>?_
 obtain ⟨KX,t2,u2⟩:=hY w _ Y
 obtain ⟨fd,hb,hF⟩:=F w mg fa _ KX G.T.g hmg
 have t1:=codeHd_of_K KX (hcd0 w)
 have u1:=codeHd_of_K KX (hcd2 w)
 have hblt:∀ {Pt:Addr},s₁.heap.get? Pt=some (tabObj #[])->s₁.heap.BuiltinsAt mg Pt:=λ{Pt} t2=>by
  obtain ⟨bm,ob,b1,b2,b3,b4,b5,b6⟩:=G.T.bmain
  refine ⟨bm,ob,b1,b2,λz=>?_,λz=>?_,b3,b4,b5,b6⟩
  ·obtain ⟨o,es,ep,e,hd,_⟩:=G.T.g
   rw [z,e] at b3; cases b3; rw [hd] at b6; cases b6
  ·rw [z,t2] at b3; cases b3; cases b4
 exact kr KX G.T.g G.T.b G.T.builtins G.T.nolimit hg hobj hints (Nat.le_trans hlen hn2) hr t1 t2 (hblt t2) (hKP w) u1 u2 (hblt u2) (hKP2 w) hPne hF hb (λH hO hS=>hsp w H a ns hlen hO hS) λH e s'=>hCX H s₁ e s'
end L2
namespace K59
open PySem L2
def top (i:Nat):Stmt:=PySem.Challenge.pw_treeasks_k59_flow_and_cut_by_the_rule.main.body.getD i (.Pass ⟨0,0,0,0⟩)
abbrev oN:Stmt:=top 6
abbrev s_q7:Stmt:=top 7
abbrev s_q1:Stmt:=top 11
abbrev s_q5:Stmt:=top 12
abbrev my:Stmt:=top 13
abbrev oC:Stmt:=top 14
abbrev mD:Stmt:=top 15
abbrev n6:Stmt:=top 20
abbrev s_q3:Stmt:=top 21
abbrev s_q4:Stmt:=top 23
abbrev mU:Stmt:=top 24
abbrev s_q6:Stmt:=top 25
abbrev nr:Stmt:=top 26
abbrev nJ:Stmt:=top 27
abbrev s_q8:Stmt:=top 28
abbrev s_q0:Stmt:=top 30
abbrev s_q9:Stmt:=top 32
abbrev oK:Stmt:=top 33
abbrev oG:Stmt:=top 34
abbrev oh:Stmt:=top 35
abbrev s_q2:Stmt:=top 36
abbrev nW:Stmt:=top 38
abbrev md:Stmt:=top 39
abbrev oF:Stmt:=top 40
abbrev mX:Stmt:=top 41
abbrev mZ:Stmt:=top 42
abbrev nj:Stmt:=top 43
abbrev oz:Stmt:=top 44
abbrev ph:Stmt:=top 45
abbrev mW:Stmt:=top 46
abbrev oE:Stmt:=top 47
abbrev mm:Stmt:=top 48
abbrev oe:Stmt:=top 49
abbrev nY:Stmt:=top 50
abbrev mo:Stmt:=top 51
set_option genInjectivity false in
structure Adr where
 f_q15:Addr
 d_q15:FuncData
 f_q7:Addr
 d_q7:FuncData
 f_q1:Addr
 d_q1:FuncData
 f_q5:Addr
 d_q5:FuncData
 f_q25:Addr
 d_q25:FuncData
 f_q14:Addr
 d_q14:FuncData
 f_q13:Addr
 d_q13:FuncData
 f_q26:Addr
 d_q26:FuncData
 f_q3:Addr
 d_q3:FuncData
 f_q4:Addr
 d_q4:FuncData
 f_q32:Addr
 d_q32:FuncData
 f_q6:Addr
 d_q6:FuncData
 f_q31:Addr
 d_q31:FuncData
 f_q22:Addr
 d_q22:FuncData
 f_q8:Addr
 d_q8:FuncData
 f_q0:Addr
 d_q0:FuncData
 f_q9:Addr
 d_q9:FuncData
 f_q36:Addr
 d_q36:FuncData
 f_q10:Addr
 d_q10:FuncData
 f_q21:Addr
 d_q21:FuncData
 f_q2:Addr
 d_q2:FuncData
 f_q28:Addr
 d_q28:FuncData
 f_q30:Addr
 d_q30:FuncData
 f_q16:Addr
 d_q16:FuncData
 f_q11:Addr
 d_q11:FuncData
 f_q20:Addr
 d_q20:FuncData
 f_q27:Addr
 d_q27:FuncData
 f_q37:Addr
 d_q37:FuncData
 f_q35:Addr
 d_q35:FuncData
 f_q33:Addr
 d_q33:FuncData
 f_q19:Addr
 d_q19:FuncData
 f_q17:Addr
 d_q17:FuncData
 f_q34:Addr
 d_q34:FuncData
 f_q29:Addr
 d_q29:FuncData
 f_law:Addr
 d_law:FuncData
 tc:Addr
 tP:Addr
 td:Addr
 tQ:Addr
abbrev tqS:Str:=("deepest_first" ++ ".<locals>.") ++ "<lambda>"
abbrev tqT:Str:=("_law_due" ++ ".<locals>.") ++ "<lambda>"
set_option genInjectivity false in
structure Txt (K:PySem.W.Frag) (mg:Str->Option Value) (A:Adr):Prop where
 t_q15:FT K mg "is_whole" oN ["thing"] A.f_q15 A.d_q15
 t_q7:FT K mg "is_between" s_q7 ["thing","least","most"] A.f_q7 A.d_q7
 t_q1:FT K mg "has_two_lists" s_q1 ["thing"] A.f_q1 A.d_q1
 t_q5:FT K mg "look_at_tree" s_q5 ["thing"] A.f_q5 A.d_q5
 t_q25:FT K mg "depths" my ["tree"] A.f_q25 A.d_q25
 t_q14:FT K mg "is_place" oC ["tree","thing"] A.f_q14 A.d_q14
 t_q13:FT K mg "are_ends" mD ["tree","one","other"] A.f_q13 A.d_q13
 t_q26:FT K mg "is_ask" n6 ["tree","thing"] A.f_q26 A.d_q26
 t_q3:FT K mg "look_at_asks" s_q3 ["tree","thing"] A.f_q3 A.d_q3
 t_q4:FT K mg "look_at_ends" s_q4 ["tree","one","other"] A.f_q4 A.d_q4
 t_q32:FT K mg "climb" mU ["tree","one","other"] A.f_q32 A.d_q32
 t_q6:FT K mg "way_between" s_q6 ["tree","one","other"] A.f_q6 A.d_q6
 t_q31:FT K mg "way_of" nr ["tree","ask"] A.f_q31 A.d_q31
 t_q22:FT K mg "ways_of" nJ ["tree","asks"] A.f_q22 A.d_q22
 t_q8:FT K mg "meeting_of" s_q8 ["tree","one","other"] A.f_q8 A.d_q8
 t_q0:FT K mg "deepest_first" s_q0 ["tree","asks"] A.f_q0 A.d_q0
 t_q9:FT K mg "parts_ways" s_q9 ["ways","cut"] A.f_q9 A.d_q9
 t_q36:FT K mg "serve" oK ["way","left"] A.f_q36 A.d_q36
 t_q10:FT K mg "fill_ties" oG ["tree","ways","order"] A.f_q10 A.d_q10
 t_q21:FT K mg "thinned" oh ["ways","row"] A.f_q21 A.d_q21
 t_q2:FT K mg "flow_and_cut" s_q2 ["tree","asks"] A.f_q2 A.d_q2
 t_q28:FT K mg "_law_pool" nW ["_law_script","_law_k"] A.f_q28 A.d_q28
 t_q30:FT K mg "_law_take" md ["_law_pool_here","_law_many"] A.f_q30 A.d_q30
 t_q16:FT K mg "_law_number" oF ["_law_pool_here","_law_most"] A.f_q16 A.d_q16
 t_q11:FT K mg "_law_parents" mX ["_law_pool_here","_law_most"] A.f_q11 A.d_q11
 t_q20:FT K mg "_law_rooms" mZ ["_law_pool_here","_law_many","_law_least"] A.f_q20 A.d_q20
 t_q27:FT K mg "_law_ends" nj ["_law_pool_here","_law_many"] A.f_q27 A.d_q27
 t_q37:FT K mg "_law_up" oz ["_law_parents_here","_law_place"] A.f_q37 A.d_q37
 t_q35:FT K mg "_law_way" ph ["_law_parents_here","_law_ask_here"] A.f_q35 A.d_q35
 t_q33:FT K mg "_law_ask" mW ["_law_pool_here","_law_many"] A.f_q33 A.d_q33
 t_q19:FT K mg "_law_depth" oE ["_law_parents_here","_law_ask_here"] A.f_q19 A.d_q19
 t_q17:FT K mg "_law_parted" mm ["_law_ways","_law_ties"] A.f_q17 A.d_q17
 t_q34:FT K mg "_law_due" oe ["_law_tree","_law_asks","_law_ways"] A.f_q34 A.d_q34
 t_q29:FT K mg "_law_same" nY ["_law_found","_law_due_here"] A.f_q29 A.d_q29
 t_law:FT K mg "law" mo ["_law_script"] A.f_law A.d_law
 z_all:mg "all" = none
 z_any:mg "any" = none
 z_bool:mg "bool" = none
 z_enumerate:mg "enumerate" = none
 z_int:mg "int" = none
 z_isinstance:mg "isinstance" = none
 z_len:mg "len" = none
 z_list:mg "list" = none
 z_max:mg "max" = none
 z_min:mg "min" = none
 z_range:mg "range" = none
 z_reversed:mg "reversed" = none
 z_sorted:mg "sorted" = none
 z_tuple:mg "tuple" = none
 c_MOST_TIES:∃ t,mg "MOST_TIES" = some (.int 23 t)
 c_MOST_ROOM:∃ t,mg "MOST_ROOM" = some (.int 1000000 t)
 c_MOST_ASKS:∃ t,mg "MOST_ASKS" = some (.int 30 t)
 c_MOST_SIZE:∃ t,mg "MOST_SIZE" = some (.int 1000000 t)
 c_MOST_WORTH:∃ t,mg "MOST_WORTH" = some (.int 1000000000000 t)
 hc:A.d_q0.code = .ref A.tc
 hd:A.d_q34.code = .ref A.td
theorem s8:FnScope ["thing"] ["thing"] (ai oN):=aY
theorem sc_q7:FnScope ["thing","least","most"] ["thing","least","most"] (ai s_q7):=aY
theorem sc_q1:FnScope ["thing","parents","rooms"] ["thing"] (ai s_q1):=aY
theorem sc_q5:FnScope ["thing","parents","rooms","number","parent","room"] ["thing"] (ai s_q5):=aY
theorem sQ:FnScope ["tree","found","parent"] ["tree"] (ai my):=aY
theorem rY:FnScope ["tree","thing"] ["tree","thing"] (ai oC):=aY
theorem tT:FnScope ["tree","one","other"] ["tree","one","other"] (ai mD):=aY
theorem tW:FnScope ["tree","thing","one","other","size","worth"] ["tree","thing"] (ai n6):=aY
theorem sc_q3:FnScope ["tree","thing","number","ask"] ["tree","thing"] (ai s_q3):=aY
theorem sc_q4:FnScope ["tree","one","other"] ["tree","one","other"] (ai s_q4):=aY
theorem sN:FnScope ["tree","one","other","way","low"] ["tree","one","other"] (ai mU):=aY
theorem sc_q6:FnScope ["tree","one","other","way","meeting"] ["tree","one","other"] (ai s_q6):=aY
theorem sY:FnScope ["tree","ask"] ["tree","ask"] (ai nr):=aY
theorem sH:FnScope ["tree","asks"] ["tree","asks"] (ai nJ):=aY
theorem sc_q8:FnScope ["tree","one","other","way","meeting"] ["tree","one","other"] (ai s_q8):=aY
theorem sc_q0:FnScope ["tree","asks","deep","met"] ["tree","asks"] (ai s_q0):=aY
theorem sc_q9:FnScope ["ways","cut"] ["ways","cut"] (ai s_q9):=aY
theorem rC:FnScope ["way","left","often","tie"] ["way","left"] (ai oK):=aY
theorem sr:FnScope ["tree","ways","order","left","flow","row","number"] ["tree","ways","order"] (ai oG):=aY
theorem tS:FnScope ["ways","row","cut","tie","others"] ["ways","row"] (ai oh):=aY
theorem sc_q2:FnScope ["tree","asks","ways","flow","row"] ["tree","asks"] (ai s_q2):=aY
theorem tI:FnScope ["_law_script","_law_k","_law_cell","_law_seed"] ["_law_script","_law_k"] (ai nW):=aY
theorem re:FnScope ["_law_pool_here","_law_many","_law_found"] ["_law_pool_here","_law_many"] (ai md):=aY
theorem rE:FnScope ["_law_pool_here","_law_most","_law_way_here"] ["_law_pool_here","_law_most"] (ai oF):=aY
theorem rL:FnScope ["_law_pool_here","_law_most","_law_shape","_law_parents_here","_law_place","_law_up_here"] ["_law_pool_here","_law_most"] (ai mX):=aY
theorem s9:FnScope ["_law_pool_here","_law_many","_law_least","_law_most"] ["_law_pool_here","_law_many","_law_least"] (ai mZ):=aY
theorem tN:FnScope ["_law_pool_here","_law_many","_law_one"] ["_law_pool_here","_law_many"] (ai nj):=aY
theorem tp:FnScope ["_law_parents_here","_law_place","_law_found"] ["_law_parents_here","_law_place"] (ai oz):=aY
theorem tZ:FnScope ["_law_parents_here","_law_ask_here","_law_one","_law_other","_law_found"] ["_law_parents_here","_law_ask_here"] (ai ph):=aY
theorem rJ:FnScope ["_law_pool_here","_law_many","_law_one","_law_other"] ["_law_pool_here","_law_many"] (ai mW):=aY
theorem tz:FnScope ["_law_parents_here","_law_ask_here","_law_one","_law_other"] ["_law_parents_here","_law_ask_here"] (ai oE):=aY
theorem rK:FnScope ["_law_ways","_law_ties"] ["_law_ways","_law_ties"] (ai mm):=aY
theorem sA:FnScope ["_law_tree","_law_asks","_law_ways","_law_order","_law_free","_law_flow","_law_row","_law_number_here","_law_ahead","_law_tie","_law_cut"] ["_law_tree","_law_asks","_law_ways"] (ai oe):=aY
theorem rM:FnScope ["_law_found","_law_due_here"] ["_law_found","_law_due_here"] (ai nY):=aY
theorem rA:FnScope ["_law_script","_law_parents_here","_law_tree","_law_lists","_law_k","_law_asks","_law_due_here","_law_handed","_law_found","_law_plain"] ["_law_script"] (ai mo):=aY
section
variable {P:Program} {w:World} {K:PySem.W.Frag} {mg:Str->Option Value} {base:Heap} {A:Adr}
theorem t4 (T:Txt K mg A) (hB:TabB base mg A.tc A.tP tqS/\TabB base mg A.td A.tQ tqT):FnOk P w K mg base CX0 1 A.f_q15 A.d_q15 ["thing"] (a_ [false] false (pH)):=by
 have S:=s8
 refine fnD T.t_q15.F S ⟨[false],[false],false⟩ _ ?hl rfl rfl λcdv Ar outer s H E hr=>⟨_,(ag (aM (eT (cN rfl T.z_isinstance aP (aa 0) (bW (v:=.ty "int") rfl T.z_int s_ rfl)) (gC (rP (cN rfl T.z_isinstance aP (aa 0) (bW (v:=.ty "bool") rfl T.z_bool lq rfl))))))),λds q h=>?_⟩
 case hl=>intro ds q h; obtain ⟨d,rfl,_⟩:=h; rfl
 obtain ⟨d,rfl,hs,q0⟩:=h
 cases d <;> first | exact q0 | cases hs
theorem jb (T:Txt K mg A) (hB:TabB base mg A.tc A.tP tqS/\TabB base mg A.td A.tQ tqT):FnOk P w K mg base CX0 2 A.f_q7 A.d_q7 ["thing","least","most"] (a_ [false,false,false] false (lW)):=by
 have S:=sc_q7
 refine fnD T.t_q7.F S ⟨[false,false,false],[false,false,false],false⟩ _ ?hl rfl rfl λcdv Ar outer s H E hr=>⟨_,(ag (aM (eT (ao (t4 T hB) hr T.t_q15 (aq (aa 0) am)) (gC (i7 kZ kZ dB dB (aa 1) (aa 0) (aa 2)))))),λds q h=>?_⟩
 case hl=>intro ds q h; obtain ⟨d,lo,hi,rfl,_⟩:=h; rfl
 obtain ⟨d,lo,hi,rfl,hs,q0⟩:=h
 refine ⟨d,rfl,hs,?_⟩
 cases d
 case int i =>
  refine (cq (c:=decide (lo<=i)=true) (λc=>?_) (λc=>?_))
  ·have:btw lo hi (.int i)=decide (i<=hi):=by show (decide (lo<=i)&&decide (i<=hi))=_; rw [c,Bool.true_and]
   rw [this] at q0; exact q0
  ·have:btw lo hi (.int i)=false:=by show (decide (lo<=i)&&decide (i<=hi))=_; rw [Bool.eq_false_iff.mpr c,Bool.false_and]
   rw [this] at q0; exact q0
 all_goals first | exact q0 | cases hs
theorem ok_q1 (T:Txt K mg A) (hB:TabB base mg A.tc A.tP tqS/\TabB base mg A.td A.tQ tqT):FnOk P w K mg base CX0 1 A.f_q1 A.d_q1 ["thing"] (a_ [false] false (r6)):=by
 have S:=sc_q1
 refine fnD T.t_q1.F S ⟨[false],[false,false,false],false⟩ _ ?hl rfl rfl λcdv Ar outer s H E hr=>⟨_,(ac (bx (QW.qt (fU (bz (bg (cN rfl T.z_isinstance aP (aa 0) (bW (v:=.ty "tuple") rfl T.z_tuple gv rfl)))) (eS (a4 (cV hr.units) dNe (aD aA dG rfl T.z_len bw (af (aa 0) aj)) ad (a5 _))))) (ag (aM dX)) aQ)
  (ac (gL (aa 0) (dH rfl (aX (aK (i:=1) S.nd rfl (Or.inl rfl)) (aX (aK (i:=2) S.nd rfl (Or.inl rfl)) cQ)) (au (au bh))))
  (ac (bx (QW.qt (fU (bz (bg (cN rfl T.z_isinstance aP (aa 1) (bW (v:=.ty "list") rfl T.z_list bE rfl)))) (eS (bz (bg (cN rfl T.z_isinstance aP (aa 2) (bW (v:=.ty "list") rfl T.z_list bE rfl))))))) (ag (aM dX)) aQ)
  (ag (aM (eT (gA (eN hr.units) dEq (aD aA dG rfl T.z_len bw (af (aa 1) aj)) (aD aA dG rfl T.z_len bw (af (aa 2) aj)) (a5 _)) (gC (i7 kZ kZ dB dB ad (aD aA dG rfl T.z_len bw (af (aa 1) aj)) (dU (i:=23) rfl T.c_MOST_TIES))))))))),λds q h=>?_⟩
 case hl=>intro ds q h; obtain ⟨ps,rs,rfl,_⟩:=h; rfl
 obtain ⟨ps,rs,rfl,hT,q0⟩:=h
 have l1:((ps.map D.int).length:Int)=ps.length:=by rw [List.length_map]
 have l2:((rs.map D.int).length:Int)=rs.length:=by rw [List.length_map]
 have h1:=hT.len
 have h2:=hT.lo
 have h3:=hT.hi
 refine (cq (c:=decide (((ps.map D.int).length:Int)=((rs.map D.int).length:Int))=true) (λc=>?_) (λc=>?_))
 ·refine (cq (c:=decide ((1:Int)<=((ps.map D.int).length:Int))=true) (λc=>?_) (λc=>?_))
  ·show q (.bl (decide (((ps.map D.int).length:Int)<=23))) []
   rw [decide_eq_true (by omega)]; exact q0
  ·exact absurd (decide_eq_true (by omega)) c
 ·exact absurd (decide_eq_true (by omega)) c
theorem ot (T:Txt K mg A) (hB:TabB base mg A.tc A.tP tqS/\TabB base mg A.td A.tQ tqT):FnOk P w K mg base CX0 3 A.f_q5 A.d_q5 ["thing"] (a_ [false] false (sw)):=by
 have S:=sc_q5
 refine fnD T.t_q5.F S ⟨[false],[false,false,false,false,false,false],false⟩ _ ?hl rfl rfl λcdv Ar outer s H E hr=>⟨_,(ac (bx (bz (bg (ao (ok_q1 T hB) hr T.t_q1 (aq (aa 0) am)))) (ag c_) aQ)
  (ac (gL (aa 0) (dH rfl (aX (aK (i:=1) S.nd rfl (Or.inl rfl)) (aX (aK (i:=2) S.nd rfl (Or.inl rfl)) cQ)) (au (au bh))))
  (ac (cn PassesOwn.never rfl (iQ rfl T.z_enumerate (af (aa 1) aj)) (dH rfl (aX (aK (i:=3) S.nd rfl (Or.inl rfl)) (aX (aK (i:=4) S.nd rfl (Or.inl rfl)) cQ)) (au (au bh))) (ag (bx (bz (bg (ao (jb T hB) hr T.t_q7 (aq (aa 4) (aq ad (aq (aa 3) am)))))) (ag c_) aQ)))
  (ag (cn PassesOwn.never rfl (iQ rfl T.z_enumerate (af (aa 2) aj)) (dH rfl (aX (aK (i:=3) S.nd rfl (Or.inl rfl)) (aX (aK (i:=5) S.nd rfl (Or.inl rfl)) cQ)) (au (au bh))) (ag (bx (bz (bg (ao (jb T hB) hr T.t_q7 (aq (aa 5) (aq ad (aq (dU (i:=1000000) rfl T.c_MOST_ROOM) am)))))) (ag c_) aQ))))))),λds q h=>?_⟩
 case hl=>intro ds q h; obtain ⟨ps,rs,rfl,_⟩:=h; rfl
 obtain ⟨ps,rs,rfl,hT,q0⟩:=h
 refine ⟨ps,rs,rfl,hT,?_⟩
 refine ⟨λ_ ρ=>∃ v1 v2 v3,ρ=[some (aL ps rs),some (ae ps),some (ae rs),v1,v2,v3],⟨_,_,_,rfl⟩,?_,?_⟩
 ·rintro i d ρ hd ⟨v1,v2,v3,rfl⟩
  obtain ⟨d',h1,rfl⟩:=gc hd
  obtain ⟨z,hz,rfl⟩:=di h1
  have hb:=hT.par i z hz
  refine ⟨.int z,0,(i:Int),rfl,rfl,?_⟩
  rw [eD hb.1 hb.2]
  exact ⟨_,_,_,rfl⟩
 ·rintro ρ ⟨v1,v2,v3,rfl⟩
  refine ⟨λ_ ρ=>∃ v1 v2 v3,ρ=[some (aL ps rs),some (ae ps),some (ae rs),v1,v2,v3],⟨_,_,_,rfl⟩,?_,?_⟩
  ·rintro i d ρ hd ⟨v1,v2,v3,rfl⟩
   obtain ⟨d',h1,rfl⟩:=gc hd
   obtain ⟨z,hz,rfl⟩:=di h1
   have hb:=hT.room i z hz
   refine ⟨.int z,1,1000000,rfl,rfl,?_⟩
   rw [eD hb.1 hb.2]
   exact ⟨_,_,_,rfl⟩
  ·rintro ρ ⟨v1,v2,v3,rfl⟩
   exact q0
theorem t3 (T:Txt K mg A) (hB:TabB base mg A.tc A.tP tqS/\TabB base mg A.td A.tQ tqT):FnOk P w K mg base CX0 4 A.f_q25 A.d_q25 ["tree"] (a_ [false] true (oR)):=by
 have S:=sQ
 refine fnD T.t_q25.F S ⟨[false],[false,true,false],true⟩ _ ?hl rfl rfl λcdv Ar outer s H E hr=>⟨_,(ac (eA (ao (ot T hB) hr T.t_q5 (aq (aa 0) am)))
  (ac (bR (i:=1) S.nd rfl (Or.inl rfl) (dO (af ad aj)))
  (ac (cn PassesOwn.never rfl (aR (aF aw dIx (aa 0) ad (λ_ _=>rfl))) (aK (i:=2) S.nd rfl (Or.inl rfl)) (ag (eB (i:=1) rfl (QF.bor [1] (QE.qf (aE bJ dI (aF aw dIx (aa 1) (aa 2) (λ_ _=>rfl)) ad))))))
  (ag (bD (cO 1)))))),λds q h=>?_⟩
 case hl=>intro ds q h; obtain ⟨ps,rs,rfl,_⟩:=h; rfl
 obtain ⟨ps,rs,rfl,hT,q0⟩:=h
 have hi:=hT.hi
 refine ⟨ps,rs,rfl,hT,?_⟩
 refine ⟨rfl,?_⟩
 refine ⟨λi ρ=>∃ (e:List Int) (v:Option D),ρ=[some (aL ps rs),some (ae e),v]/\DepOk ps e i,⟨[0],_,rfl,dep0 ps⟩,?_,?_⟩
 ·rintro i d ρ hd ⟨e,v,rfl,he⟩
  obtain ⟨z,hz,rfl⟩:=di hd
  have hb:=hT.par i z hz
  have hl:=he.len
  have hil:i<ps.length:=(List.getElem?_eq_some_iff.mp hz).1
  refine ba (bu hb.1 (by omega)) ?_
  refine ⟨rfl,by rw [ar]; omega,?_⟩
  refine ⟨_,some (.int z),?_,jC hT hz he⟩
  rw [<- fE]; rfl
 ·rintro ρ ⟨e,v,rfl,he⟩
  rw [ar] at he
  exact q0 e he
theorem nT (T:Txt K mg A) (hB:TabB base mg A.tc A.tP tqS/\TabB base mg A.td A.tQ tqT):FnOk P w K mg base CX0 3 A.f_q14 A.d_q14 ["tree","thing"] (a_ [false,false] false (pz)):=by
 have S:=rY
 refine fnD T.t_q14.F S ⟨[false,false],[false,false],false⟩ _ ?hl rfl rfl λcdv Ar outer s H E hr=>⟨_,(ag (aM (ao (jb T hB) hr T.t_q7 (aq (aa 1) (aq ad (aq (aD aA dG rfl T.z_len bw (af (aF aw dIx (aa 0) ad (λ_ _=>rfl)) aj)) am)))))),λds q h=>?_⟩
 case hl=>intro ds q h; obtain ⟨ps,rs,d,rfl,_⟩:=h; rfl
 obtain ⟨ps,rs,d,rfl,hs,q0⟩:=h
 refine ⟨d,0,((ps.map D.int).length:Int),rfl,hs,?_⟩
 rw [List.length_map]; exact q0
theorem mP (T:Txt K mg A) (hB:TabB base mg A.tc A.tP tqS/\TabB base mg A.td A.tQ tqT):FnOk P w K mg base CX0 4 A.f_q13 A.d_q13 ["tree","one","other"] (a_ [false,false,false] false (rl)):=by
 have S:=tT
 refine fnD T.t_q13.F S ⟨[false,false,false],[false,false,false],false⟩ _ ?hl rfl rfl λcdv Ar outer s H E hr=>⟨_,(ag (aM (eT (ao (nT T hB) hr T.t_q14 (aq (aa 0) (aq (aa 1) am))) (eT (ao (nT T hB) hr T.t_q14 (aq (aa 0) (aq (aa 2) am))) (gC (gA (cV hr.units) dNe (aa 1) (aa 2) (a5 _))))))),λds q h=>?_⟩
 case hl=>intro ds q h; obtain ⟨ps,rs,a,b,rfl,_⟩:=h; rfl
 obtain ⟨ps,rs,a,b,rfl,he,q0⟩:=h
 refine ⟨ps,rs,.int a,rfl,rfl,?_⟩
 rw [eD he.a0 he.a1]
 refine ⟨ps,rs,.int b,rfl,rfl,?_⟩
 rw [eD he.b0 he.b1]
 have:(!decide (a=b))=true:=by simp [he.ne]
 show q (.bl (!decide (a=b))) []
 rw [this]; exact q0
theorem q8 (T:Txt K mg A) (hB:TabB base mg A.tc A.tP tqS/\TabB base mg A.td A.tQ tqT):FnOk P w K mg base CX0 5 A.f_q4 A.d_q4 ["tree","one","other"] (a_ [false,false,false] false (jP)):=by
 have S:=sc_q4
 refine fnD T.t_q4.F S ⟨[false,false,false],[false,false,false],false⟩ _ ?hl rfl rfl λcdv Ar outer s H E hr=>⟨_,(ac (eA (ao (ot T hB) hr T.t_q5 (aq (aa 0) am)))
  (ag (bx (bz (bg (ao (mP T hB) hr T.t_q13 (aq (aa 0) (aq (aa 1) (aq (aa 2) am)))))) (ag c_) aQ))),λds q h=>?_⟩
 case hl=>intro ds q h; obtain ⟨ps,rs,a,b,rfl,_⟩:=h; rfl
 obtain ⟨ps,rs,a,b,rfl,hT,he,q0⟩:=h
 refine ⟨ps,rs,rfl,hT,?_⟩
 exact ⟨ps,rs,a,b,rfl,he,q0⟩
theorem mw (T:Txt K mg A) (hB:TabB base mg A.tc A.tP tqS/\TabB base mg A.td A.tQ tqT):FnOk P w K mg base CX0 1 A.f_q32 A.d_q32 ["tree","one","other"] (a_ [false,false,false] true (qh)):=by
 have S:=sN
 refine fnD T.t_q32.F S ⟨[false,false,false],[false,false,false,true,false],true⟩ _ ?hl rfl rfl λcdv Ar outer s H E hr=>⟨_,(ac (bR (i:=3) S.nd rfl (Or.inl rfl) (dO aj))
  (ac (jq PassesOwn.never (a4 (cV hr.units) dNe (aa 1) (aa 2) (a5 _)) (ac (aS (i:=4) S.nd rfl (Or.inl rfl) (aD (ig rfl) dMax rfl T.z_max oZ (af (aa 1) (af (aa 2) aj))))
  (ac (eB (i:=3) rfl (QE.qf (aa 4)))
  (ag (rf (i:=1) (j:=2) rfl S.nd rfl rfl (by decide) rfl rfl (aD (c8 rfl) mR rfl T.z_min eO (af (aa 1) (af (aa 2) aj))) (aF aw dIx (aF aw dIx (aa 0) ad (λ_ _=>rfl)) (aE bH dI (aa 4) ad) (λ_ _=>rfl)) rfl)))))
  (ag (bD (gz (be (QF.qm (QF.bor [3] (e8 cy iT rfl T.z_sorted cD (af (aa 3) aj)))) (be (QF.qm (QE.qf (aa 1))) dn))))))),λds q h=>?_⟩
 case hl=>intro ds q h; obtain ⟨ps,rs,a,b,rfl,_⟩:=h; rfl
 obtain ⟨ps,rs,a,b,rfl,hT,a0,a1,b0,b1,q0⟩:=h
 refine ⟨rfl,?_⟩
 refine ⟨λk ρ=>∃ a' b' acc v,ρ=[some (aL ps rs),some (.int a'),some (.int b'),some (ae acc),v]/\0<=a'/\a'<=ps.length/\0<=b'/\b'<=ps.length/\k=(a' + b').toNat/\acc.length + (a' + b').toNat<=46/\(∀ w m,Climb ps a' b' w m->Climb ps a b (acc++w) m),⟨_,a,b,[],_,rfl,a0,a1,b0,b1,rfl,by have:=hT.hi; simp; omega,λw m h=>h⟩,?_⟩
 rintro k ρ ⟨a',b',acc,v,rfl,a0',a1',b0',b1',rfl,hl,hc⟩
 have hi:=hT.hi
 refine (cq (c:=(!decide (a'=b'))=true) (λc=>?_) (λc=>?_))
 ·have hne:a'≠b':=by simpa using c
  have key:∀ (low hig:Int),low=(if b' > a' then b' else a')->hig=(if b'<a' then b' else a')->0<low/\low<=ps.length/\0<=hig/\hig<=ps.length/\low + hig=a' + b'/\(∀ w m,Climb ps hig (cU ps low) w m->Climb ps a' b' (low :: w) m):=by
   intro low hig e1 e2
   by_cases hlt:b'<a'
   ·rw [if_neg (by omega)] at e1; rw [if_pos hlt] at e2; subst e1; subst e2
    exact ⟨by omega,a1',b0',b1',by omega,λw m h=>.left hlt h⟩
   ·rw [if_pos (by omega)] at e1; rw [if_neg hlt] at e2; subst e1; subst e2
    exact ⟨by omega,b1',a0',a1',by omega,λw m h=>.right (by omega) h⟩
  obtain ⟨L,hL⟩:∃ L,L=(if b' > a' then b' else a'):=⟨_,rfl⟩
  obtain ⟨J,hJ⟩:∃ J,J=(if b'<a' then b' else a'):=⟨_,rfl⟩
  obtain ⟨k1,k2,k3,k4,k5,k6⟩:=key L J hL hJ
  have hp:=hT.up k1 k2
  refine ⟨rfl,?_⟩
  refine ⟨by show (acc.map D.int).length<1000; rw [List.length_map]; omega,?_⟩
  refine ba (bu (by rw [<- hL]; omega) (by rw [<- hL]; omega)) ?_
  refine ⟨(J + cU ps L).toNat,by omega,J,cU ps L,acc++[L],some (.int L),?_,k3,k4,hp.1,by omega,rfl,by rw [List.length_append]; show acc.length + 1 + _<=46; omega,λw m h=>by rw [List.append_assoc]; exact hc _ _ (k6 _ _ h)⟩
  show [some (aL ps rs),some (.int (if b'<a' then b' else a')),some (.int (cU ps (if b' > a' then b' else a'))),some (D.lst (acc.map D.int++[D.int (if b' > a' then b' else a')])),some (.int (if b' > a' then b' else a'))]=_
  rw [<- hL,<- hJ,ae,List.map_append]; rfl
 ·have:a'=b':=by simpa using c
  subst this
  have hw:=hc [] a' (.same a')
  rw [List.append_nil] at hw
  have hln:=hw.len hT a0 b0 a1 b1
  refine ⟨acc,rfl,by omega,aI _,rfl,?_⟩
  exact q0 acc a' hw
theorem ok_q6 (T:Txt K mg A) (hB:TabB base mg A.tc A.tP tqS/\TabB base mg A.td A.tQ tqT):FnOk P w K mg base CX0 6 A.f_q6 A.d_q6 ["tree","one","other"] (a_ [false,false,false] true (sdWay)):=by
 have S:=sc_q6
 refine fnD T.t_q6.F S ⟨[false,false,false],[false,false,false,true,false],true⟩ _ ?hl rfl rfl λcdv Ar outer s H E hr=>⟨_,(ac (eA (ao (q8 T hB) hr T.t_q4 (aq (aa 0) (aq (aa 1) (aq (aa 2) am)))))
  (ac (kG rfl (QF.qm (aJ (mw T hB) hr T.t_q32 (aq (aa 0) (aq (aa 1) (aq (aa 2) am))))) (lh (i:=3) S.nd rfl (Or.inl rfl) (oS (i:=4) S.nd rfl (Or.inl rfl) kJ)) (au (au bh)))
  (ag (bD (cO 3))))),λds q h=>?_⟩
 case hl=>intro ds q h; obtain ⟨ps,rs,a,b,rfl,_⟩:=h; rfl
 obtain ⟨ps,rs,a,b,rfl,hT,he,q0⟩:=h
 refine ⟨ps,rs,a,b,rfl,hT,he,?_⟩
 refine ⟨ps,rs,a,b,rfl,hT,he.a0,he.a1,he.b0,he.b1,λw m hw=>?_⟩
 exact q0 w m hw
theorem ok_q8 (T:Txt K mg A) (hB:TabB base mg A.tc A.tP tqS/\TabB base mg A.td A.tQ tqT):FnOk P w K mg base CX0 6 A.f_q8 A.d_q8 ["tree","one","other"] (a_ [false,false,false] false (tj)):=by
 have S:=sc_q8
 refine fnD T.t_q8.F S ⟨[false,false,false],[false,false,false,false,false],false⟩ _ ?hl rfl rfl λcdv Ar outer s H E hr=>⟨_,(ac (eA (ao (q8 T hB) hr T.t_q4 (aq (aa 0) (aq (aa 1) (aq (aa 2) am)))))
  (ac (gL (QF.qe (aJ (mw T hB) hr T.t_q32 (aq (aa 0) (aq (aa 1) (aq (aa 2) am))))) (dH rfl (aX (aK (i:=3) S.nd rfl (Or.inl rfl)) (aX (aK (i:=4) S.nd rfl (Or.inl rfl)) cQ)) (au (au bh))))
  (ag (aM (aa 4))))),λds q h=>?_⟩
 case hl=>intro ds q h; obtain ⟨ps,rs,a,b,rfl,_⟩:=h; rfl
 obtain ⟨ps,rs,a,b,rfl,hT,he,q0⟩:=h
 refine ⟨ps,rs,a,b,rfl,hT,he,?_⟩
 refine ⟨ps,rs,a,b,rfl,hT,he.a0,he.a1,he.b0,he.b1,λw m hw=>?_⟩
 exact q0 w m hw
theorem tF (T:Txt K mg A) (hB:TabB base mg A.tc A.tP tqS/\TabB base mg A.td A.tQ tqT):FnOk P w K mg base CX0 7 A.f_q31 A.d_q31 ["tree","ask"] (a_ [false,false] true (qy)):=by
 have S:=sY
 refine fnD T.t_q31.F S ⟨[false,false],[false,false],true⟩ _ ?hl rfl rfl λcdv Ar outer s H E hr=>⟨_,(ag (bD (QF.qm (aJ (ok_q6 T hB) hr T.t_q6 (aq (aa 0) (aq (aF aw dIx (aa 1) ad (λ_ _=>rfl)) (aq (aF aw dIx (aa 1) ad (λ_ _=>rfl)) am))))))),λds q h=>?_⟩
 case hl=>intro ds q h; obtain ⟨ps,rs,a,rfl,_⟩:=h; rfl
 obtain ⟨ps,rs,a,rfl,hT,he,q0⟩:=h
 refine ⟨ps,rs,a.one,a.other,rfl,hT,he,λw m hw=>?_⟩
 rw [(hw.way hT he.a0 he.b0 he.a1 he.b1).1]
 exact q0
theorem sj (T:Txt K mg A) (hB:TabB base mg A.tc A.tP tqS/\TabB base mg A.td A.tQ tqT):FnOk P w K mg base CX0 5 A.f_q26 A.d_q26 ["tree","thing"] (a_ [false,false] false (qu)):=by
 have S:=tW
 refine fnD T.t_q26.F S ⟨[false,false],[false,false,false,false,false,false],false⟩ _ ?hl rfl rfl λcdv Ar outer s H E hr=>⟨_,(ac (bx (QW.qt (fU (bz (bg (cN rfl T.z_isinstance aP (aa 1) (bW (v:=.ty "tuple") rfl T.z_tuple gv rfl)))) (eS (a4 (cV hr.units) dNe (aD aA dG rfl T.z_len bw (af (aa 1) aj)) ad (a5 _))))) (ag (aM dX)) aQ)
  (ac (gL (aa 1) (dH rfl (aX (aK (i:=2) S.nd rfl (Or.inl rfl)) (aX (aK (i:=3) S.nd rfl (Or.inl rfl)) (aX (aK (i:=4) S.nd rfl (Or.inl rfl)) (aX (aK (i:=5) S.nd rfl (Or.inl rfl)) cQ)))) (au (au (au (au bh))))))
  (ag (aM (eT (ao (mP T hB) hr T.t_q13 (aq (aa 0) (aq (aa 2) (aq (aa 3) am)))) (eT (ao (jb T hB) hr T.t_q7 (aq (aa 4) (aq ad (aq (dU (i:=1000000) rfl T.c_MOST_SIZE) am)))) (gC (ao (jb T hB) hr T.t_q7 (aq (aa 5) (aq ad (aq (dU (i:=1000000000000) rfl T.c_MOST_WORTH) am))))))))))),λds q h=>?_⟩
 case hl=>intro ds q h; obtain ⟨ps,rs,a,rfl,_⟩:=h; rfl
 obtain ⟨ps,rs,a,rfl,ha,q0⟩:=h
 refine ⟨ps,rs,a.one,a.other,rfl,ha.ends,?_⟩
 refine ⟨.int a.size,1,1000000,rfl,rfl,?_⟩
 rw [eD ha.s0 ha.s1]
 refine ⟨.int a.worth,1,1000000000000,rfl,rfl,?_⟩
 rw [eD ha.w0 ha.w1]
 exact q0
theorem ok_q3 (T:Txt K mg A) (hB:TabB base mg A.tc A.tP tqS/\TabB base mg A.td A.tQ tqT):FnOk P w K mg base CX0 6 A.f_q3 A.d_q3 ["tree","thing"] (a_ [false,false] false (jW)):=by
 have S:=sc_q3
 refine fnD T.t_q3.F S ⟨[false,false],[false,false,false,false],false⟩ _ ?hl rfl rfl λcdv Ar outer s H E hr=>⟨_,(ac (eA (ao (ot T hB) hr T.t_q5 (aq (aa 0) am)))
  (ac (bx (QW.qt (fU (bz (bg (cN rfl T.z_isinstance aP (aa 1) (bW (v:=.ty "list") rfl T.z_list bE rfl)))) (eS (a4 k8 dB (aD aA dG rfl T.z_len bw (af (aa 1) aj)) (dU (i:=30) rfl T.c_MOST_ASKS) (a5 _))))) (ag c_) aQ)
  (ag (cn PassesOwn.never rfl (iQ rfl T.z_enumerate (af (aa 1) aj)) (dH rfl (aX (aK (i:=2) S.nd rfl (Or.inl rfl)) (aX (aK (i:=3) S.nd rfl (Or.inl rfl)) cQ)) (au (au bh))) (ag (bx (bz (bg (ao (sj T hB) hr T.t_q26 (aq (aa 0) (aq (aa 3) am))))) (ag c_) aQ)))))),λds q h=>?_⟩
 case hl=>intro ds q h; obtain ⟨ps,rs,as,rfl,_⟩:=h; rfl
 obtain ⟨ps,rs,as,rfl,hT,ha,q0⟩:=h
 refine ⟨ps,rs,rfl,hT,?_⟩
 refine (cq (c:=decide ((30:Int)<((as.map dg).length:Int))=true) (λc=>?_) (λc=>?_))
 ·have:=ha.len; rw [a6] at c; simp at c; omega
 refine ⟨λ_ ρ=>∃ v1 v2,ρ=[some (aL ps rs),some (a8 as),v1,v2],⟨_,_,rfl⟩,?_,?_⟩
 ·rintro i d ρ hd ⟨v1,v2,rfl⟩
  obtain ⟨d',h1,rfl⟩:=gc hd
  obtain ⟨z,hz,rfl⟩:=pG h1
  refine ⟨ps,rs,z,rfl,ha.ok z (List.mem_of_getElem? hz),?_⟩
  exact ⟨_,_,rfl⟩
 ·rintro ρ ⟨v1,v2,rfl⟩
  exact q0
end
end K59
namespace K59
open PySem L2
section
variable {P:Program} {w:World} {K:PySem.W.Frag} {mg:Str->Option Value} {base:Heap} {A:Adr}
theorem ok_q0 (T:Txt K mg A) (hB:TabB base mg A.tc A.tP tqS/\TabB base mg A.td A.tQ tqT):FnOk P w K mg base CX0 7 A.f_q0 A.d_q0 ["tree","asks"] (a_ [false,false] false (rz)):=by
 have S:=sc_q0
 refine fnDc T.t_q0.F T.hc S ⟨[false,false],[false,false,false,false],false⟩ _ ?hl rfl rfl λAr outer s H E hr=>⟨_,(ac (aS (i:=2) S.nd rfl (Or.inr rfl) (QF.qe (aJ (t3 T hB) hr T.t_q25 (aq (aa 0) am))))
  (ac (aS (i:=3) S.nd rfl (Or.inr rfl) (br ["ask"] [2,0] ⟨rfl,rfl,by decide +kernel,rfl,rfl,(by first | exact trivial | exact ⟨rfl,trivial⟩ | exact ⟨rfl,rfl,trivial⟩ | exact ⟨rfl,rfl,rfl,trivial⟩ | exact ⟨rfl,rfl,rfl,rfl,trivial⟩),rfl⟩ rfl (aR (aa 1)) (aV 0) (λ_ _ _ _=>⟨(aO (i:=0) (show List.Nodup (["ask","deep","tree"]:List Str) by decide +kernel) rfl (Or.inl rfl)),cb,(aF aw dIx (aa 1) (ao (ok_q8 T hB) hr T.t_q8 (aq (aa 2) (aq (aF aw dIx (aa 0) ad (λ_ _=>rfl)) (aq (aF aw dIx (aa 0) ad (λ_ _=>rfl)) am)))) (λ_ _=>rfl))⟩)))
  (ag (aM (ng (j:=3) hr rfl T.z_sorted rfl T.z_range (aD aA dG rfl T.z_len bw (af (aa 1) aj)) rfl rfl rfl hB.1))))),λds q h=>?_⟩
 case hl=>intro ds q h; obtain ⟨ps,rs,as,rfl,_⟩:=h; rfl
 obtain ⟨ps,rs,as,rfl,hT,ha,q0⟩:=h
 have hal:=ha.len
 refine ⟨ps,rs,rfl,hT,λe he=>?_⟩
 have hel:=he.len
 refine ⟨by rw [a6]; omega,?_⟩
 refine bB (metF ps e) ?_ ?_
 ·intro d hd k hk
  obtain ⟨a,hm,rfl⟩:=List.mem_map.mp hd
  have hok:=(ha.ok a hm).ends
  refine ⟨ps,rs,a.one,a.other,rfl,hT,hok,λw m hw=>?_⟩
  have hmm:=hw.way hT hok.a0 hok.b0 hok.a1 hok.b1
  have hb:=hw.low hT hok.a0 hok.b0 hok.a1 hok.b1
  have ha1:=hok.a1
  refine ba (bu (by omega) (by omega)) ?_
  rw [hmm.2]
  exact hk
 ·rw [oq]
  refine ⟨by rw [a6]; omega,by rw [a6]; omega,cx ps e as,rfl,by rw [a6]; unfold cx; rw [List.length_map]; omega,λo ho=>?_⟩
  rw [a6] at ho
  exact q0 o ⟨e,he,ho⟩
theorem rj (T:Txt K mg A) (hB:TabB base mg A.tc A.tP tqS/\TabB base mg A.td A.tQ tqT):FnOk P w K mg base CX0 8 A.f_q22 A.d_q22 ["tree","asks"] (a_ [false,false] false (n4)):=by
 have S:=sH
 refine fnD T.t_q22.F S ⟨[false,false],[false,false],false⟩ _ ?hl rfl rfl λcdv Ar outer s H E hr=>⟨_,(ag (aM (br ["ask"] [0] ⟨rfl,rfl,by decide +kernel,rfl,rfl,(by first | exact trivial | exact ⟨rfl,trivial⟩ | exact ⟨rfl,rfl,trivial⟩ | exact ⟨rfl,rfl,rfl,trivial⟩ | exact ⟨rfl,rfl,rfl,rfl,trivial⟩),rfl⟩ rfl (aR (aa 1)) (aV 0) (λ_ _ _ _=>⟨(aO (i:=0) (show List.Nodup (["ask","tree"]:List Str) by decide +kernel) rfl (Or.inl rfl)),cb,(QF.qe (aJ (tF T hB) hr T.t_q31 (aq (aa 1) (aq (aa 0) am))))⟩)))),λds q h=>?_⟩
 case hl=>intro ds q h; obtain ⟨ps,rs,as,rfl,_⟩:=h; rfl
 obtain ⟨ps,rs,as,rfl,hT,ha,q0⟩:=h
 have hal:=ha.len
 refine ⟨by rw [a6]; omega,?_⟩
 refine bB (wayF ps) ?_ ?_
 ·intro d hd k hk
  obtain ⟨a,hm,rfl⟩:=List.mem_map.mp hd
  refine ⟨ps,rs,a,rfl,hT,(ha.ok a hm).ends,?_⟩
  exact hk
 ·rw [gu]
  exact q0
end
end K59
namespace K59
open PySem L2
section
variable {P:Program} {w:World} {K:PySem.W.Frag} {mg:Str->Option Value} {base:Heap} {A:Adr}
def tieF (cu:List Int):D->D
 | .int t=>.bl (cu.contains t)
 | d=>d
theorem mY (cu w:List Int):(w.map D.int).map (tieF cu)=(w.map λt=>cu.contains t).map D.bl:=by rw [List.map_map,List.map_map]; rfl
def anyF (cu:List Int):D->D
 | .lst ds=>.bl (ds.any λd=>match d with | .int t=>cu.contains t | _=>false)
 | d=>d
theorem kC (cu w:List Int):anyF cu (ae w) = .bl (w.any λt=>cu.contains t):=by
 show D.bl ((w.map D.int).any _)=_
 rw [List.any_map]; rfl
theorem i5 (cu:List Int):∀ ws:List (List Int),(ws.map ae).map (anyF cu)=(ws.map λw=>w.any λt=>cu.contains t).map D.bl
 | []=>rfl
 | w :: ws=>by rw [List.map_cons,List.map_cons,i5 cu ws,kC]; rfl
def lu:SpD:=λds q=>∃ ws cu,ds=[eK ws,ae cu]/\ws.length<=1000/\(∀ w∈ws,w.length<=1000)/\q (.bl (dj ws cu)) []
theorem ok_q9 (T:Txt K mg A) (hB:TabB base mg A.tc A.tP tqS/\TabB base mg A.td A.tQ tqT):FnOk P w K mg base CX0 1 A.f_q9 A.d_q9 ["ways","cut"] (a_ [false,false] false (lu)):=by
 have S:=sc_q9
 refine fnD T.t_q9.F S ⟨[false,false],[false,false],false⟩ _ ?hl rfl rfl λcdv Ar outer s H E hr=>⟨_,(ag (aM (aD (lI rfl) dAll rfl T.z_all rF (af (br ["way"] [1] ⟨rfl,rfl,by decide +kernel,rfl,rfl,(by first | exact trivial | exact ⟨rfl,trivial⟩ | exact ⟨rfl,rfl,trivial⟩ | exact ⟨rfl,rfl,rfl,trivial⟩ | exact ⟨rfl,rfl,rfl,rfl,trivial⟩),rfl⟩ rfl (aR (aa 0)) (aV 0) (λ_ _ _ _=>⟨(aO (i:=0) (show List.Nodup (["way","cut"]:List Str) by decide +kernel) rfl (Or.inl rfl)),cb,(aD (lN rfl) dAny rfl T.z_any rc (af (br ["tie"] [1] ⟨rfl,rfl,by decide +kernel,rfl,rfl,(by first | exact trivial | exact ⟨rfl,trivial⟩ | exact ⟨rfl,rfl,trivial⟩ | exact ⟨rfl,rfl,rfl,trivial⟩ | exact ⟨rfl,rfl,rfl,rfl,trivial⟩),rfl⟩ rfl (aR (aa 0)) (aV 0) (λ_ _ _ _=>⟨(aO (i:=0) (show List.Nodup (["tie","cut"]:List Str) by decide +kernel) rfl (Or.inl rfl)),cb,(gA fR dIn (aa 0) (aa 1) rfl)⟩)) aj))⟩)) aj)))),λds q h=>?_⟩
 case hl=>intro ds q h; obtain ⟨ws,cu,rfl,_⟩:=h; rfl
 obtain ⟨ws,cu,rfl,hl,hw,q0⟩:=h
 refine ⟨by rw [List.length_map]; exact hl,?_⟩
 refine bB (anyF cu) ?_ ?_
 ·intro d hd k hk
  obtain ⟨w,hm,rfl⟩:=List.mem_map.mp hd
  refine ⟨by rw [ar]; exact hw w hm,?_⟩
  refine bB (tieF cu) ?_ ?_
  ·intro d hd k hk
   obtain ⟨t,ht,rfl⟩:=bv hd
   refine ⟨rfl,cB cu,?_⟩
   show k (.bl (inD (.int t) (cu.map D.int)))
   rw [dc]; exact hk
  rw [mY]
  refine ⟨_,rfl,?_⟩
  rw [kC] at hk
  rw [show ((w.map λt=>cu.contains t).any id)=w.any λt=>cu.contains t by rw [List.any_map]; rfl]
  exact hk
 rw [i5]
 refine ⟨_,rfl,?_⟩
 rw [show ((ws.map λw=>w.any λt=>cu.contains t).all id)=dj ws cu by rw [List.all_map]; rfl]
 exact q0
theorem k9 {ps rs:List Int} {as:List Ask} (hT:Tree ps rs) (ha:AsksOk ps as):(aU ps as).length<=1000/\∀ w∈aU ps as,w.length<=1000:=by
 have:=ha.len
 refine ⟨by unfold aU; rw [List.length_map]; omega,λw hw=>?_⟩
 obtain ⟨a,hm,rfl⟩:=List.mem_map.mp hw
 exact Nat.le_trans (fN hT (ha.ok a hm).ends) (by decide)
def oo (l:List Int):D->D
 | .int t=>.int (l.getD (t - 1).toNat 0)
 | d=>d
theorem ia (l w:List Int):(w.map D.int).map (oo l)=(w.map λt=>l.getD (t - 1).toNat 0).map D.int:=by rw [List.map_map,List.map_map]; rfl
def qA:SpD:=λds q=>∃ w l,ds=[ae w,ae l]/\0<w.length/\w.length<=1000/\(∀ t∈w,0<t/\t<=(l.length:Int))/\∀ m,(∃ t∈w,l.getD (t - 1).toNat 0=m)->(∀ t∈w,m<=l.getD (t - 1).toNat 0)->q (.int m) [some (ae (a7 l w (-m)))]
theorem rm (T:Txt K mg A) (hB:TabB base mg A.tc A.tP tqS/\TabB base mg A.td A.tQ tqT):FnOk P w K mg base CX0 1 A.f_q36 A.d_q36 ["way","left"] (a_ [false,true] false (qA)):=by
 have S:=rC
 refine fnD T.t_q36.F S ⟨[false,true],[false,true,false,false],false⟩ _ ?hl rfl rfl λcdv Ar outer s H E hr=>⟨_,(ac (aS (i:=2) S.nd rfl (Or.inl rfl) (QE.bor [1] (aD (hU rfl) qW rfl T.z_min eO (af (br ["tie"] [1] ⟨rfl,rfl,by decide +kernel,rfl,rfl,(by first | exact trivial | exact ⟨rfl,trivial⟩ | exact ⟨rfl,rfl,trivial⟩ | exact ⟨rfl,rfl,rfl,trivial⟩ | exact ⟨rfl,rfl,rfl,rfl,trivial⟩),rfl⟩ rfl (aR (aa 0)) (aV 0) (λ_ _ _ _=>⟨(aO (i:=0) (show List.Nodup (["tie","left"]:List Str) by decide +kernel) rfl (Or.inl rfl)),cb,(aF aw dIx (aa 1) (aE bH dI (aa 0) ad) (λ_ _=>rfl))⟩)) aj))))
  (ac (cn PassesOwn.never rfl (aR (aa 0)) (aK (i:=3) S.nd rfl (Or.inl rfl)) (ag (qz rp (i:=1) rfl (aa 2) (aE bH dI (aa 3) ad))))
  (ag (aM (aa 2))))),λds q h=>?_⟩
 case hl=>intro ds q h; obtain ⟨w,l,rfl,_⟩:=h; rfl
 obtain ⟨w,l,rfl,hw0,hwl,hw,q0⟩:=h
 refine ⟨by rw [ar]; exact hwl,?_⟩
 refine bB (oo l) ?_ ?_
 ·intro d hd k hk
  obtain ⟨t,ht,rfl⟩:=bv hd
  have:=hw t ht
  refine ba (bu (by omega) (by omega)) ?_
  exact hk
 rw [ia]
 refine ⟨_,rfl,by rw [List.length_map]; exact hw0,λm hm hmin=>?_⟩
 refine ⟨rfl,?_⟩
 obtain ⟨t0,ht0,et0⟩:=List.mem_map.mp hm
 have hmin2:∀ t∈w,m<=l.getD (t - 1).toNat 0:=λt ht=>hmin _ (List.mem_map.mpr ⟨t,ht,rfl⟩)
 refine ⟨λi ρ=>∃ v,ρ=[some (ae w),some (ae (a7 l (w.take i) (-m))),some (.int m),v],⟨_,rfl⟩,?_,?_⟩
 ·rintro i d ρ hd ⟨v,rfl⟩
  obtain ⟨z,hz,rfl⟩:=di hd
  have hm:=hw z (List.mem_of_getElem? hz)
  have hlen:(a7 l (w.take i) (-m)).length=l.length:=cY _ _ _
  refine ⟨by omega,?_⟩
  rw [bu (by omega) (by omega)]
  show (match ixN ((a7 l (w.take i) (-m)).map D.int).length (z - 1) with | some _=>_ | none=>False)
  rw [ar,gk (by omega) (by omega)]
  refine ⟨some (.int z),?_⟩
  rw [List.take_add_one,hz]
  show _=[_,some (ae (a7 l (_++[z]) (-m))),_,_]
  rw [ik,gX,<- eC]; rfl
 ·rintro ρ ⟨v,rfl⟩
  rw [ar,List.take_length]
  exact q0 m ⟨t0,ht0,et0⟩ hmin2
theorem dR {ps rs:List Int} {as:List Ask} {X:List Int} {S:FC} (h:FI ps rs as X S):S.row.length<=ps.length:=by
 have:=h.rn.length_le_of_subset (l₂:=(List.range ps.length).map λj=>((j + 1:Nat):Int)) λx hx=>by
  have:=(h.rw x).mp hx
  exact List.mem_map.mpr ⟨(x - 1).toNat,List.mem_range.mpr (by omega),by omega⟩
 rw [List.length_map,List.length_range] at this
 exact this
def newF (l row:List Int):D->Option D
 | .int t=>if (decide (l.getD (t - 1).toNat 0=0) && !row.contains t)=true then some (.int t) else none
 | _=>none
theorem jp (l row:List Int):∀ w:List Int,(w.map D.int).filterMap (newF l row)=(w.filter λt=>decide (l.getD (t - 1).toNat 0=0) && !row.contains t).map D.int
 | []=>rfl
 | t :: w=>by
  have ih:=jp l row w
  rw [List.map_cons,List.filterMap_cons,List.filter_cons]
  have e:newF l row (.int t)=if (decide (l.getD (t - 1).toNat 0=0) && !row.contains t)=true then some (.int t) else none:=rfl
  rw [e]
  by_cases h:(decide (l.getD (t - 1).toNat 0=0) && !row.contains t)=true
  ·rw [if_pos h,if_pos h]; simp only [List.map_cons]; rw [ih]
  ·rw [if_neg h,if_neg h]; simp only; rw [ih]
def qq:SpD:=λds q=>∃ ps rs as o,ds=[aL ps rs,eK (aU ps as),ae o]/\Tree ps rs/\AsksOk ps as/\cR ps as o/\∀ S,FillC ps rs as o S->q (.tup [ae S.flow,ae S.row]) []
theorem tG (T:Txt K mg A) (hB:TabB base mg A.tc A.tP tqS/\TabB base mg A.td A.tQ tqT):FnOk P w K mg base CX0 2 A.f_q10 A.d_q10 ["tree","ways","order"] (a_ [false,false,false] true (qq)):=by
 have S:=sr
 refine fnD T.t_q10.F S ⟨[false,false,false],[false,false,false,true,true,true,false],true⟩ _ ?hl rfl rfl λcdv Ar outer s H E hr=>⟨_,(ac (bR (i:=3) S.nd rfl (Or.inr rfl) (b9 bd fY rfl T.z_list bE (af (aF aw dIx (aa 0) ad (λ_ _=>rfl)) aj)))
  (ac (bR (i:=4) S.nd rfl (Or.inl rfl) (o6 mI dRep (dD (af ad aj)) (aD aA dG rfl T.z_len bw (af (aa 1) aj))))
  (ac (bR (i:=5) S.nd rfl (Or.inr rfl) (dO aj))
  (ac (cn PassesOwn.never rfl (aR (aa 2)) (aK (i:=6) S.nd rfl (Or.inl rfl)) (ac (eZ (i:=4) rfl (QE.qf (ao (rm T hB) hr T.t_q36 (aq (aF aw dIx (aa 1) (aa 6) (λ_ _=>rfl)) (dW 3 am)))) (aa 6))
  (ag (l6 (i:=5) rfl (QF.qe (QF.bor [3,5] (pO ["tie"] [5,3] ⟨rfl,rfl,by decide +kernel,rfl,rfl,(by first | exact trivial | exact ⟨rfl,trivial⟩ | exact ⟨rfl,rfl,trivial⟩ | exact ⟨rfl,rfl,rfl,trivial⟩ | exact ⟨rfl,rfl,rfl,rfl,trivial⟩),rfl⟩ rfl (aR (aF aw dIx (aa 1) (aa 6) (λ_ _=>rfl))) (aV 0) (λ_ _ _ _=>⟨(aO (i:=0) (show List.Nodup (["tie","row","left"]:List Str) by decide +kernel) rfl (Or.inl rfl)),(ce (QW.qt (m9 (a4 (eN hr.units) dEq (aF aw dIx (aa 2) (aE bH dI (aa 0) ad) (λ_ _=>rfl)) ad (a5 _)) (kW (a4 du dIn (aa 0) (aa 1) rfl))))),(aa 0)⟩))))))))
  (ag (bD (gz (be (cO 4) (be (cO 5) dn))))))))),λds q h=>?_⟩
 case hl=>intro ds q h; obtain ⟨ps,rs,as,o,rfl,_⟩:=h; rfl
 obtain ⟨ps,rs,as,o,rfl,hT,ha,ho,q0⟩:=h
 have hal:=ha.len
 have hti:=hT.hi
 have hlr:=hT.len
 obtain ⟨hol,hor⟩:=ho.mem
 have hon:=ho.ord.1
 have hwl:(aU ps as).length=as.length:=by unfold aU; rw [List.length_map]
 refine ⟨aI _,?_⟩
 refine ⟨⟨by rw [List.length_map]; omega,by rw [List.length_map]; omega,by rw [List.length_map]; simp; omega⟩,?_⟩
 rw [List.length_map,hwl,ju,Int.toNat_natCast,hZ]
 refine ⟨aI _,?_⟩
 refine ⟨rfl,?_⟩
 refine ⟨λi ρ=>∃ (S:FC) (v6:Option D),ρ=[some (aL ps rs),some (eK (aU ps as)),some (ae o),some (ae S.left),some (ae S.flow),some (ae S.row),v6]/\FillC ps rs as (o.take i) S,⟨⟨rs,List.replicate as.length 0,[]⟩,_,rfl,.nil⟩,?_,?_⟩
 rotate_left
 ·rintro ρ ⟨S,v6,rfl,hS⟩
  rw [ar,List.take_length] at hS
  exact q0 S hS
 rintro i d ρ hd ⟨S,v6,rfl,hS⟩
 obtain ⟨z,hz,rfl⟩:=di hd
 have hil:i<o.length:=(List.getElem?_eq_some_iff.mp hz).1
 have hzb:=hor z (List.mem_of_getElem? hz)
 have hF:=hS.fi hT ha (hon.sublist (List.take_sublist _ _))
 have hok:=dC ha hzb.1 hzb.2
 have hwy:=ly (ps:=ps) hzb.1 hzb.2
 have hwm:∀ t∈aG ps (aT as z),0<t/\t<=(ps.length:Int):=λt ht=>gj hT hok.ends ht
 have hw46:(aG ps (aT as z)).length<=46:=fN hT hok.ends
 have hll:=hF.ll
 have hfl:=hF.fl
 refine ba hwy ?_
 refine ⟨aG ps (aT as z),S.left,rfl,kX hT hok.ends,by omega,λt ht=>by rw [hll]; exact hwm t ht,λm hm hl=>?_⟩
 refine ⟨rfl,?_⟩
 show (match ixN (S.flow.map D.int).length z with | some _=>_ | none=>False)
 rw [ar,gk hzb.1 (by omega)]
 refine ba hwy ?_
 refine ⟨by rw [ar]; omega,?_⟩
 have hll2:(a7 S.left (aG ps (aT as z)) (-m)).length=ps.length:=by rw [cY]; exact hll
 refine bM (newF (a7 S.left (aG ps (aT as z)) (-m)) S.row) ?_ ?_
 ·intro d hd k hk
  obtain ⟨t,ht,rfl⟩:=bv hd
  have htb:=hwm t ht
  refine ba (bu (by omega) (by omega)) ?_
  have e:newF (a7 S.left (aG ps (aT as z)) (-m)) S.row (.int t)=if (decide ((a7 S.left (aG ps (aT as z)) (-m)).getD (t - 1).toNat 0=0) && !S.row.contains t)=true then some (.int t) else none:=rfl
  rw [e] at hk
  refine (cq (c:=decide ((a7 S.left (aG ps (aT as z)) (-m)).getD (t - 1).toNat 0=0)=true) (λc=>?_) (λc=>?_))
  ·refine ⟨rfl,cB S.row,?_⟩
   rw [c,Bool.true_and] at hk
   have ei:(!inD (.int t) (S.row.map D.int)) = !S.row.contains t:=by rw [dc]
   refine (cq (c:=(!inD (.int t) (S.row.map D.int))=true) (λc2=>?_) (λc2=>?_))
   ·rw [ei] at c2; rw [if_pos c2] at hk; exact hk
   ·rw [ei] at c2; rw [if_neg c2] at hk; exact hk
  ·have c':decide ((a7 S.left (aG ps (aT as z)) (-m)).getD (t - 1).toNat 0=0)=false:=by simpa using c
   rw [c',Bool.false_and] at hk
   exact hk
 rw [jp]
 have hr23:=dR hF
 refine ⟨aI _,?_⟩
 refine ⟨aI _,aI _,?_,?_⟩
 ·rw [ar,ar]
  have:=List.length_filter_le (λt=>decide ((a7 S.left (aG ps (aT as z)) (-m)).getD (t - 1).toNat 0=0) && !S.row.contains t) (aG ps (aT as z))
  omega
 refine ⟨dL ps as S z m,some (.int z),?_,?_⟩
 ·show _=[_,_,_,some (ae (a7 S.left (aG ps (aT as z)) (-m))),some (ae (S.flow.set z.toNat m)),some (ae (S.row++(aG ps (aT as z)).filter λt=>decide ((a7 S.left (aG ps (aT as z)) (-m)).getD (t - 1).toNat 0=0) && !S.row.contains t)),some (.int z)]
  rw [<- eC]
  unfold ae
  rw [List.map_append]; rfl
 ·rw [List.take_add_one,hz]
  exact .snoc hS hzb.1 hzb.2 hm hl
def tY:SpD:=λds q=>∃ ws row,ds=[eK ws,ae row]/\ws.length<=1000/\(∀ w∈ws,w.length<=1000)/\row.length<=60/\q (ae (bF (iu ws row))) []
theorem ie (ws:List (List Int)) (cu:List Int) (t:Int):(bK ws cu t).length<=cu.length:=by
 unfold bK
 split
 ·exact List.length_filter_le _ _
 ·exact Nat.le_refl _
theorem fv (ws:List (List Int)):∀ (l cu:List Int),(l.foldl (bK ws) cu).length<=cu.length
 | [],_=>Nat.le_refl _
 | t :: l,cu=>Nat.le_trans (fv ws l (bK ws cu t)) (ie ws cu t)
def neF (t:Int):D->Option D
 | .int x=>if (!decide (x=t))=true then some (.int x) else none
 | _=>none
theorem iH (t:Int):∀ l:List Int,(l.map D.int).filterMap (neF t)=(l.filter λx=>!decide (x=t)).map D.int
 | []=>rfl
 | x :: l=>by
  have ih:=iH t l
  rw [List.map_cons,List.filterMap_cons,List.filter_cons]
  have e:neF t (.int x)=if (!decide (x=t))=true then some (.int x) else none:=rfl
  rw [e]
  by_cases h:(!decide (x=t))=true
  ·rw [if_pos h,if_pos h]; simp only [List.map_cons]; rw [ih]
  ·rw [if_neg h,if_neg h]; simp only; rw [ih]
theorem r9 (T:Txt K mg A) (hB:TabB base mg A.tc A.tP tqS/\TabB base mg A.td A.tQ tqT):FnOk P w K mg base CX0 2 A.f_q21 A.d_q21 ["ways","row"] (a_ [false,false] true (tY)):=by
 have S:=tS
 refine fnD T.t_q21.F S ⟨[false,false],[false,false,false,false,false],true⟩ _ ?hl rfl rfl λcdv Ar outer s H E hr=>⟨_,(ac (aS (i:=2) S.nd rfl (Or.inl rfl) (kg bd fY rfl T.z_list bE (af (aa 1) aj)))
  (ac (cn PassesOwn.never rfl (rX rfl T.z_reversed (af (aa 1) aj)) (aK (i:=3) S.nd rfl (Or.inr rfl)) (ac (eR (i:=4) ["other"] [3] ⟨rfl,rfl,by decide +kernel,rfl,rfl,(by first | exact trivial | exact ⟨rfl,trivial⟩ | exact ⟨rfl,rfl,trivial⟩ | exact ⟨rfl,rfl,rfl,trivial⟩ | exact ⟨rfl,rfl,rfl,rfl,trivial⟩),rfl⟩ rfl S.nd rfl (Or.inl rfl) (aR (aa 2)) (aV 0) (λ_ _ _ _=>⟨(aO (i:=0) (show List.Nodup (["other","tie"]:List Str) by decide +kernel) rfl (Or.inl rfl)),(ce (a4 (cV hr.units) dNe (aa 0) (aa 1) (a5 _))),(aa 0)⟩))
  (ag (bx (bg (ao (ok_q9 T hB) hr T.t_q9 (aq (aa 0) (aq (aa 4) am)))) (ag (aS (i:=2) S.nd rfl (Or.inl rfl) (aa 4))) aQ))))
  (ag (bD (QF.qm (e8 cy iT rfl T.z_sorted cD (af (aa 2) aj))))))),λds q h=>?_⟩
 case hl=>intro ds q h; obtain ⟨ws,row,rfl,_⟩:=h; rfl
 obtain ⟨ws,row,rfl,hw1,hw2,hrl,q0⟩:=h
 refine ⟨λi ρ=>∃ v3 v4,ρ=[some (eK ws),some (ae row),some (ae ((row.reverse.take i).foldl (bK ws) row)),v3,v4],⟨_,_,rfl⟩,?_,?_⟩
 ·rintro i d ρ hd ⟨v3,v4,rfl⟩
  obtain ⟨z,hz,rfl⟩:=di (ns:=row.reverse) (by rw [List.map_reverse]; exact hd)
  have es:(row.reverse.take (i + 1)).foldl (bK ws) row=bK ws ((row.reverse.take i).foldl (bK ws) row) z:=by rw [List.take_add_one,hz,List.foldl_append]; rfl
  have hcl:=fv ws (row.reverse.take i) row
  generalize (row.reverse.take i).foldl (bK ws) row=cu at hcl es
  refine ⟨by rw [ar]; omega,?_⟩
  refine bM (neF z) ?_ ?_
  ·intro d hd k hk
   obtain ⟨x,hx,rfl⟩:=bv hd
   have e:neF z (.int x)=if (!decide (x=z))=true then some (.int x) else none:=rfl
   rw [e] at hk
   refine (cq (c:=(!decide (x=z))=true) (λc=>?_) (λc=>?_))
   ·rw [if_pos c] at hk; exact hk
   ·rw [if_neg c] at hk; exact hk
  rw [iH]
  refine ⟨ws,_,rfl,hw1,hw2,?_⟩
  have ef:bK ws cu z=if dj ws (cu.filter λx=>!decide (x=z))=true then cu.filter λx=>!decide (x=z) else cu:=rfl
  rw [ef] at es
  refine (cq (c:=dj ws (cu.filter λx=>!decide (x=z))=true) (λc=>?_) (λc=>?_))
  ·rw [if_pos c] at es
   refine ⟨some (.int z),some (ae (cu.filter λx=>!decide (x=z))),?_⟩
   rw [es]; rfl
  ·rw [if_neg c] at es
   refine ⟨some (.int z),some (ae (cu.filter λx=>!decide (x=z))),?_⟩
   rw [es]; rfl
 ·rintro ρ ⟨v3,v4,rfl⟩
  have hcl:=fv ws row.reverse row
  rw [show ((row.map D.int).reverse).length=row.reverse.length by simp,List.take_length]
  refine ⟨_,rfl,by omega,?_⟩
  first | exact q0 | exact ⟨aI _,q0⟩
def jU:SpD:=λds q=>∃ ps rs as,ds=[aL ps rs,a8 as]/\Tree ps rs/\AsksOk ps as/\∀ o S,cR ps as o->FillC ps rs as o S->q (.tup [ae S.flow,ae (bF (iu (aU ps as) S.row))]) []
theorem kP (T:Txt K mg A) (hB:TabB base mg A.tc A.tP tqS/\TabB base mg A.td A.tQ tqT):FnOk P w K mg base CX0 9 A.f_q2 A.d_q2 ["tree","asks"] (a_ [false,false] true (jU)):=by
 have S:=sc_q2
 refine fnD T.t_q2.F S ⟨[false,false],[false,false,false,true,false],true⟩ _ ?hl rfl rfl λcdv Ar outer s H E hr=>⟨_,(ac (eA (ao (ok_q3 T hB) hr T.t_q3 (aq (aa 0) (aq (aa 1) am))))
  (ac (aS (i:=2) S.nd rfl (Or.inl rfl) (ao (rj T hB) hr T.t_q22 (aq (aa 0) (aq (aa 1) am))))
  (ac (kG rfl (QF.qm (aJ (tG T hB) hr T.t_q10 (aq (aa 0) (aq (aa 2) (aq (ao (ok_q0 T hB) hr T.t_q0 (aq (aa 0) (aq (aa 1) am))) am))))) (lh (i:=3) S.nd rfl (Or.inl rfl) (oS (i:=4) S.nd rfl (Or.inl rfl) kJ)) (au (au bh)))
  (ag (bD (gz (be (cO 3) (be (QF.qm (aJ (r9 T hB) hr T.t_q21 (aq (aa 2) (aq (aa 4) am)))) dn)))))))),λds q h=>?_⟩
 case hl=>intro ds q h; obtain ⟨ps,rs,as,rfl,_⟩:=h; rfl
 obtain ⟨ps,rs,as,rfl,hT,ha,q0⟩:=h
 obtain ⟨w1,w2⟩:=k9 hT ha
 have hti:=hT.hi
 refine ⟨ps,rs,as,rfl,hT,ha,?_⟩
 refine ⟨ps,rs,as,rfl,hT,ha,?_⟩
 refine ⟨ps,rs,as,rfl,hT,ha,λo ho=>?_⟩
 refine ⟨ps,rs,as,o,rfl,hT,ha,ho,λS hS=>?_⟩
 have hr23:=dR (hS.fi hT ha ho.ord.1)
 refine ⟨_,S.row,rfl,w1,w2,by omega,?_⟩
 exact q0 o S ho hS
end
end K59
namespace K59
open PySem L2
section
variable {P:Program} {w:World} {K:PySem.W.Frag} {mg:Str->Option Value} {base:Heap} {A:Adr}
theorem jY (T:Txt K mg A) (hB:TabB base mg A.tc A.tP tqS/\TabB base mg A.td A.tQ tqT):FnOk P w K mg base CX0 1 A.f_q28 A.d_q28 ["_law_script","_law_k"] (a_ [false,false] true (tD K)):=by
 have S:=tI
 refine fnD T.t_q28.F S ⟨[false,false],[false,false,false,false],true⟩ _ ?hl rfl rfl λcdv Ar outer s H E hr=>⟨_,(ac (aS (i:=2) S.nd rfl (Or.inl rfl) ad)
  (ac (d6 (bx (a4 qY dB (aa 1) (aD aA dG rfl T.z_len bw (af (aa 0) aj)) (a5 _)) (ag (aS (i:=2) S.nd rfl (Or.inl rfl) (aF aw dIx (aa 0) (aa 1) (λ_ _=>rfl)))) aQ))
  (ac (aS (i:=3) S.nd rfl (Or.inl rfl) (aE cT dIC (aE fL dIC (aE bJ dI (aE bJ dI (aE cT dIC (aa 2) ad) (aE fL dIC (aE fL dIC ad (aa 1)) (aa 1))) ad) ad) ad))
  (ac (bx (a4 qY dB (aa 2) (aE eP dIC ad ad) (a5 _)) (ag (aS (i:=2) S.nd rfl (Or.inl rfl) ad)) aQ)
  (ag (bD (QF.qm (dO (af (aa 2) (af (aa 3) aj)))))))))),λds q h=>?_⟩
 case hl=>intro ds q h; obtain ⟨φ,ns,k,rfl,_⟩:=h; rfl
 obtain ⟨φ,ns,k,rfl,hφ,h0,h1,q0⟩:=h
 refine ⟨λρ=>∃ z:Int,ρ=[some (.scr φ ns),some (.int k),some (.int z),none],?_,?_⟩
 ·refine ⟨hφ,?_⟩
  refine (cq (c:=decide (k<(ns.length:Int))=true) (λc=>?_) (λc=>⟨0,rfl⟩))
  have c':k<ns.length:=by simpa using c
  refine ⟨hφ,?_⟩
  show (match atI ns k with | some n=>_ | none=>False)
  rw [tU h0 c']; exact ⟨_,rfl⟩
 rintro ρ ⟨z,rfl⟩
 refine ⟨(show (0:Int)<1000000007 by decide),Or.inl ⟨by decide,by decide⟩,Or.inr ⟨by omega,by omega⟩,Or.inr ⟨by decide,by decide⟩,(show (0:Int)<2147483647 by decide),?_⟩
 refine ⟨⟨by decide,by decide,by decide⟩,?_⟩
 refine (cq (c:=decide (z<10 ^ 18)=true) (λc=>?_) (λc=>?_))
 ·exact ⟨rfl,q0 _ _ (Int.le_refl 0)⟩
 ·have c':(10:Int) ^ 18<=z:=by simpa using c
  exact ⟨rfl,q0 _ _ (by omega)⟩
theorem cm (T:Txt K mg A) (hB:TabB base mg A.tc A.tP tqS/\TabB base mg A.td A.tQ tqT):FnOk P w K mg base CX0 1 A.f_q30 A.d_q30 ["_law_pool_here","_law_many"] (a_ [true,false] false (rT)):=by
 have S:=re
 refine fnD T.t_q30.F S ⟨[true,false],[true,false,false],false⟩ _ ?hl rfl rfl λcdv Ar outer s H E hr=>⟨_,(ac (bx (QT.bor [0] (a4 k8 dB (aF aw dIx (aa 0) ad (λ_ _=>rfl)) ad (a5 _))) (ac (aS (i:=2) S.nd rfl (Or.inl rfl) (QE.bor [0] (aE cT dIC (aF aw dIx (aa 0) ad (λ_ _=>rfl)) (aa 1))))
  (ac (eZ (i:=0) rfl (QF.bor [0] (QE.qf (aE mH dIC (aF aw dIx (aa 0) ad (λ_ _=>rfl)) (aa 1)))) ad)
  (ag (aM (aa 2))))) aQ)
  (ac (eZ (i:=0) rfl (QF.bor [0] (QE.qf (aE cT dIC (aE bJ dI (aE fL dIC (aF aw dIx (aa 0) ad (λ_ _=>rfl)) ad) ad) ad))) ad)
  (ag (aM (QE.bor [0] (aE cT dIC (aE pM dIC (aE cT dIC (aE fL dIC (aF aw dIx (aa 0) ad (λ_ _=>rfl)) (aF aw dIx (aa 0) ad (λ_ _=>rfl))) ad) ad) (aa 1))))))),λds q h=>?_⟩
 case hl=>intro ds q h; obtain ⟨c,m,many,rfl,_⟩:=h; rfl
 obtain ⟨c,m,many,rfl,h0,hm,hs,q0⟩:=h
 refine (cq (c:=decide (0<c)=true) (λc1=>?_) (λc1=>?_))
 ·refine ⟨hm,rfl,?_⟩
  refine ⟨⟨hm,hs⟩,rfl,?_⟩
  exact q0 _ (c / many) m (Int.emod_nonneg _ (Int.ne_of_gt hm)) (Int.emod_lt_of_pos _ hm) (Int.ediv_nonneg h0 (Int.le_of_lt hm))
 ·refine ⟨Or.inr ⟨by decide,by decide⟩,(show (0:Int)<2147483647 by decide),rfl,?_⟩
  have a1:=Int.emod_nonneg (m * 48271 + 11) (show (2147483647:Int)≠0 by decide)
  have a2:=Int.emod_lt_of_pos (m * 48271 + 11) (show (0:Int)<2147483647 by decide)
  refine ⟨Or.inl ⟨by omega,by omega⟩,(show (0:Int)<2147483629 by decide),⟨by decide,by decide⟩,hm,?_⟩
  exact ⟨rfl,q0 _ c _ (Int.emod_nonneg _ (Int.ne_of_gt hm)) (Int.emod_lt_of_pos _ hm) h0⟩
theorem jK (T:Txt K mg A) (hB:TabB base mg A.tc A.tP tqS/\TabB base mg A.td A.tQ tqT):FnOk P w K mg base CX0 2 A.f_q16 A.d_q16 ["_law_pool_here","_law_most"] (a_ [true,false] false (l_)):=by
 have S:=rE
 refine fnD T.t_q16.F S ⟨[true,false],[true,false,false],false⟩ _ ?hl rfl rfl λcdv Ar outer s H E hr=>⟨_,(ac (aS (i:=2) S.nd rfl (Or.inl rfl) (ao (cm T hB) hr T.t_q30 (dW 0 (aq ad am))))
  (ac (bx (a4 (eN hr.units) dEq (aa 2) ad (a5 _)) (ag (aM (aE bJ dI ad (ao (cm T hB) hr T.t_q30 (dW 0 (aq (aD (c8 rfl) mR rfl T.z_min eO (af (aa 1) (af ad aj))) am)))))) aQ)
  (ac (bx (a4 (eN hr.units) dEq (aa 2) ad (a5 _)) (ag (aM (aE bJ dI ad (ao (cm T hB) hr T.t_q30 (dW 0 (aq (aD (c8 rfl) mR rfl T.z_min eO (af (aa 1) (af ad aj))) am)))))) aQ)
  (ac (bx (a4 (eN hr.units) dEq (aa 2) ad (a5 _)) (ag (aM (aE bH dI (aa 1) (ao (cm T hB) hr T.t_q30 (dW 0 (aq (aD (c8 rfl) mR rfl T.z_min eO (af (aa 1) (af ad aj))) am)))))) aQ)
  (ag (aM (aE bJ dI ad (aE cT dIC (aE bJ dI (aE fL dIC (ao (cm T hB) hr T.t_q30 (dW 0 (aq (aE eP dIC ad ad) am))) (aE eP dIC ad ad)) (ao (cm T hB) hr T.t_q30 (dW 0 (aq (aE eP dIC ad ad) am)))) (aa 1))))))))),λds q h=>?_⟩
 case hl=>intro ds q h; obtain ⟨c,m,most,rfl,_⟩:=h; rfl
 obtain ⟨c,m,most,rfl,h0,hm0,hm1,q0⟩:=h
 refine ⟨c,m,4,rfl,h0,by decide,dE (n:=4) (by decide) (by decide +kernel),λw0 c1 m1 w00 w01 h1=>?_⟩
 have hmin:∀ j:Int,1<=j->∃ z:Int,(if j<most then j else most)=z/\1<=z/\z<=most:=λj hj=>by
  by_cases h:j<most
  ·exact ⟨j,by rw [if_pos h],hj,by omega⟩
  ·exact ⟨most,by rw [if_neg h],hm0,Int.le_refl _⟩
 refine (cq (c:=decide (w0=0)=true) (λc=>?_) (λc=>?_))
 ·obtain ⟨z,ez,z0,z1⟩:=hmin 3 (by decide)
  refine ⟨c1,m1,z,by rw [<- ez],h1,by omega,dE (n:=1000000000000) (by omega) (by decide +kernel),λu c2 m2 u0 u1 h2=>?_⟩
  exact q0 _ c2 m2 (by omega) (by omega) h2
 refine (cq (c:=decide (w0=1)=true) (λc=>?_) (λc=>?_))
 ·obtain ⟨z,ez,z0,z1⟩:=hmin 12 (by decide)
  refine ⟨c1,m1,z,by rw [<- ez],h1,by omega,dE (n:=1000000000000) (by omega) (by decide +kernel),λu c2 m2 u0 u1 h2=>?_⟩
  exact q0 _ c2 m2 (by omega) (by omega) h2
 refine (cq (c:=decide (w0=2)=true) (λc=>?_) (λc=>?_))
 ·obtain ⟨z,ez,z0,z1⟩:=hmin 3 (by decide)
  refine ⟨c1,m1,z,by rw [<- ez],h1,by omega,dE (n:=1000000000000) (by omega) (by decide +kernel),λu c2 m2 u0 u1 h2=>?_⟩
  exact q0 _ c2 m2 (by omega) (by omega) h2
 refine ⟨⟨by decide,by decide,by decide⟩,?_⟩
 refine ⟨c1,m1,1000000,rfl,h1,by decide,dE (n:=1000000) (by decide) (by decide +kernel),λu c2 m2 u0 u1 h2=>?_⟩
 refine ⟨⟨by decide,by decide,by decide⟩,Or.inr ⟨by decide,by decide⟩,?_⟩
 refine ⟨⟨by decide,by decide,by decide⟩,?_⟩
 refine ⟨c2,m2,1000000,rfl,h2,by decide,dE (n:=1000000) (by decide) (by decide +kernel),λu' c3 m3 u0' u1' h3=>?_⟩
 refine ⟨(show (0:Int)<most by omega),?_⟩
 have e1:∀ z:Int,1<=1 + z % most:=λz=>by have:=Int.emod_nonneg z (show most≠0 by omega); omega
 have e2:∀ z:Int,1 + z % most<=most:=λz=>by have:=Int.emod_lt_of_pos z (show 0<most by omega); omega
 exact q0 _ c3 m3 (e1 _) (e2 _) h3
theorem sK (T:Txt K mg A) (hB:TabB base mg A.tc A.tP tqS/\TabB base mg A.td A.tQ tqT):FnOk P w K mg base CX0 2 A.f_q11 A.d_q11 ["_law_pool_here","_law_most"] (a_ [true,false] true (lD)):=by
 have S:=rL
 refine fnD T.t_q11.F S ⟨[true,false],[true,false,false,true,false,false],true⟩ _ ?hl rfl rfl λcdv Ar outer s H E hr=>⟨_,(ac (aS (i:=2) S.nd rfl (Or.inl rfl) (ao (cm T hB) hr T.t_q30 (dW 0 (aq ad am))))
  (ac (bR (i:=3) S.nd rfl (Or.inl rfl) (dO aj))
  (ac (cn PassesOwn.never rfl (g9 rfl T.z_range (af ad (af (aE bJ dI ad (ao (cm T hB) hr T.t_q30 (dW 0 (aq (aa 1) am)))) aj))) (aK (i:=4) S.nd rfl (Or.inl rfl)) (ac (aS (i:=5) S.nd rfl (Or.inl rfl) (ao (cm T hB) hr T.t_q30 (dW 0 (aq (aa 4) am))))
  (ag (eB (i:=3) rfl (QE.qf (aF aw dIx (dD (af (aa 5) (af (aE bH dI (aa 4) ad) (af ad (af (aD (ig rfl) dMax rfl T.z_max oZ (af ad (af (aE bH dI (aE bH dI (aa 4) ad) (aE cT dIC (aa 5) ad)) aj))) aj))))) (aa 2) (λ_ _=>rfl)))))))
  (ag (bD (cO 3)))))),λds q h=>?_⟩
 case hl=>intro ds q h; obtain ⟨c,m,most,rfl,_⟩:=h; rfl
 obtain ⟨c,m,most,rfl,h0,hm0,hm1,q0⟩:=h
 refine ⟨c,m,4,rfl,h0,by decide,dE (n:=4) (by decide) (by decide +kernel),λw0 c1 m1 w00 w01 h1=>?_⟩
 refine ⟨rfl,?_⟩
 refine ⟨c1,m1,most,rfl,h1,by omega,dE (n:=23) (by omega) (by decide +kernel),λn c2 m2 n0 n1 h2=>?_⟩
 refine ⟨⟨by omega,by omega,by omega⟩,?_⟩
 refine ⟨λi ρ=>∃ (ps:List Int) (c m:Int) (v4 v5:Option D),ρ=[some (ae [c,m]),some (.int most),some (.int w0),some (ae ps),v4,v5]/\0<=c/\ps.length=i/\(∀ (j:Nat) (x:Int),ps[j]? = some x->0<=x/\x<=j),⟨[],c2,m2,_,_,rfl,h2,rfl,(λj x h=>by simp at h)⟩,?_,?_⟩
 ·rintro i d ρ hd ⟨ps,c3,m3,v4,v5,rfl,h3,lp,hpar⟩
  obtain ⟨hi,rfl⟩:=gm hd
  have hi2:i<23:=by omega
  refine ⟨c3,m3,1 + (i:Int),rfl,h3,by omega,dE (n:=23) (by omega) (by decide +kernel),λr c4 m4 r0 r1 h4=>?_⟩
  refine ⟨(show (0:Int)<3 by decide),?_⟩
  have e1:=Int.emod_nonneg r (show (3:Int)≠0 by decide)
  obtain ⟨y,hy,y1,y2⟩:∃ y:Int,atI [D.int r,D.int (1 + (i:Int) - 1),D.int 0,D.int (if (0:Int)<1 + (i:Int) - 1 - r % 3 then 1 + (i:Int) - 1 - r % 3 else 0)] w0=some (.int y)/\0<=y/\y<=i:=by
   have:w0=0\/w0=1\/w0=2\/w0=3:=by omega
   rcases this with rfl | rfl | rfl | rfl
   ·exact ⟨_,rfl,by omega,by omega⟩
   ·exact ⟨_,rfl,by omega,by omega⟩
   ·exact ⟨_,rfl,by omega,by omega⟩
   ·exact ⟨_,rfl,by split <;> omega,by split <;> omega⟩
  refine ba hy ?_
  refine ⟨rfl,by rw [ar]; omega,?_⟩
  refine ⟨ps++[y],c4,m4,some (.int (1 + (i:Int))),some (.int r),?_,h4,by rw [List.length_append,lp]; rfl,kx hpar ⟨y1,by omega⟩⟩
  rw [<- fE]; rfl
 ·rintro ρ ⟨ps,c3,m3,v4,v5,rfl,h3,lp,hpar⟩
  rw [df] at lp
  exact q0 ps c3 m3 ⟨by omega,by omega,hpar⟩ (by omega) h3
theorem sZ (T:Txt K mg A) (hB:TabB base mg A.tc A.tP tqS/\TabB base mg A.td A.tQ tqT):FnOk P w K mg base CX0 3 A.f_q20 A.d_q20 ["_law_pool_here","_law_many","_law_least"] (a_ [true,false,false] true (pZ)):=by
 have S:=s9
 refine fnD T.t_q20.F S ⟨[true,false,false],[true,false,false,false],true⟩ _ ?hl rfl rfl λcdv Ar outer s H E hr=>⟨_,(ac (aS (i:=3) S.nd rfl (Or.inr rfl) (aF aw dIx (dD (af ad (af ad (af (aE eP dIC ad ad) aj)))) (ao (cm T hB) hr T.t_q30 (dW 0 (aq ad am))) (λ_ _=>rfl)))
  (ag (bD (QF.qm (pe ["_law_k"] [2,0,3] 0 2 ⟨rfl,rfl,by decide +kernel,rfl,rfl,(by first | exact trivial | exact ⟨rfl,trivial⟩ | exact ⟨rfl,rfl,trivial⟩ | exact ⟨rfl,rfl,rfl,trivial⟩ | exact ⟨rfl,rfl,rfl,rfl,trivial⟩),rfl⟩ rfl (ic rfl T.z_range (af (aa 1) aj)) (n_ 0) (λ_ _ _ _=>⟨(aO (i:=0) (show List.Nodup (["_law_k","_law_least","_law_pool_here","_law_most"]:List Str) by decide +kernel) rfl (Or.inl rfl)),cb,(aE bJ dI (aE bH dI (aa 1) ad) (ao (jK T hB) hr T.t_q16 (dW 2 (aq (aE bJ dI (aE bH dI (aa 3) (aa 1)) ad) am))))⟩)))))),λds q h=>?_⟩
 case hl=>intro ds q h; obtain ⟨c,m,n,least,rfl,_⟩:=h; rfl
 obtain ⟨c,m,n,least,rfl,h0,n0,n1,l0,l1,q0⟩:=h
 refine ⟨⟨by decide,by decide,by decide⟩,?_⟩
 refine ⟨c,m,3,rfl,h0,by decide,dE (n:=3) (by decide) (by decide +kernel),λr c1 m1 r0 r1 h1=>?_⟩
 obtain ⟨z,hz,z1,z2⟩:∃ z:Int,atI [D.int 3,D.int 60,D.int (10 ^ Int.toNat 6)] r=some (.int z)/\3<=z/\z<=1000000:=by
  have:r=0\/r=1\/r=2:=by omega
  rcases this with rfl | rfl | rfl
  all_goals exact ⟨_,rfl,by decide,by decide⟩
 refine ba hz ?_
 refine ⟨⟨by omega,by omega⟩,?_⟩
 refine ⟨by rw [df]; omega,?_⟩
 refine ⟨λi es d=>∃ (rs:List Int) (c m:Int),es=rs.map D.int/\d=ae [c,m]/\0<=c/\rs.length=i/\(∀ (j:Nat) (x:Int),rs[j]? = some x->least<=x/\x<=1000000),⟨[],c1,m1,rfl,rfl,h1,rfl,(λj x h=>by simp at h)⟩,?_,?_⟩
 ·rintro j x es d hx ⟨rs,c5,m5,rfl,rfl,h5,lr,hroom⟩
  refine ⟨c5,m5,z - least + 1,rfl,h5,by omega,by omega,λu c6 m6 u0 u1 h6=>?_⟩
  exact ⟨rs++[least - 1 + u],c6,m6,(List.map_append (l₂:=[least - 1 + u])).symm,rfl,h6,by rw [List.length_append,lr]; rfl,kx hroom ⟨by omega,by omega⟩⟩
 ·rintro es d ⟨rs,c5,m5,rfl,rfl,h5,lr,hroom⟩
  rw [df] at lr
  refine ⟨aI _,?_⟩
  exact q0 rs c5 m5 ⟨by omega,hroom⟩ h5
theorem tH (T:Txt K mg A) (hB:TabB base mg A.tc A.tP tqS/\TabB base mg A.td A.tQ tqT):FnOk P w K mg base CX0 2 A.f_q27 A.d_q27 ["_law_pool_here","_law_many"] (a_ [true,false] false (p_)):=by
 have S:=tN
 refine fnD T.t_q27.F S ⟨[true,false],[true,false,false],false⟩ _ ?hl rfl rfl λcdv Ar outer s H E hr=>⟨_,(ac (aS (i:=2) S.nd rfl (Or.inl rfl) (ao (cm T hB) hr T.t_q30 (dW 0 (aq (aE bJ dI (aa 1) ad) am))))
  (ag (aM (iW (af (aa 2) (af (aE cT dIC (aE bJ dI (aE bJ dI (aa 2) ad) (ao (cm T hB) hr T.t_q30 (dW 0 (aq (aa 1) am)))) (aE bJ dI (aa 1) ad)) aj)))))),λds q h=>?_⟩
 case hl=>intro ds q h; obtain ⟨c,m,n,rfl,_⟩:=h; rfl
 obtain ⟨c,m,n,rfl,h0,n0,n1,q0⟩:=h
 refine ⟨c,m,(n:Int) + 1,rfl,h0,by omega,dE (n:=24) (by omega) (by decide +kernel),λa c1 m1 a0 a1 h1=>?_⟩
 refine ⟨c1,m1,(n:Int),rfl,h1,by omega,dE (n:=24) (by omega) (by decide +kernel),λr c2 m2 r0 r1 h2=>?_⟩
 refine ⟨(show (0:Int)<(n:Int) + 1 by omega),?_⟩
 have he:=ka (ps:=List.replicate n 0) (a:=a) (r:=r) a0 (by rw [List.length_replicate]; omega) r0 (by rw [List.length_replicate]; omega)
 rw [List.length_replicate,show 1 + (n:Int)=(n:Int) + 1 by omega] at he
 have hb1:=he.b1
 rw [List.length_replicate] at hb1
 exact q0 _ _ c2 m2 he.a0 (by omega) he.b0 hb1 he.ne h2
theorem iX (T:Txt K mg A) (hB:TabB base mg A.tc A.tP tqS/\TabB base mg A.td A.tQ tqT):FnOk P w K mg base CX0 1 A.f_q37 A.d_q37 ["_law_parents_here","_law_place"] (a_ [false,false] true (sdUpP)):=by
 have S:=tp
 refine fnD T.t_q37.F S ⟨[false,false],[false,false,true],true⟩ _ ?hl rfl rfl λcdv Ar outer s H E hr=>⟨_,(ac (bR (i:=2) S.nd rfl (Or.inl rfl) (dO aj))
  (ac (jq PassesOwn.never (a4 k8 dB (aa 1) ad (a5 _)) (ac (eB (i:=2) rfl (QE.qf (aa 1)))
  (ag (aS (i:=1) S.nd rfl (Or.inl rfl) (aF aw dIx (aa 0) (aE bH dI (aa 1) ad) (λ_ _=>rfl))))))
  (ag (bD (cO 2))))),λds q h=>?_⟩
 case hl=>intro ds q h; obtain ⟨ps,rs,k,rfl,_⟩:=h; rfl
 obtain ⟨ps,rs,k,rfl,hT,h0,h1,q0⟩:=h
 have hi:=hT.hi
 refine ⟨rfl,?_⟩
 refine ⟨λj ρ=>∃ (k':Int) (acc:List Int),ρ=[some (ae ps),some (.int k'),some (ae acc)]/\0<=k'/\k'<=ps.length/\j=k'.toNat/\acc.length + k'.toNat<=24/\(∀ u,Up ps k' u->Up ps k (acc++u)),⟨_,k,[],rfl,h0,h1,rfl,by show 0 + k.toNat<=24; omega,λu h=>h⟩,?_⟩
 rintro j ρ ⟨k',acc,rfl,h0',h1',rfl,hl,hu⟩
 refine (cq (c:=decide (0<k')=true) (λc=>?_) (λc=>?_))
 ·have hk : 0<k':=by simpa using c
  have hp:=hT.up hk h1'
  refine ⟨rfl,by rw [ar]; omega,?_⟩
  refine ba (bu (by omega) (by omega)) ?_
  refine ⟨(cU ps k').toNat,by omega,cU ps k',acc++[k'],?_,hp.1,by omega,rfl,by rw [List.length_append]; show acc.length + 1 + _<=24; omega,λu h=>by rw [List.append_assoc]; exact hu _ (.step hk h)⟩
  rw [<- fE]; rfl
 ·have hk:k'=0:=by simp at c; omega
  subst hk
  exact q0 acc (hu [0] .zero)
theorem oV (T:Txt K mg A) (hB:TabB base mg A.tc A.tP tqS/\TabB base mg A.td A.tQ tqT):FnOk P w K mg base CX0 2 A.f_q35 A.d_q35 ["_law_parents_here","_law_ask_here"] (a_ [false,false] true (rR)):=by
 have S:=tZ
 refine fnD T.t_q35.F S ⟨[false,false],[false,false,false,false,false],true⟩ _ ?hl rfl rfl λcdv Ar outer s H E hr=>⟨_,(ac (aS (i:=2) S.nd rfl (Or.inr rfl) (QF.qe (aJ (iX T hB) hr T.t_q37 (aq (aa 0) (aq (aF aw dIx (aa 1) ad (λ_ _=>rfl)) am)))))
  (ac (aS (i:=3) S.nd rfl (Or.inr rfl) (QF.qe (aJ (iX T hB) hr T.t_q37 (aq (aa 0) (aq (aF aw dIx (aa 1) ad (λ_ _=>rfl)) am)))))
  (ac (eR (i:=4) ["_law_tie"] [3] ⟨rfl,rfl,by decide +kernel,rfl,rfl,(by first | exact trivial | exact ⟨rfl,trivial⟩ | exact ⟨rfl,rfl,trivial⟩ | exact ⟨rfl,rfl,rfl,trivial⟩ | exact ⟨rfl,rfl,rfl,rfl,trivial⟩),rfl⟩ rfl S.nd rfl (Or.inl rfl) (aR (aa 2)) (aV 0) (λ_ _ _ _=>⟨(aO (i:=0) (show List.Nodup (["_law_tie","_law_other"]:List Str) by decide +kernel) rfl (Or.inl rfl)),(ce (a4 du dIn (aa 0) (aa 1) rfl)),(aa 0)⟩))
  (ag (bD (QF.qm (e8 cy iT rfl T.z_sorted cD (af (qP j9 dCat (aa 4) (br ["_law_tie"] [2] ⟨rfl,rfl,by decide +kernel,rfl,rfl,(by first | exact trivial | exact ⟨rfl,trivial⟩ | exact ⟨rfl,rfl,trivial⟩ | exact ⟨rfl,rfl,rfl,trivial⟩ | exact ⟨rfl,rfl,rfl,rfl,trivial⟩),rfl⟩ rfl (aR (aa 3)) (aV 0) (λ_ _ _ _=>⟨(aO (i:=0) (show List.Nodup (["_law_tie","_law_one"]:List Str) by decide +kernel) rfl (Or.inl rfl)),(ce (a4 du dIn (aa 0) (aa 1) rfl)),(aa 0)⟩))) aj)))))))),λds q h=>?_⟩
 case hl=>intro ds q h; obtain ⟨ps,rs,a,b,rest,rfl,_⟩:=h; rfl
 obtain ⟨ps,rs,a,b,rest,rfl,hT,a0,a1,b0,b1,q0⟩:=h
 have hi:=hT.hi
 have i0:atI (D.int a :: D.int b :: rest) 0=some (.int a):=cP (j:=0) rfl
 have i1:atI (D.int a :: D.int b :: rest) 1=some (.int b):=cP (j:=1) rfl
 refine ba i0 ?_
 refine ⟨ps,rs,a,rfl,hT,a0,a1,λva hua=>?_⟩
 refine ba i1 ?_
 refine ⟨ps,rs,b,rfl,hT,b0,b1,λvb hub=>?_⟩
 have hl:=hua.len hT a1
 have hl2:=hub.len hT b1
 rw [List.length_append] at hl hl2
 refine ⟨by rw [ar]; simp at hl; omega,?_⟩
 refine bM (nD λx=>!vb.contains x) ?_ ?_
 ·intro d hd k hk
  obtain ⟨x,hx,rfl⟩:=bv hd
  refine ⟨rfl,cB vb,?_⟩
  change k (if (!vb.contains x)=true then some (.int x) else none) at hk
  show if (!inD (.int x) (vb.map D.int))=true then k (some (.int x)) else k none
  rw [dc]
  cases e:vb.contains x with
  | true=>rw [e] at hk; exact hk
  | false=>rw [e] at hk; exact hk
 rw [eg]
 have hf1:=List.length_filter_le (λx=>!vb.contains x) va
 have hf2:=List.length_filter_le (λx=>!va.contains x) vb
 simp at hl hl2
 refine ⟨by rw [ar]; omega,?_⟩
 refine bM (nD λx=>!va.contains x) ?_ ?_
 ·intro d hd k hk
  obtain ⟨x,hx,rfl⟩:=bv hd
  refine ⟨rfl,cB va,?_⟩
  change k (if (!va.contains x)=true then some (.int x) else none) at hk
  show if (!inD (.int x) (va.map D.int))=true then k (some (.int x)) else k none
  rw [dc]
  cases e:va.contains x with
  | true=>rw [e] at hk; exact hk
  | false=>rw [e] at hk; exact hk
 rw [eg]
 refine ⟨by rw [ar,ar]; omega,?_⟩
 rw [<- List.map_append]
 refine ⟨_,rfl,by rw [List.length_append]; omega,aI _,?_⟩
 rw [<- iZ hT a0 b0 a1 b1 hua hub]
 exact q0
def rG:SpD:=λds q=>∃ c m ps,ds=[ae [c,m],.int ((ps.length:Nat):Int)]/\0<=c/\ParOk ps/\∀ a c' m',AskOk ps a->0<=c'->q (dg a) [some (ae [c',m'])]
theorem sX (T:Txt K mg A) (hB:TabB base mg A.tc A.tP tqS/\TabB base mg A.td A.tQ tqT):FnOk P w K mg base CX0 3 A.f_q33 A.d_q33 ["_law_pool_here","_law_many"] (a_ [true,false] false (rG)):=by
 have S:=rJ
 refine fnD T.t_q33.F S ⟨[true,false],[true,false,false,false],false⟩ _ ?hl rfl rfl λcdv Ar outer s H E hr=>⟨_,(ac (gL (ao (tH T hB) hr T.t_q27 (dW 0 (aq (aa 1) am))) (dH rfl (aX (aK (i:=2) S.nd rfl (Or.inl rfl)) (aX (aK (i:=3) S.nd rfl (Or.inl rfl)) cQ)) (au (au bh))))
  (ag (aM (iW (af (aa 2) (af (aa 3) (af (ao (jK T hB) hr T.t_q16 (dW 0 (aq (aE eP dIC ad ad) am))) (af (ao (jK T hB) hr T.t_q16 (dW 0 (aq (aE eP dIC ad ad) am))) aj)))))))),λds q h=>?_⟩
 case hl=>intro ds q h; obtain ⟨c,m,ps,rfl,_⟩:=h; rfl
 obtain ⟨c,m,ps,rfl,h0,hP,q0⟩:=h
 refine ⟨c,m,ps.length,rfl,h0,hP.lo,hP.hi,λa b c1 m1 a0 a1 b0 b1 hab h1=>?_⟩
 refine ⟨⟨by decide,by decide,by decide⟩,?_⟩
 refine ⟨c1,m1,1000000,rfl,h1,by decide,by decide,λs c2 m2 s0 s1 h2=>?_⟩
 refine ⟨⟨by decide,by decide,by decide⟩,?_⟩
 refine ⟨c2,m2,1000000000000,rfl,h2,by decide,by decide,λwo c3 m3 w0 w1 h3=>?_⟩
 exact q0 ⟨a,b,s,wo⟩ c3 m3 ⟨⟨a0,a1,b0,b1,hab⟩,s0,s1,w0,w1⟩ h3
end
end K59
namespace K59
open PySem L2
section
variable {P:Program} {w:World} {K:PySem.W.Frag} {mg:Str->Option Value} {base:Heap} {A:Adr}
def inF (cu:List Int):D->Option D
 | .int t=>if cu.contains t=true then some (.int t) else none
 | _=>none
theorem kH (cu:List Int):∀ w:List Int,(w.map D.int).filterMap (inF cu)=(w.filter λt=>cu.contains t).map D.int
 | []=>rfl
 | t :: w=>by
  have ih:=kH cu w
  rw [List.map_cons,List.filterMap_cons,List.filter_cons]
  have e:inF cu (.int t)=if cu.contains t=true then some (.int t) else none:=rfl
  rw [e]
  by_cases h:cu.contains t=true
  ·rw [if_pos h,if_pos h]; simp only [List.map_cons]; rw [ih]
  ·rw [if_neg h,if_neg h]; simp only; rw [ih]
def l9 (cu:List Int):D->Option D
 | .lst ds=>if (ds.filterMap (inF cu)).isEmpty=true then some (.lst ds) else none
 | _=>none
theorem jA (cu:List Int):∀ ws:List (List Int),((ws.map ae).filterMap (l9 cu)).isEmpty=dj ws cu
 | []=>rfl
 | w :: ws=>by
  have ih:=jA cu ws
  have e:l9 cu (ae w)=if (w.filter λt=>cu.contains t).isEmpty=true then some (ae w) else none:=by
   show (if ((w.map D.int).filterMap (inF cu)).isEmpty=true then some (D.lst (w.map D.int)) else none)=_
   rw [kH,List.isEmpty_map]; rfl
  have e2:(w.filter λt=>cu.contains t).isEmpty = !(w.any λt=>cu.contains t):=by
   cases h:w.any λt=>cu.contains t with
   | true =>
    obtain ⟨t,t1,t2⟩:=List.any_eq_true.mp h
    have:t∈w.filter λt=>cu.contains t:=List.mem_filter.mpr ⟨t1,t2⟩
    cases q:w.filter λt=>cu.contains t with
    | nil=>rw [q] at this; cases this
    | cons _ _=>rfl
   | false =>
    rw [List.filter_eq_nil_iff.mpr λt ht z=>by
     have:=List.any_eq_false.mp h t ht
     exact this z]; rfl
  show ((ae w :: ws.map ae).filterMap (l9 cu)).isEmpty=((w.any λt=>cu.contains t)&&dj ws cu)
  rw [List.filterMap_cons,e,e2]
  cases h:w.any λt=>cu.contains t with
  | true=>rw [if_neg (by simp),Bool.true_and]; exact ih
  | false=>rw [if_pos (by simp),Bool.false_and]; rfl
theorem su (T:Txt K mg A) (hB:TabB base mg A.tc A.tP tqS/\TabB base mg A.td A.tQ tqT):FnOk P w K mg base CX0 1 A.f_q17 A.d_q17 ["_law_ways","_law_ties"] (a_ [false,false] false (lu)):=by
 have S:=rK
 refine fnD T.t_q17.F S ⟨[false,false],[false,false],false⟩ _ ?hl rfl rfl λcdv Ar outer s H E hr=>⟨_,(ag (aM (gA (je hr.units) om (br ["_law_way_here"] [1] ⟨rfl,rfl,by decide +kernel,rfl,rfl,(by first | exact trivial | exact ⟨rfl,trivial⟩ | exact ⟨rfl,rfl,trivial⟩ | exact ⟨rfl,rfl,rfl,trivial⟩ | exact ⟨rfl,rfl,rfl,rfl,trivial⟩),rfl⟩ rfl (aR (aa 0)) (aV 0) (λ_ _ _ _=>⟨(aO (i:=0) (show List.Nodup (["_law_way_here","_law_ties"]:List Str) by decide +kernel) rfl (Or.inl rfl)),(ce (a4 (je hr.units) om (br ["_law_tie"] [1] ⟨rfl,rfl,by decide +kernel,rfl,rfl,(by first | exact trivial | exact ⟨rfl,trivial⟩ | exact ⟨rfl,rfl,trivial⟩ | exact ⟨rfl,rfl,rfl,trivial⟩ | exact ⟨rfl,rfl,rfl,rfl,trivial⟩),rfl⟩ rfl (aR (aa 0)) (aV 0) (λ_ _ _ _=>⟨(aO (i:=0) (show List.Nodup (["_law_tie","_law_ties"]:List Str) by decide +kernel) rfl (Or.inl rfl)),(ce (a4 fR dIn (aa 0) (aa 1) rfl)),(aa 0)⟩)) (dD aj) (a5 _))),(aa 0)⟩)) (dD aj) (a5 _)))),λds q h=>?_⟩
 case hl=>intro ds q h; obtain ⟨ws,cu,rfl,_⟩:=h; rfl
 obtain ⟨ws,cu,rfl,w1,w2,q0⟩:=h
 refine ⟨by rw [List.length_map]; exact w1,?_⟩
 refine bM (l9 cu) ?_ ?_
 ·intro d hd k hk
  obtain ⟨w,hm,rfl⟩:=List.mem_map.mp hd
  refine ⟨by rw [ar]; exact w2 w hm,?_⟩
  refine bM (inF cu) ?_ ?_
  ·intro d hd k hk
   obtain ⟨t,ht,rfl⟩:=bv hd
   refine ⟨rfl,cB cu,?_⟩
   have e:inF cu (.int t)=if cu.contains t=true then some (.int t) else none:=rfl
   rw [e] at hk
   have ei:inD (.int t) (cu.map D.int)=cu.contains t:=dc _ _
   refine (cq (c:=inD (.int t) (cu.map D.int)=true) (λc=>?_) (λc=>?_))
   ·rw [ei] at c; rw [if_pos c] at hk; exact hk
   ·rw [ei] at c; rw [if_neg c] at hk; exact hk
  have e:l9 cu (ae w)=if ((w.map D.int).filterMap (inF cu)).isEmpty=true then some (ae w) else none:=rfl
  rw [e] at hk
  refine (cq (c:=((w.map D.int).filterMap (inF cu)).isEmpty=true) (λc=>?_) (λc=>?_))
  ·rw [if_pos c] at hk; exact hk
  ·rw [if_neg c] at hk; exact hk
 show q (.bl ((ws.map ae).filterMap (l9 cu)).isEmpty) []
 rw [jA]; exact q0
theorem l8 {ps rs:List Int} (hT:Tree ps rs) {a b:Int} (a0 : 0<=a) (b0 : 0<=b) (a1:a<=ps.length) (b1:b<=ps.length) {va vb v:List Int} (hua:Up ps a (va++[0])) (hub:Up ps b (vb++[0])) (hum:Up ps (bo ps a b) (v++[0])) :
 (va.filter λx=>vb.contains x).length=v.length:=by
 obtain ⟨w,hw,e⟩:=bS hT a0 b0 a1 b1
 have hm:=hw.low hT a0 b0 a1 b1
 obtain ⟨ma,mb,mx⟩:=hw.meet hT a0 b0 a1 b1 hua hub
 have pa:=Up.pos hT hua a1
 have pb:=Up.pos hT hub b1
 have pm:=Up.pos hT hum (by omega)
 have inA:∀ x,x∈v->x∈va:=λx hx=>by
  obtain ⟨uy,h1,_,h3⟩:=hua.chain hT a1 (x:=bo ps a b) (y:=bo ps a b) ma ma (Int.le_refl _)
  rw [<- hum.det h1] at h3
  have:=pm x hx
  rcases List.mem_append.mp (h3 x (List.mem_append.mpr (.inl hx))) with h | h
  ·exact h
  ·have:=List.mem_singleton.mp h; omega
 have inB:∀ x,x∈v->x∈vb:=λx hx=>by
  obtain ⟨uy,h1,_,h3⟩:=hub.chain hT b1 (x:=bo ps a b) (y:=bo ps a b) mb mb (Int.le_refl _)
  rw [<- hum.det h1] at h3
  have:=pm x hx
  rcases List.mem_append.mp (h3 x (List.mem_append.mpr (.inl hx))) with h | h
  ·exact h
  ·have:=List.mem_singleton.mp h; omega
 have both:∀ x,x∈va->x∈vb->x∈v:=λx h1 h2=>by
  obtain ⟨uy,h3,h4,_⟩:=hua.chain hT a1 (List.mem_append.mpr (.inl h1)) ma (mx x (List.mem_append.mpr (.inl h1)) (List.mem_append.mpr (.inl h2)))
  rw [<- hum.det h3] at h4
  have:=pa x h1
  rcases List.mem_append.mp h4 with h | h
  ·exact h
  ·have:=List.mem_singleton.mp h; omega
 have na:va.Nodup:=((List.pairwise_append.mp (hua.dec hT a1)).1).imp λh=>Int.ne_of_gt h
 have nv:v.Nodup:=((List.pairwise_append.mp (hum.dec hT (by omega))).1).imp λh=>Int.ne_of_gt h
 refine List.Perm.length_eq ((List.perm_ext_iff_of_nodup (na.filter _) nv).mpr λx=>?_)
 rw [List.mem_filter,List.contains_iff_mem]
 exact ⟨λh=>both x h.1 h.2,λh=>⟨inA x h,inB x h⟩⟩
def mG:SpD:=λds q=>∃ ps rs a b rest v,ds=[ae ps,.tup (.int a :: .int b :: rest)]/\Tree ps rs/\0<=a/\a<=ps.length/\0<=b/\b<=ps.length/\Up ps (bo ps a b) (v++[0])/\q (.int (v.length:Int)) []
theorem tE (T:Txt K mg A) (hB:TabB base mg A.tc A.tP tqS/\TabB base mg A.td A.tQ tqT):FnOk P w K mg base CX0 2 A.f_q19 A.d_q19 ["_law_parents_here","_law_ask_here"] (a_ [false,false] false (mG)):=by
 have S:=tz
 refine fnD T.t_q19.F S ⟨[false,false],[false,false,false,false],false⟩ _ ?hl rfl rfl λcdv Ar outer s H E hr=>⟨_,(ac (aS (i:=2) S.nd rfl (Or.inl rfl) (QF.qe (aJ (iX T hB) hr T.t_q37 (aq (aa 0) (aq (aF aw dIx (aa 1) ad (λ_ _=>rfl)) am)))))
  (ac (aS (i:=3) S.nd rfl (Or.inr rfl) (QF.qe (aJ (iX T hB) hr T.t_q37 (aq (aa 0) (aq (aF aw dIx (aa 1) ad (λ_ _=>rfl)) am)))))
  (ag (aM (aD aA dG rfl T.z_len bw (af (br ["_law_place"] [3] ⟨rfl,rfl,by decide +kernel,rfl,rfl,(by first | exact trivial | exact ⟨rfl,trivial⟩ | exact ⟨rfl,rfl,trivial⟩ | exact ⟨rfl,rfl,rfl,trivial⟩ | exact ⟨rfl,rfl,rfl,rfl,trivial⟩),rfl⟩ rfl (aR (aa 2)) (aV 0) (λ_ _ _ _=>⟨(aO (i:=0) (show List.Nodup (["_law_place","_law_other"]:List Str) by decide +kernel) rfl (Or.inl rfl)),(ce (a4 fR dIn (aa 0) (aa 1) rfl)),(aa 0)⟩)) aj)))))),λds q h=>?_⟩
 case hl=>intro ds q h; obtain ⟨ps,rs,a,b,rest,v,rfl,_⟩:=h; rfl
 obtain ⟨ps,rs,a,b,rest,v,rfl,hT,a0,a1,b0,b1,hv,q0⟩:=h
 have hi:=hT.hi
 have i0:atI (D.int a :: D.int b :: rest) 0=some (.int a):=cP (j:=0) rfl
 have i1:atI (D.int a :: D.int b :: rest) 1=some (.int b):=cP (j:=1) rfl
 refine ba i0 ?_
 refine ⟨ps,rs,a,rfl,hT,a0,a1,λva hua=>?_⟩
 refine ba i1 ?_
 refine ⟨ps,rs,b,rfl,hT,b0,b1,λvb hub=>?_⟩
 have hl:=hua.len hT a1
 rw [List.length_append] at hl
 refine ⟨by rw [ar]; simp at hl; omega,?_⟩
 refine bM (nD λx=>vb.contains x) ?_ ?_
 ·intro d hd k hk
  obtain ⟨x,hx,rfl⟩:=bv hd
  refine ⟨rfl,cB vb,?_⟩
  change k (if (vb.contains x)=true then some (.int x) else none) at hk
  show if (inD (.int x) (vb.map D.int))=true then k (some (.int x)) else k none
  rw [dc]
  cases e:vb.contains x with
  | true=>rw [e] at hk; exact hk
  | false=>rw [e] at hk; exact hk
 rw [eg]
 show q (.int (((va.filter λx=>vb.contains x).map D.int).length:Nat)) []
 rw [ar,l8 hT a0 b0 a1 b1 hua hub hv]
 exact q0
end
end K59
namespace K59
open PySem L2
section
variable {P:Program} {w:World} {K:PySem.W.Frag} {mg:Str->Option Value} {base:Heap} {A:Adr}
theorem lv {ps rs:List Int} (hT:Tree ps rs):∀ n:Nat,n<=ps.length->∃ e,DepOk ps e n
 | 0,_=>⟨_,dep0 ps⟩
 | n + 1,h=>by
  obtain ⟨e,he⟩:=lv hT n (Nat.le_of_succ_le h)
  exact ⟨_,jC hT (List.getElem?_eq_getElem h) he⟩
theorem pU {ps rs e e':List Int} (hT:Tree ps rs) (h:DepOk ps e ps.length) (h':DepOk ps e' ps.length) {as:List Ask} (ha:AsksOk ps as):cx ps e as=cx ps e' as:=by
 unfold cx
 refine List.map_congr_left λa hm=>?_
 have ok:=(ha.ok a hm).ends
 obtain ⟨w,hw,_⟩:=bS hT ok.a0 ok.b0 ok.a1 ok.b1
 have hl:=hw.low hT ok.a0 ok.b0 ok.a1 ok.b1
 have a1:=ok.a1
 obtain ⟨u,hu⟩:=Up.all hT _ (bo ps a.one a.other) rfl hl.1 (by omega)
 have:=h.up _ u hl.1 (by omega) hu
 have:=h'.up _ u hl.1 (by omega) hu
 omega
theorem fo {ps rs o o':List Int} {as:List Ask} (hT:Tree ps rs) (ha:AsksOk ps as):cR ps as o->cR ps as o'->o=o'
 | ⟨e,he,h⟩,⟨e',he',h'⟩=>by
  rw [pU hT he' he ha] at h'
  refine List.Perm.eq_of_pairwise (le:=λa b=>(λz:Int=>-((cx ps e as).getD z.toNat 0)) a<(λz:Int=>-((cx ps e as).getD z.toNat 0)) b\/((λz:Int=>-((cx ps e as).getD z.toNat 0)) a=(λz:Int=>-((cx ps e as).getD z.toNat 0)) b/\a<b)) (λa b _ _ q1 q2=>?_) h.st h'.st (h.perm.trans h'.perm.symm)
  omega
theorem jD {ps rs o:List Int} {as:List Ask} {S:FC} (h:FillC ps rs as o S):(o=[]/\S=⟨rs,List.replicate as.length 0,[]⟩)\/∃ X S0 k m,o=X++[k]/\FillC ps rs as X S0/\(∃ t∈a9 ps as k,S0.left.getD (t - 1).toNat 0=m)/\(∀ t∈a9 ps as k,m<=S0.left.getD (t - 1).toNat 0)/\S=dL ps as S0 k m:=by
 cases h with
 | nil=>exact .inl ⟨rfl,rfl⟩
 | snoc h k0 k1 hm hl=>exact .inr ⟨_,_,_,_,rfl,h,hm,hl,rfl⟩
theorem fb {ps rs o:List Int} {as:List Ask} {S:FC} (h:FillC ps rs as o S):∀ {S':FC},FillC ps rs as o S'->S=S':=by
 induction h with
 | nil =>
  intro S' h'
  rcases jD h' with ⟨_,e⟩ | ⟨X,S0,k,m,e,_⟩
  ·exact e.symm
  ·simp at e
 | @snoc X1 S1 kk m1 h k0 k1 hm hl ih =>
  intro S' h'
  rcases jD h' with ⟨e,_⟩ | ⟨X,S0,k,m,e,h0,hm0,hl0,rfl⟩
  ·simp at e
  ·obtain ⟨rfl,e2⟩:=List.append_inj' e rfl
   cases e2
   have e3:=ih h0
   subst e3
   obtain ⟨t,t1,t2⟩:=hm
   obtain ⟨u,u1,u2⟩:=hm0
   have:=hl u u1
   have:=hl0 t t1
   have em:m1=m:=by omega
   rw [em]
theorem pK {ps rs:List Int} {as:List Ask} {X:List Int} {S:FC} {k m:Int} (hT:Tree ps rs) (ha:AsksOk ps as) (h:FI ps rs as X S) (k0 : 0<=k) (k1:k<(as.length:Int)) :
 (((List.range ps.length).filter λj=>decide ((a7 S.left (a9 ps as k) (-m)).getD j 0=0)&&decide (0<S.left.getD j 0)).map λ(j:Nat)=>(j:Int) + 1)=(a9 ps as k).filter λt=>decide ((a7 S.left (a9 ps as k) (-m)).getD (t - 1).toNat 0=0) && !S.row.contains t:=by
 have hok:=dC ha k0 k1
 have hwm:∀ t∈a9 ps as k,0<t/\t<=(ps.length:Int):=λt ht=>gj hT hok.ends ht
 have hwn:(a9 ps as k).Nodup:=iw hT hok.ends
 have eL:∀ t:Int,0<t->(a7 S.left (a9 ps as k) (-m)).getD (t - 1).toNat 0=S.left.getD (t - 1).toNat 0 + cnt t (a9 ps as k) (-m):=λt t0=>by
  have:=iV (j:=(t - 1).toNat) (s:=-m) (l:=S.left) hwn (λx hx=>by rw [h.ll]; exact hwm x hx)
  rw [show (((t - 1).toNat:Nat):Int) + 1=t by omega] at this
  exact this
 have hws:(a9 ps as k).Pairwise (· < ·):=by
  obtain ⟨w,_,e⟩:=bS hT hok.ends.a0 hok.ends.b0 hok.ends.a1 hok.ends.b1
  have e:a9 ps as k=bF w:=e
  rw [e] at hwn ⊢
  exact List.Pairwise.imp₂ (λa b (q1:a<=b) (q2:a≠b)=>by omega) (bU w) hwn
 have p1:(((List.range ps.length).filter λj=>decide ((a7 S.left (a9 ps as k) (-m)).getD j 0=0)&&decide (0<S.left.getD j 0)).map λ(j:Nat)=>(j:Int) + 1).Pairwise (· < ·):=by
  rw [List.pairwise_map]
  exact (List.pairwise_lt_range.filter _).imp λq=>by omega
 have p2:((a9 ps as k).filter λt=>decide ((a7 S.left (a9 ps as k) (-m)).getD (t - 1).toNat 0=0) && !S.row.contains t).Pairwise (· < ·):=hws.filter _
 refine List.Perm.eq_of_pairwise (le:=λa b:Int=>a<b) (λa b _ _ q1 q2=>by omega) p1 p2 ?_
 refine (List.perm_ext_iff_of_nodup (p1.imp λq=>Int.ne_of_lt q) (p2.imp λq=>Int.ne_of_lt q)).mpr λt=>?_
 rw [List.mem_map,List.mem_filter]
 constructor
 ·rintro ⟨j,hj,rfl⟩
  obtain ⟨j1,j2⟩:=List.mem_filter.mp hj
  have j1:=List.mem_range.mp j1
  rw [Bool.and_eq_true] at j2
  have c1:=of_decide_eq_true j2.1
  have c2:=of_decide_eq_true j2.2
  have e:=eL ((j:Int) + 1) (by omega)
  rw [show ((j:Int) + 1 - 1).toNat=j by omega] at e
  rw [show ((j:Int) + 1 - 1).toNat=j by omega]
  refine ⟨?_,?_⟩
  ·refine Classical.byContradiction λz=>?_
   have:cnt ((j:Int) + 1) (a9 ps as k) (-m)=0:=by unfold cnt; rw [if_neg (by simpa using z)]
   omega
  ·rw [Bool.and_eq_true]
   refine ⟨decide_eq_true c1,?_⟩
   have:(j:Int) + 1 ∉ S.row:=λq=>by
    have:=((h.rw _).mp q).2.2
    rw [show ((j:Int) + 1 - 1).toNat=j by omega] at this
    omega
   simpa using this
 ·rintro ⟨t1,t2⟩
  obtain ⟨b1,b2⟩:=hwm t t1
  rw [Bool.and_eq_true] at t2
  have c1:=of_decide_eq_true t2.1
  have c2:t ∉ S.row:=by have:=t2.2; simpa using this
  refine ⟨(t - 1).toNat,List.mem_filter.mpr ⟨List.mem_range.mpr (by omega),?_⟩,by omega⟩
  rw [Bool.and_eq_true]
  refine ⟨decide_eq_true c1,decide_eq_true ?_⟩
  have:=(h.lf t b1 b2).2
  have:S.left.getD (t - 1).toNat 0≠0:=λq=>c2 ((h.rw t).mpr ⟨b1,b2,q⟩)
  omega
def nfF (l l0:List Int):D->Option D
 | .int k=>if (decide (l.getD k.toNat 0=0)&&decide (0<l0.getD k.toNat 0))=true then some (.int (k + 1)) else none
 | _=>none
theorem lc (l l0:List Int):∀ js:List Nat,((js.map λ(j:Nat)=>(j:Int)).map D.int).filterMap (nfF l l0)=((js.filter λj=>decide (l.getD j 0=0)&&decide (0<l0.getD j 0)).map λ(j:Nat)=>(j:Int) + 1).map D.int
 | []=>rfl
 | j :: js=>by
  have ih:=lc l l0 js
  rw [List.map_cons,List.map_cons,List.filterMap_cons,List.filter_cons]
  have e:nfF l l0 (.int (j:Int))=if (decide (l.getD j 0=0)&&decide (0<l0.getD j 0))=true then some (.int ((j:Int) + 1)) else none:=rfl
  rw [e]
  by_cases h:(decide (l.getD j 0=0)&&decide (0<l0.getD j 0))=true
  ·rw [if_pos h,if_pos h]; simp only [List.map_cons]; rw [ih]
  ·rw [if_neg h,if_neg h]; simp only; rw [ih]
structure ThJ (row:List Int) (i:Nat) (cu:List Int):Prop where
 nd:cu.Nodup
 mem:∀ t∈row.reverse.drop i,t∈cu
 len:cu.length<=row.length
theorem ThJ.step {ws:List (List Int)} {row cu:List Int} {i:Nat} {z:Int} (h:ThJ row i cu) (hn:row.Nodup) (hz:row.reverse[i]? = some z):z∈cu/\cu.erase z=(cu.filter λx=>!decide (x=z))/\ThJ row (i + 1) (bK ws cu z):=by
 obtain ⟨h1,h2⟩:=List.getElem?_eq_some_iff.mp hz
 have hd:row.reverse.drop i=z :: row.reverse.drop (i + 1):=by rw [List.drop_eq_getElem_cons h1,h2]
 have hnr:(row.reverse.drop i).Nodup:=(List.pairwise_reverse.mpr (hn.imp Ne.symm):row.reverse.Nodup).sublist (List.drop_sublist _ _)
 rw [hd] at hnr
 have hzn:=(List.nodup_cons.mp hnr).1
 have hzc:z∈cu:=h.mem z (by rw [hd]; exact .head _)
 refine ⟨hzc,?_,?_,λt ht=>?_,?_⟩
 ·rw [h.nd.erase_eq_filter]
  exact List.filter_congr λx _=>by
   by_cases e:x=z
   ·subst e; simp
   ·simp [e]
 ·unfold bK
  split
  ·exact h.nd.filter _
  ·exact h.nd
 ·have ht2:=h.mem t (by rw [hd]; exact .tail _ ht)
  unfold bK
  split
  ·exact List.mem_filter.mpr ⟨ht2,by simp; intro e; exact hzn (e ▸ ht)⟩
  ·exact ht2
 ·have:=ie ws cu z
  have:=h.len
  omega
def sy:SpD:=λds q=>∃ ps rs as,ds=[aL ps rs,a8 as,eK (aU ps as)]/\Tree ps rs/\AsksOk ps as/\∀ o S,cR ps as o->FillC ps rs as o S->q (.tup [ae S.flow,ae (bF (iu (aU ps as) S.row))]) []
theorem nF (T:Txt K mg A) (hB:TabB base mg A.tc A.tP tqS/\TabB base mg A.td A.tQ tqT):FnOk P w K mg base CX0 6 A.f_q34 A.d_q34 ["_law_tree","_law_asks","_law_ways"] (a_ [false,false,false] true (sy)):=by
 have S:=sA
 refine fnDc T.t_q34.F T.hd S ⟨[false,false,false],[false,false,false,false,true,true,false,false,false,false,true],true⟩ _ ?hl rfl rfl λAr outer s H E hr=>⟨_,(ac (aS (i:=3) S.nd rfl (Or.inl rfl) (oJ [0,1] hr rfl T.z_sorted rfl T.z_range (aD aA dG rfl T.z_len bw (af (aa 1) aj)) ⟨rfl,rfl,by decide +kernel,rfl,rfl,(by first | exact trivial | exact ⟨rfl,trivial⟩ | exact ⟨rfl,rfl,trivial⟩ | exact ⟨rfl,rfl,rfl,trivial⟩ | exact ⟨rfl,rfl,rfl,rfl,trivial⟩),rfl⟩ rfl hB.2 (λ_ _ _ _ _=>(aE bH dI ad (ao (tE T hB) (Room.deeper hr.in1.in1 _) T.t_q19 (aq (aF aw dIx (aa 1) ad (λ_ _=>rfl)) (aq (aF aw dIx (aa 2) (aa 0) (λ_ _=>rfl)) am)))))))
  (ac (bR (i:=4) S.nd rfl (Or.inr rfl) (b9 bd fY rfl T.z_list bE (af (aF aw dIx (aa 0) ad (λ_ _=>rfl)) aj)))
  (ac (bR (i:=5) S.nd rfl (Or.inl rfl) (o6 mI dRep (dD (af ad aj)) (aD aA dG rfl T.z_len bw (af (aa 1) aj))))
  (ac (aS (i:=6) S.nd rfl (Or.inl rfl) (dD aj))
  (ac (cn PassesOwn.never rfl (aR (aa 3)) (aK (i:=7) S.nd rfl (Or.inl rfl)) (ac (eZ (i:=5) rfl (QF.bor [4] (QE.qf (aD (hU rfl) qW rfl T.z_min eO (af (br ["_law_tie"] [4] ⟨rfl,rfl,by decide +kernel,rfl,rfl,(by first | exact trivial | exact ⟨rfl,trivial⟩ | exact ⟨rfl,rfl,trivial⟩ | exact ⟨rfl,rfl,rfl,trivial⟩ | exact ⟨rfl,rfl,rfl,rfl,trivial⟩),rfl⟩ rfl (aR (aF aw dIx (aa 2) (aa 7) (λ_ _=>rfl))) (aV 0) (λ_ _ _ _=>⟨(aO (i:=0) (show List.Nodup (["_law_tie","_law_free"]:List Str) by decide +kernel) rfl (Or.inl rfl)),cb,(aF aw dIx (aa 1) (aE bH dI (aa 0) ad) (λ_ _=>rfl))⟩)) aj)))) (aa 7))
  (ac (aS (i:=8) S.nd rfl (Or.inr rfl) (QF.qe (QF.bor [4] (b9 bd fY rfl T.z_list bE (af (aa 4) aj)))))
  (ac (cn PassesOwn.never rfl (aR (aF aw dIx (aa 2) (aa 7) (λ_ _=>rfl))) (aK (i:=9) S.nd rfl (Or.inr rfl)) (ag (eZ (i:=4) rfl (QF.bor [4,5] (QE.qf (aE bH dI (aF aw dIx (aa 4) (aE bH dI (aa 9) ad) (λ_ _=>rfl)) (aF aw dIx (aa 5) (aa 7) (λ_ _=>rfl))))) (aE bH dI (aa 9) ad))))
  (ag (aS (i:=6) S.nd rfl (Or.inl rfl) (QF.qe (QF.bor [4] (o6 j9 dCat (aa 6) (br ["_law_k"] [4,8] ⟨rfl,rfl,by decide +kernel,rfl,rfl,(by first | exact trivial | exact ⟨rfl,trivial⟩ | exact ⟨rfl,rfl,trivial⟩ | exact ⟨rfl,rfl,rfl,trivial⟩ | exact ⟨rfl,rfl,rfl,rfl,trivial⟩),rfl⟩ rfl (ic rfl T.z_range (af (aD aA dG rfl T.z_len bw (af (aa 4) aj)) aj)) (aV 0) (λ_ _ _ _=>⟨(aO (i:=0) (show List.Nodup (["_law_k","_law_free","_law_ahead"]:List Str) by decide +kernel) rfl (Or.inl rfl)),(ce (QW.qt (m9 (a4 (eN hr.units) dEq (aF aw dIx (aa 1) (aa 0) (λ_ _=>rfl)) ad (a5 _)) (kW (a4 k8 dB (aF aw dIx (aa 2) (aa 0) (λ_ _=>rfl)) ad (a5 _)))))),(aE bJ dI (aa 0) ad)⟩)))))))))))
  (ac (bR (i:=10) S.nd rfl (Or.inl rfl) (b9 bd fY rfl T.z_list bE (af (aa 6) aj)))
  (ac (cn PassesOwn.never rfl (aR (QF.qe (rQ (aa 6)))) (aK (i:=9) S.nd rfl (Or.inr rfl)) (ag (bx (QT.bor [10] (bg (ao (su T hB) hr T.t_q17 (aq (aa 2) (aq (br ["_law_one"] [9] ⟨rfl,rfl,by decide +kernel,rfl,rfl,(by first | exact trivial | exact ⟨rfl,trivial⟩ | exact ⟨rfl,rfl,trivial⟩ | exact ⟨rfl,rfl,rfl,trivial⟩ | exact ⟨rfl,rfl,rfl,rfl,trivial⟩),rfl⟩ rfl (aR (aa 10)) (aV 0) (λ_ _ _ _=>⟨(aO (i:=0) (show List.Nodup (["_law_one","_law_tie"]:List Str) by decide +kernel) rfl (Or.inl rfl)),(ce (a4 (cV hr.units) dNe (aa 0) (aa 1) (a5 _))),(aa 0)⟩)) am))))) (ag (lJ (i:=10) rfl (aa 9))) aQ)))
  (ag (bD (gz (be (cO 5) (be (QF.qm (QF.bor [10] (e8 cy iT rfl T.z_sorted cD (af (aa 10) aj)))) dn)))))))))))),λds q h=>?_⟩
 case hl=>intro ds q h; obtain ⟨ps,rs,as,rfl,_⟩:=h; rfl
 obtain ⟨ps,rs,as,rfl,hT,ha,q0⟩:=h
 have hal:=ha.len
 have hti:=hT.hi
 have hlr:=hT.len
 obtain ⟨e,he⟩:=lv hT ps.length (Nat.le_refl _)
 have hkey:∀ i:Int,0<=i->i<(as.length:Int)->∃ v,Up ps (bo ps (aT as i).one (aT as i).other) (v++[0])/\-((cx ps e as).getD i.toNat 0)=0 - (v.length:Int):=λi i0 i1=>by
  have ok:=(dC ha i0 i1).ends
  obtain ⟨w,hw,_⟩:=bS hT ok.a0 ok.b0 ok.a1 ok.b1
  have hlo:=hw.low hT ok.a0 ok.b0 ok.a1 ok.b1
  have a1:=ok.a1
  obtain ⟨u,hu⟩:=Up.all hT _ (bo ps (aT as i).one (aT as i).other) rfl hlo.1 (by omega)
  have h3:=he.up _ u hlo.1 (by omega) hu
  obtain ⟨v,rfl⟩:=hu.split
  refine ⟨v,hu,?_⟩
  have h5:(cx ps e as).getD i.toNat 0=e.getD (bo ps (aT as i).one (aT as i).other).toNat 0:=by
   unfold cx aT
   rw [List.getD_eq_getElem?_getD,List.getElem?_map,List.getD_eq_getElem?_getD (l:=as),List.getElem?_eq_getElem (l:=as) (by omega)]
   rfl
  rw [List.length_append,show ([0]:List Int).length=1 from rfl] at h3
  rw [h5]
  omega
 refine ⟨by rw [a6]; omega,by rw [a6]; omega,(λz=>-((cx ps e as).getD z.toNat 0)),λi i0 i1 k hk=>?_,λout hout=>?_⟩
 ·rw [a6] at i1
  obtain ⟨v,hv,ev⟩:=hkey i i0 i1
  have hat:=oT (as:=as) (k:=i) i0 i1
  have ok:=(dC ha i0 i1).ends
  refine ba hat ?_
  refine ⟨ps,rs,(aT as i).one,(aT as i).other,_,v,rfl,hT,ok.a0,ok.a1,ok.b0,ok.b1,hv,?_⟩
  have hk:k (.int (-((cx ps e as).getD i.toNat 0))):=hk
  rw [ev] at hk
  exact hk
 rw [a6,Int.toNat_natCast] at hout
 have ho:cR ps as out:=⟨e,he,hout⟩
 obtain ⟨hol,hor⟩:=ho.mem
 have hon:=ho.ord.1
 have hwl:(aU ps as).length=as.length:=by unfold aU; rw [List.length_map]
 refine ⟨aI _,?_⟩
 refine ⟨⟨by rw [List.length_map]; omega,by rw [List.length_map]; omega,by rw [List.length_map]; simp; omega⟩,?_⟩
 rw [List.length_map,ju,Int.toNat_natCast,hZ]
 refine ⟨aI _,?_⟩
 refine ⟨λi ρ=>∃ (S:FC) (v7 v8 v9:Option D),ρ=[some (aL ps rs),some (a8 as),some (eK (aU ps as)),some (ae out),some (ae S.left),some (ae S.flow),some (ae S.row),v7,v8,v9,none]/\FillC ps rs as (out.take i) S,⟨⟨rs,List.replicate as.length 0,[]⟩,_,_,_,rfl,.nil⟩,?_,?_⟩
 ·rintro i d ρ hd ⟨S,v7,v8,v9,rfl,hS⟩
  obtain ⟨z,hz,rfl⟩:=di hd
  have hil:i<out.length:=(List.getElem?_eq_some_iff.mp hz).1
  have hzb:=hor z (List.mem_of_getElem? hz)
  have hF:=hS.fi hT ha (hon.sublist (List.take_sublist _ _))
  have hok:=dC ha hzb.1 hzb.2
  have hwy:=ly (ps:=ps) hzb.1 hzb.2
  have hwm:∀ t∈aG ps (aT as z),0<t/\t<=(ps.length:Int):=λt ht=>gj hT hok.ends ht
  have hw46:(aG ps (aT as z)).length<=46:=fN hT hok.ends
  have hll:=hF.ll
  have hfl:=hF.fl
  refine ba hwy ?_
  refine ⟨by rw [ar]; omega,?_⟩
  refine bB (oo S.left) ?_ ?_
  ·intro d hd k hk
   obtain ⟨t,ht,rfl⟩:=bv hd
   have:=hwm t ht
   refine ba (bu (by omega) (by omega)) ?_
   exact hk
  rw [ia]
  refine ⟨_,rfl,by rw [List.length_map]; exact kX hT hok.ends,λm hm hmin=>?_⟩
  obtain ⟨t0,ht0,et0⟩:=List.mem_map.mp hm
  have hmin2:∀ t∈aG ps (aT as z),m<=S.left.getD (t - 1).toNat 0:=λt ht=>hmin _ (List.mem_map.mpr ⟨t,ht,rfl⟩)
  have hflz:(S.flow.set z.toNat m).getD z.toNat 0=m:=by rw [List.getD_eq_getElem?_getD,List.getElem?_set_self (by omega)]; rfl
  have hfll:(S.flow.set z.toNat m).length=as.length:=by rw [List.length_set]; exact hfl
  refine ⟨rfl,?_⟩
  show (match ixN (S.flow.map D.int).length z with | some _=>_ | none=>False)
  rw [ar,gk hzb.1 (by omega)]
  refine ⟨aI _,?_⟩
  refine ba hwy ?_
  refine ⟨λi ρ=>∃ v9,ρ=[some (aL ps rs),some (a8 as),some (eK (aU ps as)),some (ae out),some (ae (a7 S.left ((aG ps (aT as z)).take i) (-m))),some (ae (S.flow.set z.toNat m)),some (ae S.row),some (.int z),some (ae S.left),v9,none],?_,?_,?_⟩
  ·refine ⟨v9,?_⟩
   show _=[_,_,_,_,some (ae S.left),_,_,_,_,_,_]
   rw [<- eC]; rfl
  ·rintro j d ρ hd ⟨v9,rfl⟩
   obtain ⟨t,ht,rfl⟩:=di hd
   have htb:=hwm t (List.mem_of_getElem? ht)
   have hlen:(a7 S.left ((aG ps (aT as z)).take j) (-m)).length=S.left.length:=cY _ _ _
   refine ba (bu (by omega) (by omega)) ?_
   refine ba (bu hzb.1 (by omega)) ?_
   rw [hflz]
   refine ⟨rfl,?_⟩
   show (match ixN ((a7 S.left ((aG ps (aT as z)).take j) (-m)).map D.int).length (t - 1) with | some _=>_ | none=>False)
   rw [ar,gk (by omega) (by omega)]
   refine ⟨some (.int t),?_⟩
   rw [List.take_add_one,ht]
   show _=[_,_,_,_,some (ae (a7 S.left (_++[t]) (-m))),_,_,_,_,_,_]
   rw [ik,gX,<- Int.sub_eq_add_neg,<- eC (a7 S.left ((aG ps (aT as z)).take j) (-m))]; rfl
  ·rintro ρ ⟨v9,rfl⟩
   rw [ar,List.take_length]
   have hll2:(a7 S.left (aG ps (aT as z)) (-m)).length=ps.length:=by rw [cY]; exact hll
   refine ⟨⟨by rw [ar,hll2]; omega,by rw [ar,hll2]; omega⟩,?_⟩
   refine ⟨by rw [df,ar,hll2]; omega,?_⟩
   refine bM (nfF (a7 S.left (aG ps (aT as z)) (-m)) S.left) ?_ ?_
   ·intro d hd k hk
    obtain ⟨j,hj⟩:=List.mem_iff_getElem?.mp hd
    obtain ⟨hj2,rfl⟩:=gm hj
    have hj3:j<ps.length:=by rw [ar,hll2] at hj2; omega
    rw [Int.zero_add] at hk ⊢
    have e:nfF (a7 S.left (aG ps (aT as z)) (-m)) S.left (.int (j:Int))=if (decide ((a7 S.left (aG ps (aT as z)) (-m)).getD (j:Int).toNat 0=0)&&decide (0<S.left.getD (j:Int).toNat 0))=true then some (.int ((j:Int) + 1)) else none:=rfl
    rw [e] at hk
    refine ba (bu (by omega) (by omega)) ?_
    refine (cq (c:=decide ((a7 S.left (aG ps (aT as z)) (-m)).getD (j:Int).toNat 0=0)=true) (λc=>?_) (λc=>?_))
    ·rw [c,Bool.true_and] at hk
     refine ba (bu (by omega) (by omega)) ?_
     refine (cq (c:=decide (0<S.left.getD (j:Int).toNat 0)=true) (λc2=>?_) (λc2=>?_))
     ·rw [if_pos c2] at hk; exact hk
     ·rw [if_neg c2] at hk; exact hk
    ·rw [Bool.eq_false_iff.mpr c,Bool.false_and] at hk
     exact hk
   have er:gZ 0 (((a7 S.left (aG ps (aT as z)) (-m)).map D.int).length:Int).toNat=((List.range ps.length).map λ(j:Nat)=>(j:Int)).map D.int:=by
    rw [ar,hll2,Int.toNat_natCast]
    unfold gZ
    rw [List.map_map]
    exact List.map_congr_left λj _=>by show D.int (0 + (j:Int))=D.int j; rw [Int.zero_add]
   have enf:=pK (m:=m) hT ha hF hzb.1 hzb.2
   have ew:a9 ps as z=aG ps (aT as z):=rfl
   rw [ew] at enf
   rw [er,lc,enf]
   have hr23:=dR hF
   refine ⟨?_,by rw [<- List.map_append]; exact aI _,?_⟩
   ·rw [ar,ar]
    have:=List.length_filter_le (λt=>decide ((a7 S.left (aG ps (aT as z)) (-m)).getD (t - 1).toNat 0=0) && !S.row.contains t) (aG ps (aT as z))
    omega
   refine ⟨dL ps as S z m,some (.int z),some (ae S.left),v9,?_,?_⟩
   ·show _=[_,_,_,_,some (ae (a7 S.left (aG ps (aT as z)) (-m))),some (ae (S.flow.set z.toNat m)),some (ae (S.row++(aG ps (aT as z)).filter λt=>decide ((a7 S.left (aG ps (aT as z)) (-m)).getD (t - 1).toNat 0=0) && !S.row.contains t)),some (.int z),_,_,_]
    unfold ae
    rw [List.map_append]; rfl
   ·rw [List.take_add_one,hz]
    exact .snoc hS hzb.1 hzb.2 ⟨t0,ht0,et0⟩ hmin2
 ·rintro ρ ⟨S,v7,v8,v9,rfl,hS⟩
  rw [ar,List.take_length] at hS
  have hF:=hS.fi hT ha hon
  have hr23:=dR hF
  obtain ⟨w1,w2⟩:=k9 hT ha
  refine ⟨aI _,?_⟩
  refine ⟨aI _,?_⟩
  refine ⟨λi ρ=>∃ v9,ρ=[some (aL ps rs),some (a8 as),some (eK (aU ps as)),some (ae out),some (ae S.left),some (ae S.flow),some (ae S.row),v7,v8,v9,some (ae ((S.row.reverse.take i).foldl (bK (aU ps as)) S.row))]/\ThJ S.row i ((S.row.reverse.take i).foldl (bK (aU ps as)) S.row),⟨v9,rfl,hF.rn,λt ht=>List.mem_reverse.mp ht,Nat.le_refl _⟩,?_,?_⟩
  ·rintro i d ρ hd ⟨v9,rfl,hJ⟩
   obtain ⟨z,hz,rfl⟩:=di (ns:=S.row.reverse) (by rw [List.map_reverse]; exact hd)
   have es:(S.row.reverse.take (i + 1)).foldl (bK (aU ps as)) S.row=bK (aU ps as) ((S.row.reverse.take i).foldl (bK (aU ps as)) S.row) z:=by rw [List.take_add_one,hz,List.foldl_append]; rfl
   generalize (S.row.reverse.take i).foldl (bK (aU ps as)) S.row=cu at hJ es
   obtain ⟨j1,j2,j3⟩:=hJ.step (ws:=aU ps as) hF.rn hz
   have hcl:=hJ.len
   refine ⟨by rw [ar]; omega,?_⟩
   refine bM (neF z) ?_ ?_
   ·intro d hd k hk
    obtain ⟨x,hx,rfl⟩:=bv hd
    have e:neF z (.int x)=if (!decide (x=z))=true then some (.int x) else none:=rfl
    rw [e] at hk
    refine (cq (c:=(!decide (x=z))=true) (λc=>?_) (λc=>?_))
    ·rw [if_pos c] at hk; exact hk
    ·rw [if_neg c] at hk; exact hk
   rw [iH]
   refine ⟨aU ps as,_,rfl,w1,w2,?_⟩
   have ef:bK (aU ps as) cu z=if dj (aU ps as) (cu.filter λx=>!decide (x=z))=true then cu.filter λx=>!decide (x=z) else cu:=rfl
   refine (cq (c:=dj (aU ps as) (cu.filter λx=>!decide (x=z))=true) (λc=>?_) (λc=>?_))
   ·refine ⟨cu,z,rfl,rfl,j1,?_⟩
    refine ⟨some (.int z),?_,by rw [es]; exact j3⟩
    rw [es,ef,if_pos c,<- j2]; rfl
   ·refine ⟨some (.int z),?_,by rw [es]; exact j3⟩
    rw [es,ef,if_neg c]; rfl
  ·rintro ρ ⟨v9,rfl,hJ⟩
   rw [show ((S.row.map D.int).reverse).length=S.row.reverse.length by simp,List.take_length]
   rw [show ((S.row.map D.int).reverse).length=S.row.reverse.length by simp,List.take_length] at hJ
   have hcl:=hJ.len
   refine ⟨_,rfl,by omega,?_⟩
   first | exact q0 out S ho hS | exact ⟨aI _,q0 out S ho hS⟩
end
end K59
namespace K59
open PySem L2
section
variable {P:Program} {w:World} {K:PySem.W.Frag} {mg:Str->Option Value} {base:Heap} {A:Adr}
def tR:SpD:=λds q=>∃ fl cu,ds=[.tup [ae fl,ae cu],.tup [ae fl,ae cu]]/\fl.length<=400/\cu.length<=400/\q (.bl true) []
theorem rB (fl cu:List Int):lay 2 (.tup [ae fl,ae cu])=true:=by rw [lay,List.all_cons,List.all_cons,eh 0,eh 0]; rfl
theorem iD (T:Txt K mg A) (hB:TabB base mg A.tc A.tP tqS/\TabB base mg A.td A.tQ tqT):FnOk P w K mg base CX0 1 A.f_q29 A.d_q29 ["_law_found","_law_due_here"] (a_ [false,false] false (tR)):=by
 have S:=rM
 refine fnD T.t_q29.F S ⟨[false,false],[false,false],false⟩ _ ?hl rfl rfl λcdv Ar outer s H E hr=>⟨_,(ac (bx (QW.qt (fU (bz (bg (cN rfl T.z_isinstance aP (aa 0) (bW (v:=.ty "tuple") rfl T.z_tuple gv rfl)))) (fU (a4 (cV hr.units) dNe (aD aA dG rfl T.z_len bw (af (aa 0) aj)) ad (a5 _)) (eS (a4 (cV hr.units) dNe (aa 0) (aa 1) (a5 _)))))) (ag (aM dX)) aQ)
  (ac (bx (QW.qt (fU (bz (bg (cN rfl T.z_isinstance aP (aF aw dIx (aa 0) ad (λ_ _=>rfl)) (bW (v:=.ty "list") rfl T.z_list bE rfl)))) (eS (bz (bg (cN rfl T.z_isinstance aP (aF aw dIx (aa 0) ad (λ_ _=>rfl)) (bW (v:=.ty "list") rfl T.z_list bE rfl))))))) (ag (aM dX)) aQ)
  (ag (aM (gA (eN hr.units) dEq (br ["_law_one"] [] ⟨rfl,rfl,by decide +kernel,rfl,rfl,(by first | exact trivial | exact ⟨rfl,trivial⟩ | exact ⟨rfl,rfl,trivial⟩ | exact ⟨rfl,rfl,rfl,trivial⟩ | exact ⟨rfl,rfl,rfl,rfl,trivial⟩),rfl⟩ rfl (aR (qP j9 dCat (aF aw dIx (aa 0) ad (λ_ _=>rfl)) (aF aw dIx (aa 0) ad (λ_ _=>rfl)))) (aV 0) (λ_ _ _ _=>⟨(aO (i:=0) (show List.Nodup (["_law_one"]:List Str) by decide +kernel) rfl (Or.inl rfl)),(ce (bg (cN rfl T.z_isinstance aP (aa 0) (bW (v:=.ty "bool") rfl T.z_bool lq rfl)))),(aa 0)⟩)) (dD aj) (a5 _)))))),λds q h=>?_⟩
 case hl=>intro ds q h; obtain ⟨fl,cu,rfl,_⟩:=h; rfl
 obtain ⟨fl,cu,rfl,hf,hc,q0⟩:=h
 have hL:=rB fl cu
 refine ⟨gb hL (by decide),gb hL (by decide),?_⟩
 refine (cq (c:=(!eqD (.tup [ae fl,ae cu]) (.tup [ae fl,ae cu]))=true) (λc=>by rw [fj 2 _ hL] at c; cases c) (λ_=>?_))
 refine ⟨by rw [ar,ar]; omega,?_⟩
 refine ⟨by rw [List.length_append,ar,ar]; omega,?_⟩
 refine bM (λ_=>none) ?_ ?_
 ·intro d hd kk hk
  rw [<- List.map_append] at hd
  obtain ⟨x,hx,rfl⟩:=bv hd
  exact hk
 have en:∀ xs:List D,xs.filterMap (λ_:D=>(none:Option D))=[]:=λxs=>by induction xs with | nil=>rfl | cons x xs ih=>exact ih
 rw [en]
 refine ⟨fq [],fq [],?_⟩
 show q (.bl (eqD (ae []) (ae []))) []
 rw [eqDi,decide_eq_true rfl]; exact q0
theorem gH {ps rs:List Int} {a b:Int} (hT:Tree ps rs) (a0 : 0<=a) (b0 : 0<=b) (a1:a<=ps.length) (b1:b<=ps.length):ga ps b a=ga ps a b/\bo ps b a=bo ps a b:=by
 obtain ⟨ua,hua⟩:=Up.all hT _ a rfl a0 a1
 obtain ⟨ub,hub⟩:=Up.all hT _ b rfl b0 b1
 obtain ⟨va,rfl⟩:=hua.split
 obtain ⟨vb,rfl⟩:=hub.split
 refine ⟨?_,?_⟩
 ·rw [iZ hT a0 b0 a1 b1 hua hub,iZ hT b0 a0 b1 a1 hub hua]
  exact gB ((bt _).trans List.perm_append_comm) (bU _)
 ·obtain ⟨w,hw,_⟩:=bS hT a0 b0 a1 b1
  obtain ⟨w2,hw2,_⟩:=bS hT b0 a0 b1 a1
  obtain ⟨m1,m2,m3⟩:=hw.meet hT a0 b0 a1 b1 hua hub
  obtain ⟨n1,n2,n3⟩:=hw2.meet hT b0 a0 b1 a1 hub hua
  have:=m3 _ n2 n1
  have:=n3 _ m2 m1
  omega
def plA (a:Ask):Ask:=⟨a.other,a.one,1,1⟩
theorem o5 {ps:List Int} {as:List Ask} (h:AsksOk ps as):AsksOk ps (as.map plA):=⟨by rw [List.length_map]; exact h.len,λa m=>by
 obtain ⟨b,hb,rfl⟩:=List.mem_map.mp m
 have k:=(h.ok b hb).ends
 exact ⟨⟨k.b0,k.b1,k.a0,k.a1,λz=>k.ne z.symm⟩,by show (1:Int)<=1; decide,by show (1:Int)<=1000000; decide,by show (1:Int)<=1; decide,by show (1:Int)<=_; decide⟩⟩
theorem nX {ps rs:List Int} {as:List Ask} (hT:Tree ps rs) (ha:AsksOk ps as) {k:Int} (k0 : 0<=k) (k1:k<(as.length:Int)):a9 ps (as.map plA) k=a9 ps as k:=by
 have ok:=(dC ha k0 k1).ends
 have e:aT (as.map plA) k=plA (aT as k):=by
  unfold aT
  rw [List.getD_eq_getElem?_getD,List.getElem?_map,List.getD_eq_getElem?_getD,List.getElem?_eq_getElem (l:=as) (by omega)]; rfl
 show aG ps (aT (as.map plA) k)=aG ps (aT as k)
 rw [e]
 exact (gH hT ok.a0 ok.b0 ok.a1 ok.b1).1
theorem jR {ps rs:List Int} {as:List Ask} (hT:Tree ps rs) (ha:AsksOk ps as):aU ps (as.map plA)=aU ps as:=by
 unfold aU
 rw [List.map_map]
 refine List.map_congr_left λa m=>?_
 have ok:=(ha.ok a m).ends
 exact (gH hT ok.a0 ok.b0 ok.a1 ok.b1).1
theorem j5 {ps rs o:List Int} {as:List Ask} (hT:Tree ps rs) (ha:AsksOk ps as):cR ps (as.map plA) o->cR ps as o
 | ⟨e,he,h⟩=>⟨e,he,by
  have em:cx ps e (as.map plA)=cx ps e as:=by
   unfold cx
   rw [List.map_map]
   refine List.map_congr_left λa m=>?_
   have ok:=(ha.ok a m).ends
   show e.getD (bo ps a.other a.one).toNat 0=_
   rw [(gH hT ok.a0 ok.b0 ok.a1 ok.b1).2]
  rw [em,List.length_map] at h
  exact h⟩
theorem j6 {ps rs o:List Int} {as:List Ask} {S:FC} (hT:Tree ps rs) (ha:AsksOk ps as) (h:FillC ps rs (as.map plA) o S):FillC ps rs as o S:=by
 induction h with
 | nil=>rw [List.length_map]; exact .nil
 | @snoc X S k m h k0 k1 hm hl ih =>
  rw [List.length_map] at k1
  have e:=nX hT ha k0 k1
  rw [e] at hm hl
  have e2:dL ps (as.map plA) S k m=dL ps as S k m:=by unfold dL; rw [e]
  rw [e2]
  exact .snoc ih k0 k1 hm hl
theorem lx {ps rs o:List Int} {as:List Ask} {S:FC} (hT:Tree ps rs) (ha:AsksOk ps as) (ho:cR ps as o) (h:FillC ps rs as o S):S.flow.length<=30/\(bF (iu (aU ps as) S.row)).length<=30:=by
 have hF:=h.fi hT ha ho.ord.1
 have:=dR hF
 have:=hF.fl
 have:=ha.len
 have:=hT.hi
 have:=fv (aU ps as) S.row.reverse S.row
 rw [il]
 unfold iu
 omega
end
end K59
namespace K59
open PySem L2
section
variable {P:Program} {w:World} {K:PySem.W.Frag} {mg:Str->Option Value} {base:Heap} {A:Adr}
structure ListOk (ps:List Int) (n:Nat) (as:List Ask):Prop where
 len:as.length<=n
 ok:∀ a∈as,AskOk ps a
theorem ListOk.asks {ps:List Int} {n:Nat} {as:List Ask} (h:ListOk ps n as) (hn:n<=30):AsksOk ps as:=⟨Nat.le_trans h.len hn,λa m=>h.ok a m⟩
theorem ListOk.more {ps:List Int} {k:Nat} {as:List Ask} {a:Ask} (h:ListOk ps k as) (ha:AskOk ps a):ListOk ps (k + 1) (as++[a]):=⟨by rw [List.length_append]; exact Nat.succ_le_succ h.len,λx hx=>(List.mem_append.mp hx).elim (h.ok x) λh=>by rw [List.mem_singleton.mp h]; exact ha⟩
theorem m_ {n:Nat} (h : 1<=n):ixN n (-1)=some (n - 1):=by
 unfold ixN
 rw [if_neg (by omega),if_pos (by omega)]
 exact congrArg some (by omega)
theorem Tree.bent {ps rs:List Int} (h:Tree ps rs):Tree (ps.set (ps.length - 1) 0) rs.reverse:=by
 refine ⟨by rw [List.length_set,List.length_reverse]; exact h.len,by rw [List.length_set]; exact h.lo,by rw [List.length_set]; exact h.hi,λi x e=>?_,λi x e=>?_⟩
 ·rw [List.getElem?_set] at e
  split at e
  ·split at e
   ·cases e; omega
   ·cases e
  ·exact h.par i x e
 ·obtain ⟨j,hj⟩:=List.getElem?_of_mem (List.mem_reverse.mp (List.mem_of_getElem? e))
  exact h.room j x hj
theorem AsksOk.set {ps:List Int} {as:List Ask} {n:Nat} (h:AsksOk ps as):AsksOk (ps.set n 0) as:=⟨h.len,λa m=>⟨⟨(h.ok a m).ends.a0,by rw [List.length_set]; exact (h.ok a m).ends.a1,(h.ok a m).ends.b0,by rw [List.length_set]; exact (h.ok a m).ends.b1,(h.ok a m).ends.ne⟩,(h.ok a m).s0,(h.ok a m).s1,(h.ok a m).w0,(h.ok a m).w1⟩⟩
def swF:D->D
 | .tup [.int a,.int b,_,_]=>.tup [.int b,.int a,.int 1,.int 1]
 | d=>d
theorem qx (as:List Ask):(as.map dg).map swF=(as.map plA).map dg:=by rw [List.map_map,List.map_map]; rfl
theorem sv (T:Txt K mg A) (hB:TabB base mg A.tc A.tP tqS/\TabB base mg A.td A.tQ tqT):FnOk P w K mg base CX0 10 A.f_law A.d_law ["_law_script"] (a_ [false] false (oX K)):=by
 have S:=rA
 refine fnD T.t_law.F S ⟨[false],[false,false,false,true,false,false,false,true,true,false],false⟩ _ ?hl rfl rfl λcdv Ar outer s H E hr=>⟨_,(ac (aS (i:=1) S.nd rfl (Or.inr rfl) (QF.qe (aJ (sK T hB) hr T.t_q11 (qk_t (aJ (jY T hB) hr T.t_q28 (aq (aa 0) (aq ad am))) (aq ad am)))))
  (ac (aS (i:=2) S.nd rfl (Or.inl rfl) (iW (af (aa 1) (af (QF.qe (aJ (sZ T hB) hr T.t_q20 (qk_t (aJ (jY T hB) hr T.t_q28 (aq (aa 0) (aq ad am))) (aq (aD aA dG rfl T.z_len bw (af (aa 1) aj)) (aq ad am))))) aj))))
  (ac (d6 (la (i:=3) S.nd rfl (Or.inl rfl) (nC (be (QF.qm (dO aj)) (be (QF.qm (dO aj)) dn)))))
  (ac (cn PassesOwn.never rfl (g9 rfl T.z_range (af ad (af (aD (c8 rfl) mR rfl T.z_min eO (af (aD aA dG rfl T.z_len bw (af (aa 0) aj)) (af ad aj))) aj))) (aK (i:=4) S.nd rfl (Or.inl rfl)) (ag (kT (i:=3) (gN gQ (qz_op cT (q_ 4) eM)) (ao (sX T hB) hr T.t_q33 (qk_t (aJ (jY T hB) hr T.t_q28 (aq (aa 0) (aq (aa 4) am))) (aq (aD aA dG rfl T.z_len bw (af (aa 1) aj)) am))))))
  (ac (qC (i:=3) PassesOwn.never rfl rfl (aK (i:=5) S.nd rfl (Or.inl rfl)) (ac (aS (i:=6) S.nd rfl (Or.inl rfl) (QF.qe (aJ (nF T hB) hr T.t_q34 (aq (aa 2) (aq (aa 5) (aq (br ["_law_ask_here"] [1] ⟨rfl,rfl,by decide +kernel,rfl,rfl,(by first | exact trivial | exact ⟨rfl,trivial⟩ | exact ⟨rfl,rfl,trivial⟩ | exact ⟨rfl,rfl,rfl,trivial⟩ | exact ⟨rfl,rfl,rfl,rfl,trivial⟩),rfl⟩ rfl (aR (aa 5)) (aV 0) (λ_ _ _ _=>⟨(aO (i:=0) (show List.Nodup (["_law_ask_here","_law_parents_here"]:List Str) by decide +kernel) rfl (Or.inl rfl)),cb,(QF.qe (aJ (oV T hB) hr T.t_q35 (aq (aa 1) (aq (aa 0) am))))⟩)) am))))))
  (ac (la (i:=7) S.nd rfl (Or.inr rfl) (nC (be (gz (be (QF.qm (b9 bd fY rfl T.z_list bE (af (aF aw dIx (aa 2) ad (λ_ _=>rfl)) aj))) (be (QF.qm (b9 bd fY rfl T.z_list bE (af (aF aw dIx (aa 2) ad (λ_ _=>rfl)) aj))) dn))) (be (QF.qm (b9 bd fY rfl T.z_list bE (af (aa 5) aj))) dn))))
  (ac (bR (i:=8) S.nd rfl (Or.inl rfl) (QF.bor [7] (aJ (kP T hB) hr T.t_q2 (aq (aF aw dIx (aa 7) ad (λ_ _=>rfl)) (aq (aF aw dIx (aa 7) ad (λ_ _=>rfl)) am)))))
  (ac (d6 (bx (QT.bor [7,8] (QW.qt (fU (bz (bg (ao (iD T hB) hr T.t_q29 (aq (aa 8) (aq (aa 6) am))))) (eS (a4 (cV hr.units) dNe (aa 7) (dD (af (aa 2) (af (aa 5) aj))) (a5 _)))))) (ag (aM dX)) aQ))
  (ac (kT (i:=8) (gN gQ eM) ad)
  (ac (d6 (bx (QT.bor [8] (a4 (cV hr.units) dNe (aF aw dIx (aa 8) ad (λ_ _=>rfl)) (aF aw dIx (aa 6) ad (λ_ _=>rfl)) (a5 _))) (ag (aM dX)) aQ))
  (ac (pQ (i:=8) (gN gQ eM))
  (ac (eR (i:=9) ["_law_one","_law_other","_law_size","_law_worth"] [] ⟨rfl,rfl,by decide +kernel,rfl,rfl,(by first | exact trivial | exact ⟨rfl,trivial⟩ | exact ⟨rfl,rfl,trivial⟩ | exact ⟨rfl,rfl,rfl,trivial⟩ | exact ⟨rfl,rfl,rfl,rfl,trivial⟩),rfl⟩ rfl S.nd rfl (Or.inl rfl) (aR (aa 5)) (rD (e7 (aV 0) (e7 (aV 1) (e7 (aV 2) (e7 (aV 3) pE)))) (au (au (au (au bh))))) (λ_ _ _ _=>⟨(jV rfl (cM (aO (i:=0) (show List.Nodup (["_law_one","_law_other","_law_size","_law_worth"]:List Str) by decide +kernel) rfl (Or.inl rfl)) (cM (aO (i:=1) (show List.Nodup (["_law_one","_law_other","_law_size","_law_worth"]:List Str) by decide +kernel) rfl (Or.inl rfl)) (cM (aO (i:=2) (show List.Nodup (["_law_one","_law_other","_law_size","_law_worth"]:List Str) by decide +kernel) rfl (Or.inl rfl)) (cM (aO (i:=3) (show List.Nodup (["_law_one","_law_other","_law_size","_law_worth"]:List Str) by decide +kernel) rfl (Or.inl rfl)) iC))))),cb,(iW (af (aa 1) (af (aa 0) (af ad (af ad aj)))))⟩))
  (ac (d6 (bx (bz (bg (ao (iD T hB) hr T.t_q29 (aq (QF.qe (aJ (kP T hB) hr T.t_q2 (aq (aa 2) (aq (aa 9) am)))) (aq (aa 6) am))))) (ag (aM dX)) aQ))
  (ac (d6 (bx (bz (bg (ao (iD T hB) hr T.t_q29 (aq (QF.qe (aJ (kP T hB) hr T.t_q2 (aq (aa 2) (aq (aa 5) am)))) (aq (aa 6) am))))) (ag (aM dX)) aQ))
  (ac (qd (i:=7) ad (gN (gN gQ eM) eM) (rq (c:=default)))
  (ac (d6 (pJ (i:=7) (gN (gN gQ eM) eM)))
  (ac (aS (i:=6) S.nd rfl (Or.inl rfl) (QF.qe (QF.bor [7] (aJ (nF T hB) hr T.t_q34 (aq (aF aw dIx (aa 7) ad (λ_ _=>rfl)) (aq (aa 5) (aq (br ["_law_ask_here"] [7] ⟨rfl,rfl,by decide +kernel,rfl,rfl,(by first | exact trivial | exact ⟨rfl,trivial⟩ | exact ⟨rfl,rfl,trivial⟩ | exact ⟨rfl,rfl,rfl,trivial⟩ | exact ⟨rfl,rfl,rfl,rfl,trivial⟩),rfl⟩ rfl (aR (aa 5)) (aV 0) (λ_ _ _ _=>⟨(aO (i:=0) (show List.Nodup (["_law_ask_here","_law_handed"]:List Str) by decide +kernel) rfl (Or.inl rfl)),cb,(QF.qe (aJ (oV T hB) hr T.t_q35 (aq (aF aw dIx (aF aw dIx (aa 1) ad (λ_ _=>rfl)) ad (λ_ _=>rfl)) (aq (aa 0) am))))⟩)) am)))))))
  (ag (d6 (bx (QT.bor [7] (bz (bg (ao (iD T hB) hr T.t_q29 (aq (QF.qe (aJ (kP T hB) hr T.t_q2 (aq (aF aw dIx (aa 7) ad (λ_ _=>rfl)) (aq (aF aw dIx (aa 7) ad (λ_ _=>rfl)) am)))) (aq (aa 6) am)))))) (ag (aM dX)) aQ)))))))))))))))))
  (ag (aM dX))))))),λds q h=>?_⟩
 case hl=>intro ds q h; obtain ⟨φ,ns,rfl,_⟩:=h; rfl
 obtain ⟨φ,ns,rfl,hφ,hl,q0⟩:=h
 refine ⟨φ,ns,0,rfl,hφ,by decide,by decide,λc m h0=>?_⟩
 refine ⟨c,m,23,rfl,h0,by decide,by decide,λps c1 m1 hP _ h1=>?_⟩
 have hi:=hP.hi
 refine ⟨φ,ns,1,rfl,hφ,by decide,by decide,λc4 m4 h4=>?_⟩
 refine ⟨c4,m4,ps.length,1,by rw [ar],h4,hP.lo,hP.hi,by decide,by decide,λrs c5 m5 hR h5=>?_⟩
 have hT:=hP.tree hR (by decide)
 have hlo:=hP.lo
 refine ⟨λρ=>ρ=[some (.scr φ ns),some (ae ps),some (aL ps rs),some (.lst [a8 [],a8 []]),none,none,none,none,none,none],⟨rfl,rfl,rfl⟩,?_⟩
 rintro ρ rfl
 refine ⟨hφ,?_⟩
 refine ⟨⟨by decide,by decide,by split <;> omega,by split <;> omega⟩,?_⟩
 refine ⟨λi ρ=>∃ as0 as1 v4,ρ=[some (.scr φ ns),some (ae ps),some (aL ps rs),some (.lst [a8 as0,a8 as1]),v4,none,none,none,none,none]/\ListOk ps ((i + 1) / 2) as0/\ListOk ps (i / 2) as1,⟨[],[],_,rfl,⟨Nat.zero_le _,λa h=>by cases h⟩,⟨Nat.zero_le _,λa h=>by cases h⟩⟩,?_,?_⟩
 ·rintro i d ρ hd ⟨as0,as1,v4,rfl,hA,hB⟩
  obtain ⟨hi2,rfl⟩:=gm hd
  have hi3:i<60:=by revert hi2; split <;> omega
  refine ⟨_,rfl,?_⟩
  refine ⟨2 + (i:Int),rfl,(by decide:(0:Int)<2),?_⟩
  by_cases hpar:i % 2=0
  ·refine ⟨0,a8 as0,by show ixN 2 ((2 + (i:Int)) % 2)=some 0; rw [show (2 + (i:Int)) % 2=0 by omega]; rfl,rfl,?_⟩
   refine ⟨_,_,rfl,rfl,?_⟩
   refine ⟨φ,ns,2 + (i:Int),rfl,hφ,by omega,by omega,λc6 m6 h6=>?_⟩
   refine ⟨c6,m6,ps,by rw [ar],h6,hP,λa c7 m7 ha h7=>?_⟩
   have hl0:=hA.len
   refine ⟨rfl,by rw [a6]; omega,?_⟩
   refine ⟨as0++[a],as1,some (.int (2 + (i:Int))),?_,by rw [show (i + 1 + 1) / 2=(i + 1) / 2 + 1 by omega]; exact hA.more ha,by rw [show (i + 1) / 2=i / 2 by omega]; exact hB⟩
   show _=[_,_,_,some (D.lst [D.lst ((as0++[a]).map dg),_]),_,_,_,_,_,_]
   rw [List.map_append]; rfl
  ·refine ⟨1,a8 as1,by show ixN 2 ((2 + (i:Int)) % 2)=some 1; rw [show (2 + (i:Int)) % 2=1 by omega]; rfl,rfl,?_⟩
   refine ⟨_,_,rfl,rfl,?_⟩
   refine ⟨φ,ns,2 + (i:Int),rfl,hφ,by omega,by omega,λc6 m6 h6=>?_⟩
   refine ⟨c6,m6,ps,by rw [ar],h6,hP,λa c7 m7 ha h7=>?_⟩
   have hl0:=hB.len
   refine ⟨rfl,by rw [a6]; omega,?_⟩
   refine ⟨as0,as1++[a],some (.int (2 + (i:Int))),?_,by rw [show (i + 1 + 1) / 2=(i + 1) / 2 by omega]; exact hA,by rw [show (i + 1) / 2=i / 2 + 1 by omega]; exact hB.more ha⟩
   show _=[_,_,_,some (D.lst [_,D.lst ((as1++[a]).map dg)]),_,_,_,_,_,_]
   rw [List.map_append]; rfl
 ·rintro ρ ⟨as0,as1,v4,rfl,hA,hB⟩
  rw [df] at hA hB
  have hEA:=hA.asks (by split <;> omega)
  have hEB:=hB.asks (by split <;> omega)
  refine ⟨λi ρ=>∃ v4 v5 v6 v7 v8 v9,ρ=[some (.scr φ ns),some (ae ps),some (aL ps rs),none,v4,v5,v6,v7,v8,v9],⟨_,_,_,_,_,_,rfl⟩,?_,?_⟩
  ·rintro i d ρ hd ⟨v4,v5,v6,v7,v8,v9,rfl⟩
   obtain ⟨as,rfl,ha⟩:∃ as,d=a8 as/\AsksOk ps as:=by
    have hm:=List.mem_of_getElem? hd
    rcases List.mem_cons.mp hm with rfl | hm
    ·exact ⟨as0,rfl,hEA⟩
    ·rw [List.mem_singleton.mp hm]; exact ⟨as1,rfl,hEB⟩
   have hal:=ha.len
   have hlr:=hT.len
   refine ⟨by rw [a6]; omega,?_⟩
   refine bB (wayF ps) ?_ ?_
   ·intro d hd k hk
    obtain ⟨a,hm,rfl⟩:=List.mem_map.mp hd
    have he:=(ha.ok a hm).ends
    exact ⟨ps,rs,a.one,a.other,_,rfl,hT,he.a0,he.a1,he.b0,he.b1,hk⟩
   rw [gu]
   refine ⟨ps,rs,as,rfl,hT,ha,λo S ho hS=>?_⟩
   obtain ⟨hf30,hc30⟩:=lx hT ha ho hS
   refine ⟨aI _,aI _,lO _,?_⟩
   refine ⟨ps,rs,as,rfl,hT,ha,λo1 S1 ho1 hS1=>?_⟩
   obtain rfl:=fo hT ha ho ho1
   obtain rfl:=fb hS hS1
   generalize hcu:bF (iu (aU ps as) S.row)=cu at hc30
   generalize hfl:S.flow=fl at hf30
   refine ⟨λρ=>∃ v4,ρ=[some (.scr φ ns),some (ae ps),some (aL ps rs),none,v4,some (a8 as),some (.tup [ae fl,ae cu]),some (.lst [aL ps rs,a8 as]),some (.tup [ae fl,ae cu]),v9],?_,?_⟩
   ·refine ⟨fl,cu,rfl,by omega,by omega,?_⟩
    have hL:lay 3 (.lst [aL ps rs,a8 as])=true:=by rw [lay,List.all_cons,List.all_cons,lQ 0,lL 0]; rfl
    refine ⟨gb hL (by decide),gb hL (by decide),?_⟩
    refine (cq (c:=(!eqD (.lst [aL ps rs,a8 as]) (.lst [aL ps rs,a8 as]))=true) (λc=>by rw [fj 3 _ hL] at c; cases c) (λ_=>⟨_,rfl⟩))
   rintro ρ ⟨v4,rfl⟩
   refine ⟨_,rfl,0,ae fl,rfl,rfl,_,_,rfl,rfl,rfl,by rw [ar]; omega,?_⟩
   refine ⟨λρ=>∃ v4 x,ρ=[some (.scr φ ns),some (ae ps),some (aL ps rs),none,v4,some (a8 as),some (.tup [ae fl,ae cu]),some (.lst [aL ps rs,a8 as]),some (.tup [x,ae cu]),v9],?_,?_⟩
   ·refine ⟨fq cu,fq cu,?_⟩
    refine (cq (c:=(!eqD (ae cu) (ae cu))=true) (λc=>by rw [eqDi,decide_eq_true rfl] at c; cases c) (λ_=>⟨v4,D.lst (fl.map D.int++[D.int 0]),rfl⟩))
   rintro ρ ⟨v4,x,rfl⟩
   refine ⟨_,rfl,1,ae cu,rfl,rfl,_,_,rfl,rfl,?_⟩
   refine ⟨by rw [a6]; omega,?_⟩
   refine bB swF ?_ ?_
   ·intro d hd k hk
    obtain ⟨a,hm,rfl⟩:=List.mem_map.mp hd
    exact hk
   rw [qx]
   refine ⟨λρ=>∃ v4 v8,ρ=[some (.scr φ ns),some (ae ps),some (aL ps rs),none,v4,some (a8 as),some (.tup [ae fl,ae cu]),some (.lst [aL ps rs,a8 as]),v8,some (a8 (as.map plA))],?_,?_⟩
   ·refine ⟨ps,rs,as.map plA,rfl,hT,o5 ha,λo2 S2 ho2 hS2=>?_⟩
    obtain rfl:=fo hT ha ho1 (j5 hT ha ho2)
    obtain rfl:=fb hS1 (j6 hT ha hS2)
    rw [jR hT ha,hcu,hfl]
    refine ⟨fl,cu,rfl,by omega,by omega,?_⟩
    exact ⟨_,_,rfl⟩
   rintro ρ ⟨v4,v8,rfl⟩
   refine ⟨λρ=>∃ v4 v6 v8 v9,ρ=[some (.scr φ ns),some (ae ps),some (aL ps rs),none,v4,some (a8 as),v6,some (.lst [aL ps rs,a8 as]),v8,v9],?_,?_⟩
   ·refine ⟨ps,rs,as,rfl,hT,ha,λo2 S2 ho2 hS2=>?_⟩
    obtain rfl:=fo hT ha ho1 ho2
    obtain rfl:=fb hS1 hS2
    rw [hcu,hfl]
    refine ⟨fl,cu,rfl,by omega,by omega,?_⟩
    exact ⟨_,_,_,_,rfl⟩
   rintro ρ ⟨v4,v6,v8,v9,rfl⟩
   refine ⟨rfl,_,rfl,0,aL ps rs,rfl,rfl,0,ae ps,rfl,rfl,_,_,ps.length - 1,rfl,rfl,by rw [ar]; exact m_ hlo,?_⟩
   refine ⟨λρ=>∃ v4 v6 v8 v9,ρ=[some (.scr φ ns),some (ae ps),some (aL ps rs),none,v4,some (a8 as),v6,some (.lst [aL (ps.set (ps.length - 1) 0) rs.reverse,a8 as]),v8,v9],?_,?_⟩
   ·refine ⟨_,rfl,0,_,rfl,rfl,1,ae rs,rfl,rfl,_,_,rfl,aI _,rfl,?_⟩
    refine ⟨v4,v6,v8,v9,?_⟩
    show _=[_,_,_,_,_,_,_,some (D.lst [D.tup [D.lst ((ps.set (ps.length - 1) 0).map D.int),D.lst (rs.reverse.map D.int)],_]),_,_]
    rw [List.map_set,List.map_reverse]; rfl
   rintro ρ ⟨v4,v6,v8,v9,rfl⟩
   have hT2:=Tree.bent hT
   have ha2:AsksOk (ps.set (ps.length - 1) 0) as:=AsksOk.set ha
   generalize ps.set (ps.length - 1) 0=ps2 at hT2 ha2
   generalize rs.reverse=rs2 at hT2
   refine ⟨by rw [a6]; omega,?_⟩
   refine bB (wayF ps2) ?_ ?_
   ·intro d hd k hk
    obtain ⟨a,hm,rfl⟩:=List.mem_map.mp hd
    have he:=(ha2.ok a hm).ends
    exact ⟨ps2,rs2,a.one,a.other,_,rfl,hT2,he.a0,he.a1,he.b0,he.b1,hk⟩
   rw [gu]
   refine ⟨ps2,rs2,as,rfl,hT2,ha2,λo3 S3 ho3 hS3=>?_⟩
   obtain ⟨hf3,hc3⟩:=lx hT2 ha2 ho3 hS3
   refine ⟨λρ=>∃ v4 v5 v6 v7 v8 v9,ρ=[some (.scr φ ns),some (ae ps),some (aL ps rs),none,v4,v5,v6,v7,v8,v9],?_,λρ' z=>z⟩
   refine ⟨ps2,rs2,as,rfl,hT2,ha2,λo4 S4 ho4 hS4=>?_⟩
   obtain rfl:=fo hT2 ha2 ho3 ho4
   obtain rfl:=fb hS3 hS4
   refine ⟨_,_,rfl,by omega,by omega,?_⟩
   exact ⟨_,_,_,_,_,_,rfl⟩
  ·rintro ρ ⟨v4,v5,v6,v7,v8,v9,rfl⟩
   exact q0
end
end K59
namespace K59
open PySem L2
theorem l3 {us:List Value} {n:Nat} (h:us.length=n + 1):∃ a r,us=a :: r/\r.length=n:=by
 cases us with
 | nil=>cases h
 | cons a r=>exact ⟨a,r,rfl,Nat.succ.inj h⟩
theorem us1 {fd:FuncData} {ps:List Str} (h:∀ a0,bindArgs fd ⟨[a0],[]⟩=pure (ps.zip [a0])):∀ us:List Value,us.length=1->bindArgs fd ⟨us,[]⟩=pure (ps.zip us):=λus hl=>by
 obtain ⟨a0,u0,rfl,h0⟩:=l3 hl
 cases List.eq_nil_of_length_eq_zero h0
 exact h a0
theorem us2 {fd:FuncData} {ps:List Str} (h:∀ a0 a1,bindArgs fd ⟨[a0,a1],[]⟩=pure (ps.zip [a0,a1])):∀ us:List Value,us.length=2->bindArgs fd ⟨us,[]⟩=pure (ps.zip us):=λus hl=>by
 obtain ⟨a0,u0,rfl,h0⟩:=l3 hl
 obtain ⟨a1,u1,rfl,h1⟩:=l3 h0
 cases List.eq_nil_of_length_eq_zero h1
 exact h a0 a1
theorem us3 {fd:FuncData} {ps:List Str} (h:∀ a0 a1 a2,bindArgs fd ⟨[a0,a1,a2],[]⟩=pure (ps.zip [a0,a1,a2])):∀ us:List Value,us.length=3->bindArgs fd ⟨us,[]⟩=pure (ps.zip us):=λus hl=>by
 obtain ⟨a0,u0,rfl,h0⟩:=l3 hl
 obtain ⟨a1,u1,rfl,h1⟩:=l3 h0
 obtain ⟨a2,u2,rfl,h2⟩:=l3 h1
 cases List.eq_nil_of_length_eq_zero h2
 exact h a0 a1 a2
theorem all_mk {l:PySem.W.OpenLaw} {w:World} {K:PySem.W.Frag} {h:Heap} {mg:Str->Option Value} {fa:Addr} (X:K.In h) (G:h.Ns mainGlobals mg) (hfa:mg "law" = some (.ref fa))
 {f_q15:Addr} {d_q15:FuncData} (h_q15:FH K "is_whole" oN f_q15 d_q15)
 {f_q7:Addr} {d_q7:FuncData} (h_q7:FH K "is_between" s_q7 f_q7 d_q7)
 {f_q1:Addr} {d_q1:FuncData} (h_q1:FH K "has_two_lists" s_q1 f_q1 d_q1)
 {f_q5:Addr} {d_q5:FuncData} (h_q5:FH K "look_at_tree" s_q5 f_q5 d_q5)
 {f_q25:Addr} {d_q25:FuncData} (h_q25:FH K "depths" my f_q25 d_q25)
 {f_q14:Addr} {d_q14:FuncData} (h_q14:FH K "is_place" oC f_q14 d_q14)
 {f_q13:Addr} {d_q13:FuncData} (h_q13:FH K "are_ends" mD f_q13 d_q13)
 {f_q26:Addr} {d_q26:FuncData} (h_q26:FH K "is_ask" n6 f_q26 d_q26)
 {f_q3:Addr} {d_q3:FuncData} (h_q3:FH K "look_at_asks" s_q3 f_q3 d_q3)
 {f_q4:Addr} {d_q4:FuncData} (h_q4:FH K "look_at_ends" s_q4 f_q4 d_q4)
 {f_q32:Addr} {d_q32:FuncData} (h_q32:FH K "climb" mU f_q32 d_q32)
 {f_q6:Addr} {d_q6:FuncData} (h_q6:FH K "way_between" s_q6 f_q6 d_q6)
 {f_q31:Addr} {d_q31:FuncData} (h_q31:FH K "way_of" nr f_q31 d_q31)
 {f_q22:Addr} {d_q22:FuncData} (h_q22:FH K "ways_of" nJ f_q22 d_q22)
 {f_q8:Addr} {d_q8:FuncData} (h_q8:FH K "meeting_of" s_q8 f_q8 d_q8)
 {f_q0:Addr} {d_q0:FuncData} (h_q0:FH K "deepest_first" s_q0 f_q0 d_q0)
 {f_q9:Addr} {d_q9:FuncData} (h_q9:FH K "parts_ways" s_q9 f_q9 d_q9)
 {f_q36:Addr} {d_q36:FuncData} (h_q36:FH K "serve" oK f_q36 d_q36)
 {f_q10:Addr} {d_q10:FuncData} (h_q10:FH K "fill_ties" oG f_q10 d_q10)
 {f_q21:Addr} {d_q21:FuncData} (h_q21:FH K "thinned" oh f_q21 d_q21)
 {f_q2:Addr} {d_q2:FuncData} (h_q2:FH K "flow_and_cut" s_q2 f_q2 d_q2)
 {f_q28:Addr} {d_q28:FuncData} (h_q28:FH K "_law_pool" nW f_q28 d_q28)
 {f_q30:Addr} {d_q30:FuncData} (h_q30:FH K "_law_take" md f_q30 d_q30)
 {f_q16:Addr} {d_q16:FuncData} (h_q16:FH K "_law_number" oF f_q16 d_q16)
 {f_q11:Addr} {d_q11:FuncData} (h_q11:FH K "_law_parents" mX f_q11 d_q11)
 {f_q20:Addr} {d_q20:FuncData} (h_q20:FH K "_law_rooms" mZ f_q20 d_q20)
 {f_q27:Addr} {d_q27:FuncData} (h_q27:FH K "_law_ends" nj f_q27 d_q27)
 {f_q37:Addr} {d_q37:FuncData} (h_q37:FH K "_law_up" oz f_q37 d_q37)
 {f_q35:Addr} {d_q35:FuncData} (h_q35:FH K "_law_way" ph f_q35 d_q35)
 {f_q33:Addr} {d_q33:FuncData} (h_q33:FH K "_law_ask" mW f_q33 d_q33)
 {f_q19:Addr} {d_q19:FuncData} (h_q19:FH K "_law_depth" oE f_q19 d_q19)
 {f_q17:Addr} {d_q17:FuncData} (h_q17:FH K "_law_parted" mm f_q17 d_q17)
 {f_q34:Addr} {d_q34:FuncData} (h_q34:FH K "_law_due" oe f_q34 d_q34)
 {f_q29:Addr} {d_q29:FuncData} (h_q29:FH K "_law_same" nY f_q29 d_q29)
 {f_law:Addr} {d_law:FuncData} (h_law:FH K "law" mo f_law d_law)
 {t_MOST_TIES:Tok} (c_MOST_TIES:PySem.W.nsIn K mainGlobals "MOST_TIES" = some (some (.int 23 t_MOST_TIES)))
 {t_MOST_ROOM:Tok} (c_MOST_ROOM:PySem.W.nsIn K mainGlobals "MOST_ROOM" = some (some (.int 1000000 t_MOST_ROOM)))
 {t_MOST_ASKS:Tok} (c_MOST_ASKS:PySem.W.nsIn K mainGlobals "MOST_ASKS" = some (some (.int 30 t_MOST_ASKS)))
 {t_MOST_SIZE:Tok} (c_MOST_SIZE:PySem.W.nsIn K mainGlobals "MOST_SIZE" = some (some (.int 1000000 t_MOST_SIZE)))
 {t_MOST_WORTH:Tok} (c_MOST_WORTH:PySem.W.nsIn K mainGlobals "MOST_WORTH" = some (some (.int 1000000000000 t_MOST_WORTH)))
 (z_all:PySem.W.nsIn K mainGlobals "all" = some none)
 (z_any:PySem.W.nsIn K mainGlobals "any" = some none)
 (z_bool:PySem.W.nsIn K mainGlobals "bool" = some none)
 (z_enumerate:PySem.W.nsIn K mainGlobals "enumerate" = some none)
 (z_int:PySem.W.nsIn K mainGlobals "int" = some none)
 (z_isinstance:PySem.W.nsIn K mainGlobals "isinstance" = some none)
 (z_len:PySem.W.nsIn K mainGlobals "len" = some none)
 (z_list:PySem.W.nsIn K mainGlobals "list" = some none)
 (z_max:PySem.W.nsIn K mainGlobals "max" = some none)
 (z_min:PySem.W.nsIn K mainGlobals "min" = some none)
 (z_range:PySem.W.nsIn K mainGlobals "range" = some none)
 (z_reversed:PySem.W.nsIn K mainGlobals "reversed" = some none)
 (z_sorted:PySem.W.nsIn K mainGlobals "sorted" = some none)
 (z_tuple:PySem.W.nsIn K mainGlobals "tuple" = some none)
 {tc tP:Addr} (hc:d_q0.code = .ref tc)
 {td tQ:Addr} (hd:d_q34.code = .ref td)
   :∃ fd:FuncData,(∀ (s:Shared) (v:Value),BindsTo s fd ⟨[v],[]⟩ [("_law_script",v)])/\∀ base:Heap,K.In base->base.Ns mainGlobals mg->TabB base mg tc tP tqS/\TabB base mg td tQ tqT->FnOk l.prog w K mg base CX0 10 fa fd ["_law_script"] (iS K):=by
 have e:=hfa.symm.trans (PySem.W.mg_of X G h_law.a)
 cases e
 have T:Txt K mg ⟨f_q15,_,f_q7,_,f_q1,_,f_q5,_,f_q25,_,f_q14,_,f_q13,_,f_q26,_,f_q3,_,f_q4,_,f_q32,_,f_q6,_,f_q31,_,f_q22,_,f_q8,_,f_q0,_,f_q9,_,f_q36,_,f_q10,_,f_q21,_,f_q2,_,f_q28,_,f_q30,_,f_q16,_,f_q11,_,f_q20,_,f_q27,_,f_q37,_,f_q35,_,f_q33,_,f_q19,_,f_q17,_,f_q34,_,f_q29,_,fa,_,tc,tP,td,tQ⟩:=⟨h_q15.ft X G λ_ _ _ _ _ _=>us1 λ_=>rfl,h_q7.ft X G λ_ _ _ _ _ _=>us3 λ_ _ _=>rfl,h_q1.ft X G λ_ _ _ _ _ _=>us1 λ_=>rfl,h_q5.ft X G λ_ _ _ _ _ _=>us1 λ_=>rfl,h_q25.ft X G λ_ _ _ _ _ _=>us1 λ_=>rfl,h_q14.ft X G λ_ _ _ _ _ _=>us2 λ_ _=>rfl,h_q13.ft X G λ_ _ _ _ _ _=>us3 λ_ _ _=>rfl,h_q26.ft X G λ_ _ _ _ _ _=>us2 λ_ _=>rfl,h_q3.ft X G λ_ _ _ _ _ _=>us2 λ_ _=>rfl,h_q4.ft X G λ_ _ _ _ _ _=>us3 λ_ _ _=>rfl,h_q32.ft X G λ_ _ _ _ _ _=>us3 λ_ _ _=>rfl,h_q6.ft X G λ_ _ _ _ _ _=>us3 λ_ _ _=>rfl,h_q31.ft X G λ_ _ _ _ _ _=>us2 λ_ _=>rfl,h_q22.ft X G λ_ _ _ _ _ _=>us2 λ_ _=>rfl,h_q8.ft X G λ_ _ _ _ _ _=>us3 λ_ _ _=>rfl,h_q0.ft X G λ_ _ _ _ _ _=>us2 λ_ _=>rfl,h_q9.ft X G λ_ _ _ _ _ _=>us2 λ_ _=>rfl,h_q36.ft X G λ_ _ _ _ _ _=>us2 λ_ _=>rfl,h_q10.ft X G λ_ _ _ _ _ _=>us3 λ_ _ _=>rfl,h_q21.ft X G λ_ _ _ _ _ _=>us2 λ_ _=>rfl,h_q2.ft X G λ_ _ _ _ _ _=>us2 λ_ _=>rfl,h_q28.ft X G λ_ _ _ _ _ _=>us2 λ_ _=>rfl,h_q30.ft X G λ_ _ _ _ _ _=>us2 λ_ _=>rfl,h_q16.ft X G λ_ _ _ _ _ _=>us2 λ_ _=>rfl,h_q11.ft X G λ_ _ _ _ _ _=>us2 λ_ _=>rfl,h_q20.ft X G λ_ _ _ _ _ _=>us3 λ_ _ _=>rfl,h_q27.ft X G λ_ _ _ _ _ _=>us2 λ_ _=>rfl,h_q37.ft X G λ_ _ _ _ _ _=>us2 λ_ _=>rfl,h_q35.ft X G λ_ _ _ _ _ _=>us2 λ_ _=>rfl,h_q33.ft X G λ_ _ _ _ _ _=>us2 λ_ _=>rfl,h_q19.ft X G λ_ _ _ _ _ _=>us2 λ_ _=>rfl,h_q17.ft X G λ_ _ _ _ _ _=>us2 λ_ _=>rfl,h_q34.ft X G λ_ _ _ _ _ _=>us3 λ_ _ _=>rfl,h_q29.ft X G λ_ _ _ _ _ _=>us2 λ_ _=>rfl,h_law.ft X G λ_ _ _ _ _ _=>us1 λ_=>rfl,PySem.W.mg_none_of X G z_all,PySem.W.mg_none_of X G z_any,PySem.W.mg_none_of X G z_bool,PySem.W.mg_none_of X G z_enumerate,PySem.W.mg_none_of X G z_int,PySem.W.mg_none_of X G z_isinstance,PySem.W.mg_none_of X G z_len,PySem.W.mg_none_of X G z_list,PySem.W.mg_none_of X G z_max,PySem.W.mg_none_of X G z_min,PySem.W.mg_none_of X G z_range,PySem.W.mg_none_of X G z_reversed,PySem.W.mg_none_of X G z_sorted,PySem.W.mg_none_of X G z_tuple,⟨_,PySem.W.mg_of X G c_MOST_TIES⟩,⟨_,PySem.W.mg_of X G c_MOST_ROOM⟩,⟨_,PySem.W.mg_of X G c_MOST_ASKS⟩,⟨_,PySem.W.mg_of X G c_MOST_SIZE⟩,⟨_,PySem.W.mg_of X G c_MOST_WORTH⟩,hc,hd⟩
 obtain ⟨_,_,_,_,_,_,_,_,_,rfl,_,_⟩:=h_law.F.ex
 exact ⟨_,λs v=>.of_eq rfl,λbase _ _ hB=>(sv T hB).imp λ_ _ _ _ h=>lH h⟩
theorem walk {l:PySem.W.OpenLaw} {q:Program} {loose:List Str} {XP:(Str->Option Value)->Heap->Prop} {YP:World->Heap->Prop} {d:DefRec} {K:Params->PySem.W.Frag} {c Pt c2 Pu:Addr} (hn:l.most=some 63) (hdf:d.params.defaults=[])
 (hY:∀ (w:World) (h:Heap),YP w h->(K w.params).In h/\h.get? Pt=some (PySem.W.tabObj #[])/\h.get? Pu=some (PySem.W.tabObj #[])) (hcd0:∀ w:World,PySem.W.codeHdIn (K w.params) c Pt=true) (hKP:∀ w:World,(K w.params).lookup Pt=none)
 (hcd2:∀ w:World,PySem.W.codeHdIn (K w.params) c2 Pu=true) (hKP2:∀ w:World,(K w.params).lookup Pu=none) (hPne:Pt≠Pu)
 (F:∀ (w:World) (mg:Str->Option Value) (fa:Addr) (h:Heap),(K w.params).In h->h.Ns mainGlobals mg->mg d.name=some (.ref fa) ->
  ∃ fd:FuncData,(∀ (s:Shared) (u:Value),BindsTo s fd ⟨[u],[]⟩ [("_law_script",u)])/\∀ base:Heap,(K w.params).In base->base.Ns mainGlobals mg->TabB base mg c Pt tqS/\TabB base mg c2 Pu tqT->FnOk l.prog w (K w.params) mg base CX0 10 fa fd ["_law_script"] (iS (K w.params))) :
 PySem.W.WalkO q loose XP YP l.row.toRowW d [] (λf vs=>PySem.call f vs) :=
 L2.lV (n:=63) (k:=10) (x:="_law_script") (sp:=λw=>iS (K w.params)) hn (by decide) hdf ⟨rfl,by decide,by decide,rfl⟩ hY hcd0 hKP hcd2 hKP2 hPne F (λ_ _ a ns hl hO hS=>⟨a,ns,rfl,hO,hS,hl,λ_=>rfl⟩) λ_ _ _ _ z=>z
end K59
open PySem PySem.W PyProof.Rows
set_option maxRecDepth 100000 in
theorem PySem.Challenge.cw_treeasks_k59_flow_and_cut_by_the_rule_holds : PySem.Challenge.rw_treeasks_k59_flow_and_cut_by_the_rule.Holds := by
 w_on; o_law; k_head; (case hw=>w_witness2)
 k_fill
 refine' K59.walk (l:=PySem.Challenge.rw_treeasks_k59_flow_and_cut_by_the_rule) rfl rfl (λw h Y=>⟨PySem.W.km_in_of Y,PySem.W.km_tabs_of Y _ (List.Mem.tail _ (List.Mem.head _)),PySem.W.km_tabs_of Y _ (List.Mem.head _)⟩) ?hcd ?hKP ?hcd2 ?hKP2 ?hPne ?F
 case F =>
  intro w mg fa h KX G hmg
  refine' K59.all_mk KX G hmg (L2.aZ ?_ ?_ ?_ ?_) (L2.aZ ?_ ?_ ?_ ?_) (L2.aZ ?_ ?_ ?_ ?_) (L2.aZ ?_ ?_ ?_ ?_) (L2.aZ ?_ ?_ ?_ ?_) (L2.aZ ?_ ?_ ?_ ?_) (L2.aZ ?_ ?_ ?_ ?_) (L2.aZ ?_ ?_ ?_ ?_) (L2.aZ ?_ ?_ ?_ ?_) (L2.aZ ?_ ?_ ?_ ?_) (L2.aZ ?_ ?_ ?_ ?_) (L2.aZ ?_ ?_ ?_ ?_) (L2.aZ ?_ ?_ ?_ ?_) (L2.aZ ?_ ?_ ?_ ?_) (L2.aZ ?_ ?_ ?_ ?_) (L2.aZ ?_ ?_ ?_ ?_) (L2.aZ ?_ ?_ ?_ ?_) (L2.aZ ?_ ?_ ?_ ?_) (L2.aZ ?_ ?_ ?_ ?_) (L2.aZ ?_ ?_ ?_ ?_) (L2.aZ ?_ ?_ ?_ ?_) (L2.aZ ?_ ?_ ?_ ?_) (L2.aZ ?_ ?_ ?_ ?_) (L2.aZ ?_ ?_ ?_ ?_) (L2.aZ ?_ ?_ ?_ ?_) (L2.aZ ?_ ?_ ?_ ?_) (L2.aZ ?_ ?_ ?_ ?_) (L2.aZ ?_ ?_ ?_ ?_) (L2.aZ ?_ ?_ ?_ ?_) (L2.aZ ?_ ?_ ?_ ?_) (L2.aZ ?_ ?_ ?_ ?_) (L2.aZ ?_ ?_ ?_ ?_) (L2.aZ ?_ ?_ ?_ ?_) (L2.aZ ?_ ?_ ?_ ?_) (L2.aZ ?_ ?_ ?_ ?_) ?_ ?_ ?_ ?_ ?_ ?_ ?_ ?_ ?_ ?_ ?_ ?_ ?_ ?_ ?_ ?_ ?_ ?_ ?_ ?_ ?_
  all_goals try k_is
  all_goals first | rfl | (rw [<- Array.all_toList]; rfl)
 case hcd=>intro w; first | kernel_rfl | rfl
 case hKP=>intro w; first | kernel_rfl | rfl
 case hcd2=>intro w; first | kernel_rfl | rfl
 case hKP2=>intro w; first | kernel_rfl | rfl
 case hPne=>decide
end
