import PyProof.Rows.All
import Wide.All
import OpenK.AllK
import Wide.FinOn
import Lean
import PyProof.EqAt
import PyProof.EqKinds
import PyProof.TupleCall
import PyProof.Rows.ListRangeD
import KE.LcSums
import KE.KRevSl
import PyProof.Rows.SetFrom
import PyProof.Rows.ListMulArg
import PySem.Challenge.RW_treeasks_k58_cuts_that_part
set_option Elab.async false
set_option linter.all false
set_option maxRecDepth 100000
set_option genSizeOf false
set_option maxHeartbeats 4000000
set_option exponentiation.threshold 9000
noncomputable section
theorem PySem.W.Fast.te8690932161692502290 : True := trivial
def PySem.W.Fast.tw8690932161692502290 : Nat := 0
theorem PySem.W.Fast.te15279399112150323300 : True := trivial
def PySem.W.Fast.tw15279399112150323300 : Nat := 0
def PySem.W.Fast.tw7029366686036030015 : PySem.Program := PySem.Challenge.pw_treeasks_k58_cuts_that_part
theorem PySem.W.Fast.te7029366686036030015 : PySem.Challenge.pw_treeasks_k58_cuts_that_part=PySem.W.Fast.tw7029366686036030015 := rfl
def PySem.W.Fast.tw4381595052809519781 : List PySem.Stmt := ((PySem.Challenge.pw_treeasks_k58_cuts_that_part.main.body.drop 0).take 2)
theorem PySem.W.Fast.te4381595052809519781 : ((PySem.Challenge.pw_treeasks_k58_cuts_that_part.main.body.drop 0).take 2)=PySem.W.Fast.tw4381595052809519781 := rfl
def PySem.W.Fast.tw10100749733115739722 : List PySem.Stmt := ((PySem.Challenge.pw_treeasks_k58_cuts_that_part.main.body.drop 13).take 17)
theorem PySem.W.Fast.te10100749733115739722 : ((PySem.Challenge.pw_treeasks_k58_cuts_that_part.main.body.drop 13).take 17)=PySem.W.Fast.tw10100749733115739722 := rfl
def PySem.W.Fast.tw16318943615336953504 : List PySem.Stmt := ((PySem.Challenge.pw_treeasks_k58_cuts_that_part.main.body.drop 3).take 1)
theorem PySem.W.Fast.te16318943615336953504 : ((PySem.Challenge.pw_treeasks_k58_cuts_that_part.main.body.drop 3).take 1)=PySem.W.Fast.tw16318943615336953504 := rfl
def PySem.W.Fast.tw3750495321328612425 : PySem.Program := ({ PySem.Challenge.pw_treeasks_k58_cuts_that_part with main := { PySem.Challenge.pw_treeasks_k58_cuts_that_part.main with body := (PySem.Challenge.pw_treeasks_k58_cuts_that_part.main.body.drop 1).take 4++(PySem.Challenge.pw_treeasks_k58_cuts_that_part.main.body.drop 6).take 2++(PySem.Challenge.pw_treeasks_k58_cuts_that_part.main.body.drop 9).take 6++(PySem.Challenge.pw_treeasks_k58_cuts_that_part.main.body.drop 16).take 5++(PySem.Challenge.pw_treeasks_k58_cuts_that_part.main.body.drop 22).take 5++(PySem.Challenge.pw_treeasks_k58_cuts_that_part.main.body.drop 28).take 3++(PySem.Challenge.pw_treeasks_k58_cuts_that_part.main.body.drop 32).take 15 } } : PySem.Program)
theorem PySem.W.Fast.te3750495321328612425 : ({ PySem.Challenge.pw_treeasks_k58_cuts_that_part with main := { PySem.Challenge.pw_treeasks_k58_cuts_that_part.main with body := (PySem.Challenge.pw_treeasks_k58_cuts_that_part.main.body.drop 1).take 4++(PySem.Challenge.pw_treeasks_k58_cuts_that_part.main.body.drop 6).take 2++(PySem.Challenge.pw_treeasks_k58_cuts_that_part.main.body.drop 9).take 6++(PySem.Challenge.pw_treeasks_k58_cuts_that_part.main.body.drop 16).take 5++(PySem.Challenge.pw_treeasks_k58_cuts_that_part.main.body.drop 22).take 5++(PySem.Challenge.pw_treeasks_k58_cuts_that_part.main.body.drop 28).take 3++(PySem.Challenge.pw_treeasks_k58_cuts_that_part.main.body.drop 32).take 15 } } : PySem.Program)=PySem.W.Fast.tw3750495321328612425 := rfl
def PySem.W.Fast.tw6607147605111913505 : List PySem.Stmt := ((PySem.Challenge.pw_treeasks_k58_cuts_that_part.main.body.drop 4).take 9)
theorem PySem.W.Fast.te6607147605111913505 : ((PySem.Challenge.pw_treeasks_k58_cuts_that_part.main.body.drop 4).take 9)=PySem.W.Fast.tw6607147605111913505 := rfl
def PySem.W.Fast.tw16740528963168110836 : List PySem.Stmt := ((PySem.Challenge.pw_treeasks_k58_cuts_that_part.main.body.drop 2).take 1)
theorem PySem.W.Fast.te16740528963168110836 : ((PySem.Challenge.pw_treeasks_k58_cuts_that_part.main.body.drop 2).take 1)=PySem.W.Fast.tw16740528963168110836 := rfl
def PySem.W.Fast.tw12372194829152708499 : List PySem.Stmt := ((PySem.Challenge.pw_treeasks_k58_cuts_that_part.main.body.drop 44).take 3)
theorem PySem.W.Fast.te12372194829152708499 : ((PySem.Challenge.pw_treeasks_k58_cuts_that_part.main.body.drop 44).take 3)=PySem.W.Fast.tw12372194829152708499 := rfl
def PySem.W.Fast.tw16202120712577018679 : List PySem.Stmt := ((PySem.Challenge.pw_treeasks_k58_cuts_that_part.main.body.drop 30).take 14)
theorem PySem.W.Fast.te16202120712577018679 : ((PySem.Challenge.pw_treeasks_k58_cuts_that_part.main.body.drop 30).take 14)=PySem.W.Fast.tw16202120712577018679 := rfl
namespace Ob
noncomputable section
open PySem
open PySem.Str renaming ofString → S
open PySem.Value renaming str → v, ref → r, int → i, none → n
abbrev F := Params → Obj
noncomputable def d (P : Params) (s : Str) (t : Tok) (w : Value) : DictEntry := ⟨PyData.keyHash P s, .str s t, w⟩
noncomputable def g (k : Nat) (q : Str → Str) : FuncData := match PySem.Challenge.pw_treeasks_k58_cuts_that_part.main.body[k]? with
  | some (.FunctionDef a b c _ _ _ s _ _ _) => ⟨a,q a,b,.stmts c,s,0,[],n,n,n,n,none,n,n,0⟩
  | some (.ClassDef _ _ _ (.FunctionDef a b c _ _ _ s _ _ _ :: _) _ _ _ _ _ _ _) => ⟨a,q a,b,.stmts c,s,0,[],n,n,n,n,none,n,n,0⟩
  | _ => default
noncomputable def x (k : Nat) : F := fun _ => ⟨n,none,.func (g k id),#[]⟩
noncomputable def X (k : Nat) (q : Str) : F := fun _ => ⟨n,none,.func (g k fun _ => q),#[]⟩
noncomputable def y (k : Nat) (m c : Value) : F := fun _ => ⟨.type "function",none,.func { g k id with globals := 3, pyModule := m, code := c },#[]⟩
noncomputable def Y (k : Nat) (q : Str) (m c : Value) : F := fun _ => ⟨.type "function",none,.func { g k (fun _ => q) with globals := 3, pyModule := m, code := c },#[]⟩
noncomputable def u (l : List Value) : F := fun _ => ⟨.type "tuple",none,.seq l.toArray 0,#[]⟩
noncomputable def z (l : List Value) : F := fun _ => ⟨n,none,.fields l.toArray,#[]⟩
noncomputable def V (s : String) (t : Tok) : Value := v (S s) t
noncomputable def q (s : String) (t1 t2 t3 : Tok) (l a b c e : Int) (r1 : Addr) (m : Int) (r2 r3 r4 r5 : Addr) (t : Int) (t4 : Tok) : F := fun _ => ⟨.type "code",none,.fields #[v (S s) t1,v (S s) t2,v (S "/claim/cut.py") t3,i l 0,i a 0,i b 0,i c 0,i e 0,r r1,.bool true,i m 0,r r2,n,r r3,r r4,r r5,i t 0,i l 0,v (S "/claim/cut.py") t4],#[]⟩
noncomputable def k (l : List Value) : F := fun _ => ⟨.type "code",none,.fields l.toArray,#[]⟩
noncomputable def w (f : F) (a b : Params → W.BT) : Params → W.BT := fun P => .node (f P) (a P) (b P)
noncomputable def e : Params → W.BT := fun _ => .nil
noncomputable def o (f : F) : Params → W.BT := w f e e
noncomputable def ha(p0:String)(p1:Nat)(p2:String)(p3:String):F:=u [(V p0 p1),(V p2 (p1+1)),(V p3 (p1+2))]
noncomputable def hb(p0:String)(p1:Nat)(p2:Int)(p3:Int)(p4:Nat)(p5:Int):F:=k [(V p0 p1),(V p0 (p1+1)),(V "/claim/cut.py" (p1+2)),(i p2 0),(i p3 0),(i 0 0),(i 0 0),(i 3 0),(r p4),(.bool .true),(i 181 0),(r (p4+1)),n,n,n,(r (p4+2)),(i p5 0),(i p2 0),(V "/claim/cut.py" (p1+4))]
noncomputable def hc(p0:String)(p1:Nat)(p2:Int)(p3:Nat)(p4:Int):F:=k [(V p0 p1),(V p0 (p1+1)),(V "/claim/cut.py" (p1+2)),(i p2 0),(i 0 0),(i 0 0),(i 0 0),(i 0 0),(r p3),(.bool .false),(i 181 0),(r (p3+1)),n,n,n,n,(i p4 0),(i p2 0),(V "/claim/cut.py" (p1+4))]
noncomputable def hd(p0:Nat)(p1:Nat)(p2:String)(p3:Nat):F:=fun P=>⟨(.type "frame"),none,.plain,#[(some (r p0)),(some (r 3)),(some (r p1)),none,(some (V p2 p3)),none,(some (r 0))]⟩
noncomputable def he(p0:Nat):F:=fun P=>⟨(.type "builtin_function_or_method"),none,(.fields #[(.builtin "object.__init_subclass__"),(r p0)]),#[]⟩
noncomputable def hf(p0:Nat):F:=fun P=>⟨(.type "super"),none,(.fields #[(r p0),(r p0),(r p0)]),#[]⟩
noncomputable def hg(p0:Nat)(p1:Int)(p2:String)(p3:Nat)(p4:Nat)(p5:String)(p6:Nat)(p7:Nat)(p8:Nat):F:=fun P=>⟨(.type "dict"),none,(.dict #[(d P (S "__module__") p0 (v (S "treeasks.errors") 187)),(d P (S "__firstlineno__") (p0+4) (i p1 (p0+3))),(d P (S p2) p3 (r p4)),(d P (S p5) p6 (r p7)),(d P (S "__doc__") (p6+1) n)] p8),#[]⟩
noncomputable def hh(p0:String)(p1:Nat)(p2:Nat)(p3:Nat)(p4:Nat):F:=fun P=>⟨(.type "type"),none,(.cls ⟨(S p0),[(r 24)],[(r p1),(r 24),(.type "ValueError"),(.type "Exception"),(.type "BaseException"),(.type "object")],p2,(S p0),.true,[],[],.false,none,.false⟩),#[(some (r p3)),none,(some (V p0 p4)),(some (V p0 (p4+8))),(some (.builtin "ValueError.__new__")),(some (.bool .true))]⟩
noncomputable def hi(p0:Nat)(p1:String)(p2:Int)(p3:Nat):F:=fun P=>⟨(.type "dict"),none,(.dict #[(d P (S "__module__") p0 (v (S "treeasks.errors") 187)),(d P (S "__qualname__") (p0+2) (v (S p1) (p0+1))),(d P (S "__firstlineno__") (p0+4) (i p2 (p0+3))),(d P (S "__static_attributes__") (p0+5) (r p3))] 4),#[]⟩
noncomputable def hj(p0:Nat)(p1:String)(p2:Int)(p3:Int)(p4:Nat)(p5:Int)(p6:Nat):F:=k [(V "__init__" p0),(V p1 (p0+1)),(V "/claim/cut.py" (p0+2)),(i p2 0),(i p3 0),(i 0 0),(i 0 0),(i 3 0),(r p4),(.bool .true),(i 181 0),(r (p4+1)),n,(r (p4+2)),(r (p4+3)),(r (p4+4)),(i p5 0),(i p2 0),(V "/claim/cut.py" p6)]
noncomputable def hk(p0:Nat)(p1:String)(p2:Int)(p3:Nat)(p4:Nat)(p5:Nat):F:=fun P=>⟨(.type "dict"),none,(.dict #[(d P (S "__module__") p0 (v (S "treeasks.errors") 187)),(d P (S "__qualname__") (p0+2) (v (S p1) (p0+1))),(d P (S "__firstlineno__") (p0+4) (i p2 (p0+3))),(d P (S "__init__") p3 (r p4)),(d P (S "__static_attributes__") p5 (r (p4+1)))] 5),#[]⟩
noncomputable def zl:List (Nat×Nat×Nat)→List Value
  | []=>[]
  | (a,b,c)::t=>i (Int.ofNat a) 0::i (Int.ofNat b) 0::r c::zl t
def zz:List Value:=zl [(2,0,20),(4,0,33),(10,0,52),(15,0,71),(18,0,83),(20,0,90),(25,0,97),(32,0,104),(42,0,111),(44,0,118),(50,0,125),(55,0,132),(63,0,139),(67,0,146),(74,0,153),(78,0,160),(80,0,165),(83,0,172),(92,0,177),(94,0,184),(98,0,191),(106,0,198),(113,0,205),(122,0,212),(129,0,217),(132,0,224),(135,0,231),(141,0,236),(146,0,243),(149,0,248),(154,0,253),(163,0,260)]
def A64:F:=fun P=>⟨(.type "dict"),none,(.dict #[(d P (S "__name__") 165 (v (S "treeasks.errors") 187)),(d P (S "__doc__") 166 n),(d P (S "__package__") 167 n),(d P (S "__loader__") 168 (.builtin "__main__.__loader__#opaque")),(d P (S "__spec__") 169 n),(d P (S "__annotations__") 170 (r 6)),(d P (S "__builtins__") 171 (r 4)),(d P (S "__file__") 173 (v (S "/claim/cut.py") 172)),(d P (S "__cached__") 174 n),(d P (S "AskError") 206 (r 24)),(d P (S "NoTree") 233 (r 44))] 11),#[]⟩
def a0k:F:=fun P=>⟨(.type "type"),none,(.cls ⟨(S "AskError"),[(.type "ValueError")],[(r 24),(.type "ValueError"),(.type "Exception"),(.type "BaseException"),(.type "object")],23,(S "AskError"),.true,[],[(r 44)],.false,none,.false⟩),#[(some (r 15)),none,(some (V "AskError" 189)),(some (V "AskError" 197)),(some (.builtin "ValueError.__new__")),(some (.bool .true))]⟩
def a0m:F:=z [(i 2 0),(i 0 0),(r 20),(i 4 0),(i 0 0),(r 33)]
def A86:F:=fun P=>⟨(.type "dict"),none,(.dict #[(d P (S "__name__") 165 (v (S "treeasks.errors") 187)),(d P (S "__doc__") 166 n),(d P (S "__package__") 167 n),(d P (S "__loader__") 168 (.builtin "__main__.__loader__#opaque")),(d P (S "__spec__") 169 n),(d P (S "__annotations__") 170 (r 6)),(d P (S "__builtins__") 171 (r 4)),(d P (S "__file__") 173 (v (S "/claim/cut.py") 172)),(d P (S "__cached__") 174 n),(d P (S "AskError") 206 (r 24)),(d P (S "NoTree") 233 (r 44)),(d P (S "NoAsks") 258 (r 63))] 12),#[]⟩
def a1c:F:=fun P=>⟨(.type "type"),none,(.cls ⟨(S "AskError"),[(.type "ValueError")],[(r 24),(.type "ValueError"),(.type "Exception"),(.type "BaseException"),(.type "object")],23,(S "AskError"),.true,[],[(r 44),(r 63)],.false,none,.false⟩),#[(some (r 15)),none,(some (V "AskError" 189)),(some (V "AskError" 197)),(some (.builtin "ValueError.__new__")),(some (.bool .true))]⟩
def a1e:F:=z [(i 2 0),(i 0 0),(r 20),(i 4 0),(i 0 0),(r 33),(i 10 0),(i 0 0),(r 52)]
def A108:F:=fun P=>⟨(.type "dict"),none,(.dict #[(d P (S "__name__") 165 (v (S "treeasks.trees") 293)),(d P (S "__doc__") 166 n),(d P (S "__package__") 167 n),(d P (S "__loader__") 168 (.builtin "__main__.__loader__#opaque")),(d P (S "__spec__") 169 n),(d P (S "__annotations__") 170 (r 6)),(d P (S "__builtins__") 171 (r 4)),(d P (S "__file__") 173 (v (S "/claim/cut.py") 172)),(d P (S "__cached__") 174 n),(d P (S "AskError") 206 (r 24)),(d P (S "NoTree") 233 (r 44)),(d P (S "NoAsks") 258 (r 63)),(d P (S "NoPlace") 274 (r 75)),(d P (S "is_whole") 283 (r 84)),(d P (S "is_between") 292 (r 91)),(d P (S "MOST_TIES") 296 (i 23 295)),(d P (S "MOST_ROOM") 298 (i 1000000 297)),(d P (S "has_two_lists") 307 (r 98)),(d P (S "look_at_tree") 319 (r 105))] 19),#[]⟩
def a27:F:=fun P=>⟨(.type "type"),none,(.cls ⟨(S "AskError"),[(.type "ValueError")],[(r 24),(.type "ValueError"),(.type "Exception"),(.type "BaseException"),(.type "object")],23,(S "AskError"),.true,[],[(r 44),(r 63),(r 75)],.false,none,.false⟩),#[(some (r 15)),none,(some (V "AskError" 189)),(some (V "AskError" 197)),(some (.builtin "ValueError.__new__")),(some (.bool .true))]⟩
def a2b:F:=z [(i 2 0),(i 0 0),(r 20),(i 4 0),(i 0 0),(r 33),(i 10 0),(i 0 0),(r 52),(i 15 0),(i 0 0),(r 71),(i 18 0),(i 0 0),(r 83),(i 20 0),(i 0 0),(r 90),(i 25 0),(i 0 0),(r 97),(i 32 0),(i 0 0),(r 104)]
def A151:F:=fun P=>⟨(.type "dict"),none,(.dict #[(d P (S "__name__") 165 (v (S "treeasks.cuts") 414)),(d P (S "__doc__") 166 n),(d P (S "__package__") 167 n),(d P (S "__loader__") 168 (.builtin "__main__.__loader__#opaque")),(d P (S "__spec__") 169 n),(d P (S "__annotations__") 170 (r 6)),(d P (S "__builtins__") 171 (r 4)),(d P (S "__file__") 173 (v (S "/claim/cut.py") 172)),(d P (S "__cached__") 174 n),(d P (S "AskError") 206 (r 24)),(d P (S "NoTree") 233 (r 44)),(d P (S "NoAsks") 258 (r 63)),(d P (S "NoPlace") 274 (r 75)),(d P (S "is_whole") 283 (r 84)),(d P (S "is_between") 292 (r 91)),(d P (S "MOST_TIES") 296 (i 23 295)),(d P (S "MOST_ROOM") 298 (i 1000000 297)),(d P (S "has_two_lists") 307 (r 98)),(d P (S "look_at_tree") 319 (r 105)),(d P (S "is_place") 327 (r 112)),(d P (S "are_ends") 336 (r 119)),(d P (S "MOST_ASKS") 340 (i 30 339)),(d P (S "MOST_SIZE") 342 (i 1000000 341)),(d P (S "MOST_WORTH") 344 (i 1000000000000 343)),(d P (S "is_ask") 356 (r 126)),(d P (S "look_at_asks") 366 (r 133)),(d P (S "look_at_ends") 377 (r 140)),(d P (S "climb") 388 (r 147)),(d P (S "way_between") 399 (r 154)),(d P (S "way_of") 407 (r 161)),(d P (S "ways_of") 413 (r 166)),(d P (S "is_cut") 425 (r 173)),(d P (S "parts_ways") 431 (r 178))] 33),#[]⟩
def a40:F:=z (zz.take 57)
def A226:F:=fun P=>⟨(.type "dict"),none,(.dict #[(d P (S "__name__") 165 (v (S "law_treeasks_k58_cuts_that_part") 441)),(d P (S "__doc__") 166 n),(d P (S "__package__") 167 n),(d P (S "__loader__") 168 (.builtin "__main__.__loader__#opaque")),(d P (S "__spec__") 169 n),(d P (S "__annotations__") 170 (r 6)),(d P (S "__builtins__") 171 (r 4)),(d P (S "__file__") 173 (v (S "/claim/cut.py") 172)),(d P (S "__cached__") 174 n),(d P (S "AskError") 206 (r 24)),(d P (S "NoTree") 233 (r 44)),(d P (S "NoAsks") 258 (r 63)),(d P (S "NoPlace") 274 (r 75)),(d P (S "is_whole") 283 (r 84)),(d P (S "is_between") 292 (r 91)),(d P (S "MOST_TIES") 296 (i 23 295)),(d P (S "MOST_ROOM") 298 (i 1000000 297)),(d P (S "has_two_lists") 307 (r 98)),(d P (S "look_at_tree") 319 (r 105)),(d P (S "is_place") 327 (r 112)),(d P (S "are_ends") 336 (r 119)),(d P (S "MOST_ASKS") 340 (i 30 339)),(d P (S "MOST_SIZE") 342 (i 1000000 341)),(d P (S "MOST_WORTH") 344 (i 1000000000000 343)),(d P (S "is_ask") 356 (r 126)),(d P (S "look_at_asks") 366 (r 133)),(d P (S "look_at_ends") 377 (r 140)),(d P (S "climb") 388 (r 147)),(d P (S "way_between") 399 (r 154)),(d P (S "way_of") 407 (r 161)),(d P (S "ways_of") 413 (r 166)),(d P (S "is_cut") 425 (r 173)),(d P (S "parts_ways") 431 (r 178)),(d P (S "parts_all") 440 (r 185)),(d P (S "_law_pool") 452 (r 192)),(d P (S "_law_take") 461 (r 199)),(d P (S "_law_number") 470 (r 206)),(d P (S "_law_parents") 482 (r 213)),(d P (S "_law_rooms") 488 (r 218)),(d P (S "_law_ends") 497 (r 225)),(d P (S "_law_up") 506 (r 232)),(d P (S "_law_way") 512 (r 237)),(d P (S "_law_ask") 522 (r 244)),(d P (S "_law_case") 528 (r 249)),(d P (S "_law_ties") 534 (r 254)),(d P (S "_law_bent") 545 (r 261))] 46),#[]⟩
def a69:F:=z (zz.take 96)
lay_quick Ob.A64
noncomputable def od : List F → List F
  | a::_::l=>a::od l
  | l=>l
noncomputable def ev : List F → List F
  | _::b::l=>b::ev l
  | _=>[]
noncomputable def bt : Nat → List F → Params → W.BT
  | k+1,f::l=>w f (bt k (od l)) (bt k (ev l))
  | _,_=>e
open W in
def lL (Q P0 P1:F):List F:=[boot_o_0,boot_o_1,boot_o_2,Q,boot_o_4,boot_o_5,boot_o_6,boot_o_7,boot_o_8,boot_o_9,boot_o_10,u [],P0,hc "<module>" 182 1 11 185,hd 13 3 "__main__" 164,u [(.type "ValueError")],(fun P=>⟨(.type "builtin_function_or_method"),none,(.fields #[(.builtin "type.__prepare__"),(.type "type")]),#[]⟩),hi 196 "AskError" 2 22,u [],z [],hc "AskError" 191 2 18 194,hd 20 17 "treeasks.errors" 187,u [],hg 196 2 "__static_attributes__" 201 22 "__weakref__" 203 25 3,P1,(fun P=>⟨(.type "getset_descriptor"),none,(.fields #[(V "__weakref__" 202),(r 24),(.builtin "ExceptionGroup.__weakref__"),n]),#[]⟩),hf 24,he 24,u [(r 24)],(fun P=>⟨(.type "builtin_function_or_method"),none,(.fields #[(.builtin "type.__prepare__"),(.type "type")]),#[]⟩),hk 214 "NoTree" 4 227 41 230,u [],z [(i 6 0),(i 4 0),(r 40)],hc "NoTree" 209 4 31 212,hd 33 30 "treeasks.errors" 187,u [],z [],ha "self" 222 "part" "number",u [],X 2 (S "NoTree.__init__"),hj 219 "NoTree.__init__" 6 3 35 225 226,Y 2 (S "NoTree.__init__") (V "treeasks.errors" 187) (r 40),u [(V "number" 228),(V "part" 229)],hg 214 4 "__init__" 227 41 "__static_attributes__" 230 42 2,hh "NoTree" 44 43 28 207,hf 44,he 44,u [(r 24)],(fun P=>⟨(.type "builtin_function_or_method"),none,(.fields #[(.builtin "type.__prepare__"),(.type "type")]),#[]⟩),hk 241 "NoAsks" 10 253 60 255,u [],z [(i 12 0),(i 4 0),(r 59)],hc "NoAsks" 236 10 50 239,hd 52 49 "treeasks.errors" 187,u [],z [],u [(V "self" 249),(V "number" 250)],u [],X 3 (S "NoAsks.__init__"),hj 246 "NoAsks.__init__" 12 2 54 251 252,Y 3 (S "NoAsks.__init__") (V "treeasks.errors" 187) (r 59),u [(V "number" 254)],hg 241 10 "__init__" 253 60 "__static_attributes__" 255 61 2,hh "NoAsks" 63 62 47 234,hf 63,he 63,u [(r 24)],(fun P=>⟨(.type "builtin_function_or_method"),none,(.fields #[(.builtin "type.__prepare__"),(.type "type")]),#[]⟩),hi 266 "NoPlace" 15 73,u [],z [],hc "NoPlace" 261 15 69 264,hd 71 68 "treeasks.errors" 187,u [],(fun P=>⟨(.type "dict"),none,(.dict #[(d P (S "__module__") 266 (v (S "treeasks.errors") 187)),(d P (S "__firstlineno__") 270 (i 15 269)),(d P (S "__static_attributes__") 271 (r 73)),(d P (S "__doc__") 272 n)] 2),#[]⟩),hh "NoPlace" 75 74 66 259,hf 75,he 75,u [],z [],u [(V "thing" 280)],u [],x 6,q "is_whole" 277 278 279 18 1 0 0 3 78 181 79 80 81 82 281 282,y 6 (V "treeasks.numbers" 275) (r 83),u [],z [],ha "thing" 287 "least" "most",u [],x 7,q "is_between" 284 285 286 20 3 0 0 3 85 181 86 87 88 89 290 291,y 7 (V "treeasks.numbers" 275) (r 90),u [],z [],ha "thing" 302 "parents" "rooms",u [],x 11,q "has_two_lists" 299 300 301 25 1 0 0 3 92 181 93 94 95 96 305 306,y 11 (V "treeasks.trees" 293) (r 97),u [],z [],u [(V "thing" 311),(V "parents" 312),(V "rooms" 313),(V "number" 314),(V "parent" 315),(V "room" 316)],u [],x 12,q "look_at_tree" 308 309 310 32 1 0 0 3 99 181 100 101 102 103 317 318,y 12 (V "treeasks.trees" 293) (r 104),u [],z [],u [(V "tree" 323),(V "thing" 324)],u [],x 13,q "is_place" 320 321 322 42 2 0 0 3 106 181 107 108 109 110 325 326,y 13 (V "treeasks.trees" 293) (r 111),u [],z [],ha "tree" 331 "one" "other",u [],x 14,q "are_ends" 328 329 330 44 3 0 0 3 113 181 114 115 116 117 334 335,y 14 (V "treeasks.trees" 293) (r 118),u [],z [],u [(V "tree" 348),(V "thing" 349),(V "one" 350),(V "other" 351),(V "size" 352),(V "worth" 353)],u [],x 19,q "is_ask" 345 346 347 50 2 0 0 3 120 181 121 122 123 124 354 355,y 19 (V "treeasks.asks" 337) (r 125),u [],z [],u [(V "tree" 360),(V "thing" 361),(V "number" 362),(V "ask" 363)],u [],x 20,q "look_at_asks" 357 358 359 55 2 0 0 3 127 181 128 129 130 131 364 365,y 20 (V "treeasks.asks" 337) (r 132),u [],z [],ha "tree" 372 "one" "other",u [],x 22,q "look_at_ends" 369 370 371 63 3 0 0 3 134 181 135 136 137 138 375 376,y 22 (V "treeasks.ways" 367) (r 139),u [],z [],u [(V "tree" 381),(V "one" 382),(V "other" 383),(V "way" 384),(V "low" 385)],u [],x 23,q "climb" 378 379 380 67 3 0 0 3 141 181 142 143 144 145 386 387,y 23 (V "treeasks.ways" 367) (r 146),u [],z [],u [(V "tree" 392),(V "one" 393),(V "other" 394),(V "way" 395),(V "meeting" 396)],u [],x 24,q "way_between" 389 390 391 74 3 0 0 3 148 181 149 150 151 152 397 398,y 24 (V "treeasks.ways" 367) (r 153),u [],z [],u [(V "tree" 403),(V "ask" 404)],u [],x 25,q "way_of" 400 401 402 78 2 0 0 3 155 181 156 157 158 159 405 406,y 25 (V "treeasks.ways" 367) (r 160),u [],z [],x 26,hb "ways_of" 408 80 2 162 411,y 26 (V "treeasks.ways" 367) (r 165),u [],z [],u [(V "tree" 419),(V "thing" 420),(V "least" 421),(V "tie" 422)],u [],x 28,q "is_cut" 416 417 418 83 2 0 0 3 167 181 168 169 170 171 423 424,y 28 (V "treeasks.cuts" 414) (r 172),u [],z [],x 29,hb "parts_ways" 426 92 2 174 429,y 29 (V "treeasks.cuts" 414) (r 177),u [],z [],ha "tree" 435 "asks" "thing",u [],x 30,q "parts_all" 432 433 434 94 3 0 0 3 179 181 180 181 182 183 438 439,y 30 (V "treeasks.cuts" 414) (r 184),u [],z [],u [(V "_law_script" 446),(V "_law_k" 447),(V "_law_cell" 448),(V "_law_seed" 449)],u [],x 32,q "_law_pool" 443 444 445 98 2 0 0 3 186 181 187 188 189 190 450 451,y 32 (V "law_treeasks_k58_cuts_that_part" 441) (r 191),u [],z [],ha "_law_pool_here" 456 "_law_many" "_law_found",u [],x 33,q "_law_take" 453 454 455 106 2 0 0 3 193 181 194 195 196 197 459 460,y 33 (V "law_treeasks_k58_cuts_that_part" 441) (r 198),u [],z [],ha "_law_pool_here" 465 "_law_most" "_law_way_here",u [],x 34,q "_law_number" 462 463 464 113 2 0 0 3 200 181 201 202 203 204 468 469,y 34 (V "law_treeasks_k58_cuts_that_part" 441) (r 205),u [],z [],u [(V "_law_pool_here" 474),(V "_law_most" 475),(V "_law_shape" 476),(V "_law_parents_here" 477),(V "_law_place" 478),(V "_law_up_here" 479)],u [],x 35,q "_law_parents" 471 472 473 122 2 0 0 3 207 181 208 209 210 211 480 481,y 35 (V "law_treeasks_k58_cuts_that_part" 441) (r 212),u [],z [],x 36,hb "_law_rooms" 483 129 3 214 486,y 36 (V "law_treeasks_k58_cuts_that_part" 441) (r 217),u [],z [],ha "_law_pool_here" 492 "_law_many" "_law_one",u [],x 37,q "_law_ends" 489 490 491 132 2 0 0 3 219 181 220 221 222 223 495 496,y 37 (V "law_treeasks_k58_cuts_that_part" 441) (r 224),u [],z [],ha "_law_parents_here" 501 "_law_place" "_law_found",u [],x 38,q "_law_up" 498 499 500 135 2 0 0 3 226 181 227 228 229 230 504 505,y 38 (V "law_treeasks_k58_cuts_that_part" 441) (r 231),u [],z [],x 39,hb "_law_way" 507 141 2 233 510,y 39 (V "law_treeasks_k58_cuts_that_part" 441) (r 236),u [],z [],u [(V "_law_pool_here" 516),(V "_law_many" 517),(V "_law_one" 518),(V "_law_other" 519)],u [],x 40,q "_law_ask" 513 514 515 146 2 0 0 3 238 181 239 240 241 242 520 521,y 40 (V "law_treeasks_k58_cuts_that_part" 441) (r 243),u [],z [],x 41,hb "_law_case" 523 149 2 245 526,y 41 (V "law_treeasks_k58_cuts_that_part" 441) (r 248),u [],z [],x 42,hb "_law_ties" 529 154 3 250 532,y 42 (V "law_treeasks_k58_cuts_that_part" 441) (r 253),u [],z [],u [(V "_law_pool_here" 538),(V "_law_ties_here" 539),(V "_law_many" 540),(V "_law_way_here" 541),(V "_law_at" 542)],u [],x 43,q "_law_bent" 535 536 537 163 3 0 0 3 255 181 256 257 258 259 543 544,y 43 (V "law_treeasks_k58_cuts_that_part" 441) (r 260)]
def Ttree_85 (Q : F) : Params → W.BT := bt 11 ((lL Q a0m a0k).take 47)
def _root_.PySem.W.Fast.tw3116335185740330853 : Params → W.BT := Ttree_85 PySem.W.Fast.tw6963075612888702905
theorem _root_.PySem.W.Fast.te3116335185740330853 : Ttree_85 Ob.A64 = PySem.W.Fast.tw3116335185740330853 := (congrArg Ttree_85 PySem.W.Fast.te6963075612888702905)
lay_quick Ob.A86
def Ttree_107 (Q : F) : Params → W.BT := bt 11 ((lL Q a1e a1c).take 66)
def _root_.PySem.W.Fast.tw4547726532199711131 : Params → W.BT := Ttree_107 PySem.W.Fast.tw11147188043990879120
theorem _root_.PySem.W.Fast.te4547726532199711131 : Ttree_107 Ob.A86 = PySem.W.Fast.tw4547726532199711131 := (congrArg Ttree_107 PySem.W.Fast.te11147188043990879120)
lay_quick Ob.A108
def Ttree_150 (Q : F) : Params → W.BT := bt 11 ((lL Q a2b a27).take 106)
def _root_.PySem.W.Fast.tw11726227233650000996 : Params → W.BT := Ttree_150 PySem.W.Fast.tw4549916873101738619
theorem _root_.PySem.W.Fast.te11726227233650000996 : Ttree_150 Ob.A108 = PySem.W.Fast.tw11726227233650000996 := (congrArg Ttree_150 PySem.W.Fast.te4549916873101738619)
lay_quick Ob.A151
def Ttree_225 (Q : F) : Params → W.BT := bt 11 ((lL Q a40 a27).take 179)
def _root_.PySem.W.Fast.tw10301152932141654373 : Params → W.BT := Ttree_225 PySem.W.Fast.tw6322598753939248023
theorem _root_.PySem.W.Fast.te10301152932141654373 : Ttree_225 Ob.A151 = PySem.W.Fast.tw10301152932141654373 := (congrArg Ttree_225 PySem.W.Fast.te6322598753939248023)
lay_quick Ob.A226
def Ttree_310 (Q : F) : Params → W.BT := bt 11 ((lL Q a69 a27).take 262)
def _root_.PySem.W.Fast.tw17685324243033695352 : Params → W.BT := Ttree_310 PySem.W.Fast.tw2551940117048008912
theorem _root_.PySem.W.Fast.te17685324243033695352 : Ttree_310 Ob.A226 = PySem.W.Fast.tw17685324243033695352 := (congrArg Ttree_310 PySem.W.Fast.te2551940117048008912)
end
end Ob
namespace L2
open PySem PySem.Spec PyProof.Rows
abbrev Key := Sum Int Str
def pA : Key→Value→Bool
 | .inl k, v => Value.isInt k v
 | .inr x, v => Value.isStrOf x v
def keyH (w : World) : Key→Int
 | .inl k => hashInt k
 | .inr x => hashStr w x
theorem aU : ∀ {k : Key} {v : Value}, pA k v=true→(∃ i t, k=Sum.inl i∧v=Value.int i t)∨(∃ x t, k=Sum.inr x∧v=Value.str x t)
 | .inl i, v, h => by
  obtain ⟨t, e⟩ := Value.isInt_shape (k := i) (v := v) h
  exact .inl ⟨i, t, rfl, e⟩
 | .inr x, v, h => by
  obtain ⟨t, e⟩ := Value.isStrOf_shape (x := x) (v := v) h
  exact .inr ⟨x, t, rfl, e⟩
theorem qs (a b : Int) : decide ((Sum.inl a : Key)=Sum.inl b)=(a == b) := by
 by_cases e : a=b
 ·subst e; simp
 ·have h : ¬ (Sum.inl a : Key)=Sum.inl b := fun q => e (Sum.inl.inj q)
  rw [decide_eq_false h]
  exact (beq_eq_false_iff_ne.mpr e).symm
theorem rg (a b : Str) : decide ((Sum.inr a : Key)=Sum.inr b)=decide (a=b) := by
 by_cases e : a=b
 ·subst e; simp
 ·have h : ¬ (Sum.inr a : Key)=Sum.inr b := fun q => e (Sum.inr.inj q)
  rw [decide_eq_false h, decide_eq_false e]
theorem p6 (a : Int) (b : Str) : decide ((Sum.inl a : Key)=Sum.inr b)=false := decide_eq_false (fun q => nomatch q)
theorem qI (a : Str) (b : Int) : decide ((Sum.inr a : Key)=Sum.inl b)=false := decide_eq_false (fun q => nomatch q)
def jV (prog : Program) (w : World) : PySem.KeyKind prog w Key where
 is := pA
 hash := keyH w
 inj := fun v a b ha hb => by
  rcases aU ha with ⟨i, t, rfl, rfl⟩ | ⟨x, t, rfl, rfl⟩
  ·rcases aU hb with ⟨j, u, rfl, e⟩ | ⟨y, u, rfl, e⟩
   ·injection e with e1 _; rw [e1]
   ·exact nomatch e
  ·rcases aU hb with ⟨j, u, rfl, e⟩ | ⟨y, u, rfl, e⟩
   ·exact nomatch e
   ·injection e with e1 _; rw [e1]
 byValue := fun k v h => by
  rcases aU h with ⟨i, t, rfl, rfl⟩ | ⟨x, t, rfl, rfl⟩ <;> rfl
 pyHash := fun hv h => by
  rcases aU hv with ⟨i, t, rfl, rfl⟩ | ⟨x, t, rfl, rfl⟩
  ·exact wpAny_pyHash_int h
  ·exact wpAny_pyHash_str h
 eqBool := fun hu hv h => by
  rcases aU hu with ⟨i, t, rfl, rfl⟩ | ⟨x, t, rfl, rfl⟩
  ·rcases aU hv with ⟨j, u, rfl, rfl⟩ | ⟨y, u, rfl, rfl⟩
   ·rw [qs] at h; exact wpAny_eqBool_int h
   ·rw [p6] at h; exact SeqAt.EqAt.int_str i t y u _ _ _ _ h
  ·rcases aU hv with ⟨j, u, rfl, rfl⟩ | ⟨y, u, rfl, rfl⟩
   ·rw [qI] at h; exact SeqAt.EqAt.str_int x t j u _ _ _ _ h
   ·rw [rg] at h; exact wpAny_eqBool_str h
 «strs» := fun k x t v h => by
  rcases aU h with ⟨i, u, rfl, e⟩ | ⟨y, u, rfl, e⟩
  ·exact nomatch e
  ·injection e with e1 _
   subst e1
   cases v <;> rfl
inductive V where
 | non | bl (b : Bool) | int (i : Int) | str (x : Str) | byt (b : Array UInt8) | flt (b : UInt64) | ref (a : Addr) | ty (n : String)
 deriving DecidableEq
def aN : V→Value→Prop
 | .non, u => u=Value.none
 | .bl b, u => u=Value.bool b
 | .int i, u => ∃ t, u=Value.int i t
 | .str x, u => ∃ t, u=Value.str x t
 | .byt b, u => ∃ t, u=Value.bytes b t
 | .flt b, u => ∃ t, u=Value.float b t
 | .ref a, u => u=Value.ref a
 | .ty n, u => u=Value.type n
abbrev aF : List V→List Value→Prop := Paired aN
theorem aF.length {xs : List V} {us : List Value} (r : aF xs us) : xs.length=us.length := Paired.length r
theorem aF.get : ∀ {xs : List V} {us : List Value} {i : Nat} {x : V}, aF xs us→xs[i]? = some x→∃ u, us[i]? = some u∧aN x u
 | _, _, _, _, .nil, e => by simp at e
 | _, _, 0, _, .cons r _, e => by simp at e; subst e; exact ⟨_, rfl, r⟩
 | _, _, i + 1, x, .cons _ t, e => by
  obtain ⟨u, h1, h2⟩ := aF.get (i := i) (x := x) t (by simpa using e)
  exact ⟨u, by simpa using h1, h2⟩
theorem aF.set {x : V} {u : Value} (r : aN x u) : ∀ {xs : List V} {us : List Value} (i : Nat), aF xs us→aF (xs.set i x) (us.set i u)
 | _, _, _, .nil => .nil
 | _, _, 0, .cons _ t => .cons r t
 | _, _, i + 1, .cons q t => .cons q (aF.set r i t)
theorem aF.append : ∀ {xs ys : List V} {us ws : List Value}, aF xs us→aF ys ws→aF (xs++ys) (us++ws)
 | _, _, _, _, .nil, s => s
 | _, _, _, _, .cons r t, s => .cons r (aF.append t s)
theorem aF.take : ∀ {xs : List V} {us : List Value} (n : Nat), aF xs us→aF (xs.take n) (us.take n)
 | _, _, 0, _ => .nil
 | _, _, _ + 1, .nil => .nil
 | _, _, n + 1, .cons r t => .cons r (aF.take n t)
theorem aF.drop : ∀ {xs : List V} {us : List Value} (n : Nat), aF xs us→aF (xs.drop n) (us.drop n)
 | _, _, 0, r => r
 | _, _, _ + 1, .nil => .nil
 | _, _, n + 1, .cons _ t => aF.drop n t
def RelO : Option V→Option Value→Prop
 | some v, some u => aN v u
 | none, none => True
 | _, _ => False
def KV {κ : Type} : List (κ×V)→List (κ×Value)→Prop := Paired fun (p : κ×V) (q : κ×Value) => p.1=q.1∧aN p.2 q.2
def kV : Key→V
 | .inl i => .int i
 | .inr x => .str x
inductive HO where

 | lst (xs : List V)

 | tup (xs : List V)

 | dK (kvs : List (Key×V)) | dT (kvs : List (List Key×V))

 | set (S : Int→Bool) (n : Nat)

 | ins (C dx : Addr) (fs : List (Str×V))

 | own (x : Addr)

 | xd (fs : List (Str×V))

 | met (f x : Addr)

 | rng (lo hi : Int)

 | frz (o : Obj) (u : HO)

 | tbl (ps : Array Value) (q : Str)

 | ext (φ : Heap→Prop)
abbrev Hp := Addr→Option HO
def upd (H : Hp) (a : Addr) (o : HO) : Hp := fun b => if b=a then some o else H b
theorem aA {H : Hp} {a : Addr} {o : HO} : upd H a o a=some o := by unfold upd; rw [if_pos rfl]
theorem ao {H : Hp} {a b : Addr} {o : HO} (h : b ≠ a) : upd H a o b=H b := by unfold upd; rw [if_neg h]
theorem aw {H : Hp} {a b : Addr} {o : HO} (h : H a=some o) (h' : H b=none) : a ≠ b := by
 intro e; subst e; rw [h] at h'; cases h'
def TbV (H : Hp) (ps : Array Value) (q : Str) : Prop := TriplesOk ps.toList∧∀ pos cv, codeAmong pos ps.toList=some cv→∃ c o vs t, cv = .ref c∧H c=some (.frz o (.own 0))∧o.data = .fields vs∧vs[1]? = some (.str q t)
theorem TbV.mono {H H' : Hp} {ps : Array Value} {q : Str} (h : TbV H ps q) (hf : ∀ b o u, H b=some (.frz o u)→H' b=some (.frz o u)) : TbV H' ps q := ⟨h.1, fun pos cv e => let ⟨c, o, vs, t, a, b, r⟩ := h.2 pos cv e; ⟨c, o, vs, t, a, hf _ _ _ b, r⟩⟩
section
variable (P : Program) (w : World)
def aS (H : Hp) (h : Heap) (a : Addr) : HO→Prop
 | .lst xs => xs.length≤sizeLine∧∃ (its : List Value) (n : Nat), aF xs its∧h.get? a=some { cls := .type "list", data := .seq its.toArray n }
 | .tup xs => xs.length≤sizeLine∧∃ its : List Value, aF xs its∧IsTup h a its.toArray
 | .dK kvs => kvs.length≤sizeLine∧(a == sysModules)=false∧∃ vs, KV kvs vs∧h.DictOf (jV P w) a vs
 | .dT kvs => kvs.length≤sizeLine∧(a == sysModules)=false∧∃ xs : List (List Key×Addr×Value),
  Paired (fun (p : List Key×V) (q : List Key×Addr×Value) => p.1=q.1∧H q.2.1=some (.tup (p.1.map kV))∧aN p.2 q.2.2) kvs xs ∧
  ∃ o es ep, h.get? a=some o∧o.ExactDict∧o.data = .dict es ep∧es.toList=xs.map (entryOfKey (tupleKind (jV P w)))∧(xs.map (·.1)).Nodup
 | .set S n => h.SetOf (intKind P w) a S n
 | .ins C dx fs => H dx=some (.own a)∧fs.length≤1000∧dx ≠ a∧h.get? a=some (PySem.W.instObj C dx) ∧
  ∃ mA, h.Ns1 dx mA∧(∀ f, RelO (fs.lookup f) (mA f))∧PySem.Within mA (fs.map (·.1))
 | .own _ => ∃ o, h.get? a=some o
 | .xd fs => ∃ mA, h.Ns1 a mA∧∀ f, RelO (fs.lookup f) (mA f)
 | .rng lo hi => ∃ t u v, h.get? a=some { cls := .type "range", data := .fields #[.int lo t, .int hi u, .int 1 v] }
 | .frz o u => h.get? a=some o∧aS H h a u
 | .tbl ps q => h.get? a=some { cls := .none, data := .fields ps } ∧ TbV H ps q
 | .met f x => h.get? a=some (PySem.W.methodObj (.ref f) (.ref x))
 | .ext φ => φ h∧(∃ o, h.get? a=some o)∧∀ h1 h2 : Heap, φ h1→(∀ o, h1.get? a=some o→h2.get? a=some o)→φ h2
def HOk (H : Hp) (h : Heap) : Prop := ∀ a o, H a=some o→aS P w H h a o
end
section
variable {P : Program} {w : World} {H H' : Hp} {h h' : Heap} {a : Addr} {o : HO}
theorem aS.lt (x : aS P w H h a o) : a<h.objs.size := by
 cases o with
 | lst xs => obtain ⟨_, _, _, _, e⟩ := x; exact Heap.lt_size e
 | tup xs => obtain ⟨_, _, _, p⟩ := x; exact p.lt
 | dK kvs => obtain ⟨_, _, _, _, o, _, _, e, _⟩ := x; exact Heap.lt_size e
 | dT kvs => obtain ⟨_, _, _, _, o, _, _, e, _⟩ := x; exact Heap.lt_size e
 | set S n => obtain ⟨o, _, _, _, e, _⟩ := x; exact Heap.lt_size e
 | ins C dx fs => obtain ⟨_, _, _, e, _⟩ := x; exact Heap.lt_size e
 | own y => obtain ⟨_, e⟩ := x; exact Heap.lt_size e
 | xd fs => obtain ⟨_, ⟨_, _, _, e, _⟩, _⟩ := x; exact Heap.lt_size e
 | rng lo hi => obtain ⟨_, _, _, e⟩ := x; exact Heap.lt_size e
 | frz ob u => obtain ⟨e, _⟩ := x; exact Heap.lt_size e
 | tbl ps q => obtain ⟨e, _⟩ := x; exact Heap.lt_size e
 | met f y => exact Heap.lt_size (show h.get? a=some _ from x)
 | ext φ => obtain ⟨_, ⟨_, e⟩, _⟩ := x; exact Heap.lt_size e
theorem Paired.mapP {α β : Type} {F G : α→β→Prop} : ∀ {l₁ : List α} {l₂ : List β}, Paired F l₁ l₂→(∀ a b, F a b→G a b)→Paired G l₁ l₂
 | _, _, .nil, _ => .nil
 | _, _, .cons r t, f => .cons (f _ _ r) (Paired.mapP t f)
theorem aS.stay (x : aS P w H h a o) (k : ∀ b u, (b=a∨H b=some (.own a))→h.get? b=some u→h'.get? b=some u)
 (ho : ∀ b, H b=some (.own a)→H' b=some (.own a)) (ht : ∀ b xs, H b=some (.tup xs)→H' b=some (.tup xs)) (hf : ∀ b o u, H b=some (.frz o u)→H' b=some (.frz o u)) : aS P w H' h' a o := by
 induction o with
 | lst xs => obtain ⟨z, its, n, r, e⟩ := x; exact ⟨z, its, n, r, k _ _ (.inl rfl) e⟩
 | tup xs => obtain ⟨z, its, r, ob, e, c⟩ := x; exact ⟨z, its, r, ob, k _ _ (.inl rfl) e, c⟩
 | dK kvs => obtain ⟨z, y, vs, r, ob, es, ep, e, c⟩ := x; exact ⟨z, y, vs, r, ob, es, ep, k _ _ (.inl rfl) e, c⟩
 | dT kvs =>
  obtain ⟨z, y, xs, r, ob, es, ep, e, c⟩ := x
  exact ⟨z, y, xs, Paired.mapP r fun p q z => ⟨z.1, ht _ _ z.2.1, z.2.2⟩, ob, es, ep, k _ _ (.inl rfl) e, c⟩
 | set S n => obtain ⟨ob, es, ep, t, e, c⟩ := x; exact ⟨ob, es, ep, t, k _ _ (.inl rfl) e, c⟩
 | ins C dx fs =>
  obtain ⟨d, z, ne, e, mA, ⟨od, es, ep, e2, c⟩, r⟩ := x
  exact ⟨ho _ d, z, ne, k _ _ (.inl rfl) e, mA, ⟨od, es, ep, k _ _ (.inr d) e2, c⟩, r⟩
 | own y => obtain ⟨ob, e⟩ := x; exact ⟨ob, k _ _ (.inl rfl) e⟩
 | xd fs => obtain ⟨mA, ⟨od, es, ep, e, c⟩, r⟩ := x; exact ⟨mA, ⟨od, es, ep, k _ _ (.inl rfl) e, c⟩, r⟩
 | rng lo hi => obtain ⟨t, u, v, e⟩ := x; exact ⟨t, u, v, k _ _ (.inl rfl) e⟩
 | frz ob u ih => obtain ⟨e, q⟩ := x; exact ⟨k _ _ (.inl rfl) e, ih q⟩
 | tbl ps q => obtain ⟨e, v⟩ := x; exact ⟨k a _ (.inl rfl) e, v.mono hf⟩
 | met f y =>
  have e : h.get? a=some (PySem.W.methodObj (.ref f) (.ref y)) := x
  show h'.get? a=some (PySem.W.methodObj (.ref f) (.ref y))
  exact k a _ (.inl rfl) e
 | ext φ => obtain ⟨p, ⟨o, e⟩, st⟩ := x; exact ⟨st _ _ p fun o q => k _ _ (.inl rfl) q, ⟨o, k _ _ (.inl rfl) e⟩, st⟩
theorem HOk.lt (x : HOk P w H h) (e : H a=some o) : a<h.objs.size := (x a o e).lt
theorem HOk.fresh (x : HOk P w H h) (e : h.objs.size≤a) : H a=none := by
 cases q : H a with
 | none => rfl
 | some u => exact absurd (Nat.lt_of_lt_of_le (x.lt q) e) (Nat.lt_irrefl _)
theorem HOk.kept (x : HOk P w H h) (k : ∀ b u, h.get? b=some u→h'.get? b=some u) : HOk P w H h' := fun a o e =>
 (x a o e).stay (fun b u _ q => k b u q) (fun _ q => q) (fun _ _ q => q) fun _ _ _ q => q
theorem HOk.laid (x : HOk P w H h) (k : ∀ b u, h.get? b=some u→h'.get? b=some u) (hp : h.objs.size≤a) (new : aS P w (upd H a o) h' a o) : HOk P w (upd H a o) h' := fun b u e => by
 have hn := x.fresh hp
 by_cases hb : b=a
 ·subst hb; rw [aA] at e; cases e; exact new
 ·rw [ao hb] at e
  exact (x b u e).stay (fun c v _ q => k c v q) (fun c q => by rw [ao (aw q hn)]; exact q) (fun c xs q => by rw [ao (aw q hn)]; exact q) fun c ob u q => by rw [ao (aw q hn)]; exact q
end
def Rd (H : Hp) (a : Addr) (u : HO) : Prop := H a=some u∨∃ o, H a=some (.frz o u)
theorem Rd.ok {P : Program} {w : World} {H : Hp} {h : Heap} {a : Addr} {u : HO} (r : Rd H a u) (x : HOk P w H h) : aS P w H h a u := by
 rcases r with r | ⟨o, r⟩
 ·exact x a u r
 ·obtain ⟨_, q⟩ := x a _ r
  exact q
def Mut : Option HO→Prop
 | some (.lst _) => True
 | some (.dK _) => True
 | some (.dT _) => True
 | some (.set _ _) => True
 | some (.ins _ _ _) => True
 | some (.ext _) => True
 | _ => False
section
variable {P : Program} {w : World} {H : Hp} {h h' : Heap} {x e : Addr} {o' : HO}
theorem HOk.write (ok : HOk P w H h) (mu : Mut (H x)) (he : e=x∨H e=some (.own x)) (k : ∀ b u, b ≠ e→h.get? b=some u→h'.get? b=some u) (heo : ∃ u, h'.get? e=some u)
 (new : aS P w (upd H x o') h' x o') : HOk P w (upd H x o') h' := fun b u q => by
 have nown : ∀ c y, H c=some (.own y)→c ≠ x := fun c y r z => by subst z; rw [r] at mu; exact mu
 have ntup : ∀ c xs, H c=some (.tup xs)→c ≠ x := fun c xs r z => by subst z; rw [r] at mu; exact mu
 have nfrz : ∀ c ob u, H c=some (.frz ob u)→c ≠ x := fun c ob u r z => by subst z; rw [r] at mu; exact mu
 by_cases hb : b=x
 ·subst hb; rw [aA] at q; cases q; exact new
 ·rw [ao hb] at q
  by_cases hbe : b=e
  ·have q' : H b=some (.own x) := by
    rcases he with z | z
    ·exact absurd (hbe.trans z) hb
    ·rw [hbe]; exact z
   rw [q] at q'; cases q'
   obtain ⟨v, hv⟩ := heo
   exact ⟨v, by rw [hbe]; exact hv⟩
  ·refine (ok b u q).stay (fun c v hc r => k c v ?_ r) (fun c r => by rw [ao (nown c b r)]; exact r) (fun c xs r => by rw [ao (ntup c xs r)]; exact r) fun c ob u r => by rw [ao (nfrz c ob u r)]; exact r
   rcases hc with rfl | hc
   ·exact hbe
   ·rintro rfl
    rcases he with z | z
    ·exact nown c b hc z
    ·rw [hc] at z; cases z; exact hb rfl
end
structure Un (fs ex : List Addr) (H H' : Hp) (h h' : Heap) : Prop where
 keep : ∀ b o, h.get? b=some o→H b=none→b ∉ fs→b ∉ ex→h'.get? b=some o
 slot : ∀ b o, h.get? b=some o→H b=none→b∈fs→b ∉ ex→∃ sl, h'.get? b=some { o with slots := sl }
 free : ∀ b o, h.get? b=some o→H b=none→b ∉ ex→H' b=none
 there : ∀ b o, h.get? b=some o→b ∉ ex→∃ o', h'.get? b=some o'
 tups : ∀ b xs, H b=some (.tup xs)→H' b=some (.tup xs)
 frzs : ∀ b o u, H b=some (.frz o u)→H' b=some (.frz o u)
 tbls : ∀ b ps q, H b=some (.tbl ps q)→∃ more, H' b=some (.tbl (ps++more) q)
section
variable {fs fs' ex ex' : List Addr} {H H1 H2 : Hp} {h h1 h2 h' : Heap} {a x e : Addr} {o : HO}
theorem Un.any (u : Un fs ex H H1 h h1) {b : Addr} {ob : Obj} (q : h.get? b=some ob) (n : H b=none) (hx : b ∉ ex) : ∃ sl, h1.get? b=some { ob with slots := sl } := by
 by_cases hb : b∈fs
 ·exact u.slot b ob q n hb hx
 ·exact ⟨ob.slots, u.keep b ob q n hb hx⟩
theorem Un.kept (k : ∀ b u, h.get? b=some u→h'.get? b=some u) : Un fs ex H H h h' :=
 ⟨fun b ob q _ _ _ => k b ob q, fun b ob q _ _ _ => ⟨ob.slots, k b ob q⟩, fun _ _ _ n _ => n, fun b ob q _ => ⟨ob, k b ob q⟩, fun _ _ q => q, fun _ _ _ q => q, fun _ ps _ q => ⟨#[], by rw [q]; simp⟩⟩
theorem Un.refl : Un fs ex H H h h := Un.kept fun _ _ q => q
theorem Un.laid (k : ∀ b u, h.get? b=some u→h'.get? b=some u) (hp : h.objs.size≤a) (hn : H a=none) : Un fs ex H (upd H a o) h h' where
 keep := fun b u q _ _ _ => k b u q
 slot := fun b u q _ _ _ => ⟨u.slots, k b u q⟩
 free := fun b u q n _ => by rw [ao (Nat.ne_of_lt (Nat.lt_of_lt_of_le (Heap.lt_size q) hp))]; exact n
 there := fun b u q _ => ⟨u, k b u q⟩
 tups := fun b xs q => by rw [ao (aw q hn)]; exact q
 frzs := fun b u xs q => by rw [ao (aw q hn)]; exact q
 tbls := fun b ps _ q => ⟨#[], by rw [ao (aw q hn), q]; simp⟩
theorem Un.write (mu : Mut (H x)) (he : e=x∨H e=some (.own x)) (k : ∀ b u, b ≠ e→h.get? b=some u→h'.get? b=some u) (heo : ∃ u, h'.get? e=some u) : Un fs ex H (upd H x o) h h' := by
 have hx : ∀ b, H b=none→b ≠ x := fun b n z => by subst z; rw [n] at mu; exact mu
 have hb : ∀ b, H b=none→b ≠ e := fun b n z => by
  subst z
  rcases he with r | r
  ·exact hx b n r
  ·rw [n] at r; cases r
 have hm : ∀ b u, H b=some u→¬ Mut (some u)→b ≠ x := fun b u q nm z => by subst z; rw [q] at mu; exact nm mu
 refine ⟨fun b u q n _ _ => k b u (hb b n) q, fun b u q n _ _ => ⟨u.slots, k b u (hb b n) q⟩, fun b u q n _ => by rw [ao (hx b n)]; exact n, fun b u q _ => ?_,
  fun b xs q => by rw [ao (hm b _ q fun z => z)]; exact q, fun b u xs q => by rw [ao (hm b _ q fun z => z)]; exact q, fun b ps _ q => ⟨#[], by rw [ao (hm b _ q fun z => z), q]; simp⟩⟩
 by_cases hbe : b=e
 ·subst hbe; exact heo
 ·exact ⟨u, k b u hbe q⟩
end
def kG (v : Value) : Obj := ⟨v, none, .freed, #[]⟩
def kM (h : Heap) (H : Hp) (i : Addr) : Obj := match H i with
 | some (.tbl _ q) => kG (.str q 0)
 | some _ => kG .none
 | none => match h.get? i with
  | some o => o
  | none => kG .none
def dC (h : Heap) (H : Hp) : Heap := ⟨Array.ofFn (n := h.objs.size) fun i => kM h H i, h.life⟩
theorem eA (h : Heap) (H : Hp) : (dC h H).objs.size=h.objs.size := by simp [dC]
theorem i3 {h : Heap} {H : Hp} {b : Addr} {o : Obj} (e : (dC h H).objs[b]? = some o) : b<h.objs.size∧o=kM h H b := by
 obtain ⟨hb, e⟩ := Array.getElem?_eq_some_iff.mp e
 rw [eA] at hb
 refine ⟨hb, ?_⟩
 rw [← e]; simp [dC]
theorem nofree {h : Heap} {b : Addr} {o : Obj} (e : h.get? b=some o) : h.objs[b]? = some o∧o.data ≠ .freed := by
 unfold Heap.get? at e
 split at e
 ·cases e
 ·rename_i hn
  refine ⟨e, fun z => ?_⟩
  obtain ⟨c, d, da, sl⟩ := o
  have z : da = .freed := z
  subst z
  exact hn c d sl e
theorem oz {h : Heap} {b : Addr} {o : Obj} (e : h.objs[b]? = some o) (n : o.data ≠ .freed) : h.get? b=some o := by
 unfold Heap.get?
 split
 ·rename_i c d sl e'
  rw [e] at e'; cases e'
  exact absurd rfl n
 ·exact e
theorem nh {h : Heap} {H : Hp} {b : Addr} {o : Obj} (e : h.get? b=some o) (n : H b=none) : (dC h H).get? b=some o := by
 have hb : b<(dC h H).objs.size := by rw [eA]; exact Heap.lt_size e
 refine oz ?_ (nofree e).2
 rw [Array.getElem?_eq_getElem hb]
 have : (dC h H).objs[b]=kM h H b := by simp [dC]
 rw [this]; unfold kM; rw [n, e]
theorem oP {h : Heap} {H : Hp} {b : Addr} {o : Obj} (e : (dC h H).get? b=some o) : h.get? b=some o∧H b=none := by
 obtain ⟨e1, nf⟩ := nofree e
 obtain ⟨_, e2⟩ := i3 e1
 unfold kM at e2
 split at e2
 ·rw [e2] at nf; exact absurd rfl nf
 ·rw [e2] at nf; exact absurd rfl nf
 ·rename_i hn
  split at e2
  ·rename_i o' e3
   exact ⟨e3.trans (by rw [e2]), hn⟩
  ·rw [e2] at nf; exact absurd rfl nf
def TMk (base : Heap) (P : Addr) (q : Str) : Prop := base.objs[P]? = some (kG (.str q 0))
def TbM (base : Heap) (H : Hp) : Prop := ∀ P q, TMk base P q→∃ ps, H P=some (.tbl ps q)
theorem TbM.un {base h h' : Heap} {H H' : Hp} {fs ex : List Addr} (x : TbM base H) (u : Un fs ex H H' h h') : TbM base H' := fun P q m => let ⟨ps, z⟩ := x P q m; let ⟨more, y⟩ := u.tbls P ps q z; ⟨_, y⟩
theorem TbM.hid {h : Heap} {H : Hp} : TbM (dC h H) H := fun P q m => by
 obtain ⟨_, e⟩ := i3 m
 unfold kM at e
 split at e
 ·rename_i ps q' hq
  have e : kG (.str q 0)=kG (.str q' 0) := e
  cases e; exact ⟨ps, hq⟩
 ·cases e
 ·split at e
  ·rename_i o e3
   have := (nofree e3).2
   rw [← e] at this; exact absurd rfl this
  ·cases e
structure Mod (K : PySem.W.Frag) (mg : Str→Option Value) (base : Heap) : Prop where
 kin : K.In base
 glob : base.Ns mainGlobals mg
 blt : ∃ mb, base.Ns builtinsNs mb∧∀ x : Str, x ≠ "__name__" → mb x=bootBuiltins x
 nolimit : base.NoLimit
structure Cx where
 prog : Program
 w : World
 K : PySem.W.Frag
 mg : Str→Option Value
 base : Heap
 A : Around
 N : List Str
 s₀ : Shared
 H₀ : Hp
 env : Env
 outer : List Env
 stack : List Env
 ex : List Addr
 fn : Str→Bool
 calm : Bool
 pn : List (Addr×Obj)
 xe : Value→Shared→Prop
def frs (l : List Env) : List Addr := l.filterMap (·.frame)
abbrev Cx.fs (X : Cx) : List Addr := frs X.outer
def Vis (sc : Scope) (x : Str) : Prop := sc.names.lookup x=some .local∨sc.names.lookup x=some .cell∨sc.names.lookup x=some .free
def Loc (sc : Scope) (x : Str) : Prop := sc.names.lookup x=some .local∨sc.names.lookup x=some .cell
def Look (env : Env) (h : Heap) (m : Str→Option Value) (x : Str) (u : Value) : Prop :=
 (env.kindOf x=some .local∧m x=some u)∨((env.kindOf x=some .cell∨env.kindOf x=some .free)∧∃ c, env.cells.lookup x=some c∧h.IsCell c (some u))
structure Cx.Ok (X : Cx) : Prop where
 mod : Mod X.K X.mg X.base
 kind : X.env.scope.kind = .function
 glob : X.env.globals=mainGlobals
 blt : X.env.builtins=builtinsNs
 above : X.s₀.heap.objs.size≤X.env.locals
 inj : ∀ x y c, X.env.cells.lookup x=some c→X.env.cells.lookup y=some c→x=y
 has : ∀ x, (X.env.kindOf x=some .cell∨X.env.kindOf x=some .free)→∃ c, X.env.cells.lookup x=some c
 cab : ∀ x c, X.fn x=true→X.env.cells.lookup x=some c→X.s₀.heap.objs.size≤c
 hd : X.calm=true→X.A.handled=none
 frames : X.A.frames=some X.stack
 stk : X.stack=X.outer∨(X.stack=X.env :: X.outer∧X.env.frame=some X.env.locals)
 exf : ∀ b∈X.ex, b ≠ X.env.locals∧∀ x c, X.env.cells.lookup x=some c→c ≠ b
 bs : ∀ b o, X.base.get? b=some o→X.s₀.heap.get? b=some o∧X.H₀ b=none
 bsz : X.base.objs.size≤X.s₀.heap.objs.size
 noex : ∀ b o, X.base.get? b=some o→b ∉ X.ex
 exfs : ∀ b∈X.ex, b ∉ X.fs
 funs : X.s₀.heap.FunFrames X.base X.outer
 frf : ∀ b∈X.fs, X.H₀ b=none
 tb : TbM X.base X.H₀
structure Inv (X : Cx) (pins : List (Addr×Obj)) (σ : List (Option V)) (H : Hp) (s : Shared) : Prop where
 ok : X.Ok
 os : s.os=X.s₀.os
 bare : AllBare s.gens
 base : Un X.fs X.ex X.H₀ H X.s₀.heap s.heap
 loc : ∃ m, s.heap.Ns X.env.locals m∧∀ (i : Nat) (x : Str) (v : V), X.N[i]? = some x→σ[i]? = some (some v)→Vis X.env.scope x→∃ u, aN v u∧Look X.env s.heap m x u
 cell : ∀ x c, X.env.cells.lookup x=some c→∃ v, s.heap.IsCell c v
 free : H X.env.locals=none
 freeC : ∀ x c, X.env.cells.lookup x=some c→H c=none
 pin : ∀ p∈X.pn++pins, s.heap.get? p.1=some p.2∧H p.1=none∧p.1 ≠ X.env.locals∧p.1 ∉ X.fs∧∀ v, p.2.data ≠ .cell v
 hok : HOk X.prog X.w H s.heap
 len : σ.length=X.N.length
section
variable {X : Cx} {pins : List (Addr×Obj)} {σ : List (Option V)} {H H' : Hp} {s : Shared} {h' : Heap}
theorem Cx.Ok.nofr (ok : X.Ok) {b : Addr} {o : Obj} (e : X.base.get? b=some o) : b ∉ X.fs := fun hb => by
 have := (ok.funs.mem hb).1
 rw [e] at this; cases this
theorem Inv.bs (I : Inv X pins σ H s) : ∀ b o, X.base.get? b=some o→s.heap.get? b=some o∧H b=none := fun b o e =>
 ⟨I.base.keep b o (I.ok.bs b o e).1 (I.ok.bs b o e).2 (I.ok.nofr e) (I.ok.noex b o e), I.base.free b o (I.ok.bs b o e).1 (I.ok.bs b o e).2 (I.ok.noex b o e)⟩
theorem Inv.bk (I : Inv X pins σ H s) : ∀ b o, X.base.get? b=some o→s.heap.get? b=some o := fun b o e => (I.bs b o e).1
theorem Inv.mod (I : Inv X pins σ H s) : Mod X.K X.mg X.base := I.ok.mod
theorem Inv.kIn (I : Inv X pins σ H s) : X.K.In s.heap := I.ok.mod.kin.keeps I.bk
theorem Inv.fr (I : Inv X pins σ H s) : ∃ m, Fr X.base X.env.locals s.heap m :=
 let ⟨m, hn, _⟩ := I.loc
 ⟨m, hn, I.bk, Nat.le_trans I.ok.bsz I.ok.above⟩
theorem Inv.lt (I : Inv X pins σ H s) : X.env.locals<s.heap.objs.size := let ⟨_, hn, _⟩ := I.loc; hn.lt
theorem Inv.sz (I : Inv X pins σ H s) : X.s₀.heap.objs.size≤s.heap.objs.size := Nat.le_trans I.ok.above (Nat.le_of_lt I.lt)
theorem Inv.nofs (I : Inv X pins σ H s) {a : Addr} (h : s.heap.objs.size≤a) : a ∉ X.fs := fun hb => by
 obtain ⟨_, o, ho, _⟩ := I.ok.funs.mem hb
 exact absurd (Nat.lt_of_lt_of_le (Heap.lt_size ho) (Nat.le_trans I.sz h)) (Nat.lt_irrefl _)
theorem Inv.cne (I : Inv X pins σ H s) : ∀ x c, X.env.cells.lookup x=some c→c ≠ X.env.locals := fun x c e z => by
 obtain ⟨v, o, ho, hd⟩ := I.cell x c e
 obtain ⟨m, ⟨o', es, ep, ho', hd', _⟩, _⟩ := I.loc
 rw [z, ho'] at ho; cases ho; rw [hd'] at hd; cases hd
theorem Inv.funs (I : Inv X pins σ H s) : s.heap.FunFrames X.base X.outer := by
 have all : ∀ (l : List Env), (∀ b∈frs l, b∈X.fs)→X.s₀.heap.FunFrames X.base l→s.heap.FunFrames X.base l := by
  intro l
  induction l with
  | nil => intro _ _; trivial
  | cons env r ih =>
   intro hs hl
   obtain ⟨hk, ⟨L, o, hf, hn, ho, hd⟩, hr⟩ := hl
   have hL : L∈X.fs := hs L (by unfold frs; rw [List.filterMap_cons, hf]; exact List.mem_cons_self)
   obtain ⟨sl, e⟩ := I.base.slot L o ho (I.ok.frf L hL) hL fun z => I.ok.exfs L z hL
   exact ⟨hk, ⟨L, _, hf, hn, e, hd⟩, ih (fun b hb => hs b (by unfold frs; rw [List.filterMap_cons, hf]; exact List.mem_cons_of_mem _ hb)) hr⟩
 exact all X.outer (fun _ hb => hb) I.ok.funs
theorem Inv.stack (I : Inv X pins σ H s) : s.heap.FunFrames X.base X.stack := by
 rcases I.ok.stk with e | ⟨e, hf⟩
 ·rw [e]; exact I.funs
 ·rw [e]
  obtain ⟨m, hn, _⟩ := I.loc
  refine .cons (by rw [I.ok.kind]; decide) hf hn ?_ I.funs
  exact Heap.get?_none_of_le (Nat.le_trans I.ok.bsz I.ok.above)
theorem Inv.stkSub (I : Inv X pins σ H s) : ∀ b∈frs X.stack, b∈X.env.locals :: X.fs := fun b hb => by
 rcases I.ok.stk with e | ⟨e, hf⟩
 ·rw [e] at hb; exact List.mem_cons_of_mem _ hb
 ·rw [e] at hb
  unfold frs at hb
  rw [List.filterMap_cons, hf] at hb
  exact hb
theorem Inv.stkFree (I : Inv X pins σ H s) : ∀ b∈frs X.stack, H b=none := fun b hb => by
 rcases List.mem_cons.mp (I.stkSub b hb) with e | hb
 ·rw [e]; exact I.free
 ·obtain ⟨_, o, ho, _⟩ := I.ok.funs.mem hb
  exact I.base.free b o ho (I.ok.frf b hb) fun z => I.ok.exfs b z hb
theorem Inv.step {g' : Array GenState} {t' : Nat} {d' : Drawn} {ch : List Addr} (I : Inv X pins σ H s)
 (hch : ∀ b∈ch, (b∈X.ex∨X.s₀.heap.objs.size≤b)∧b ≠ X.env.locals∧(∀ x c, X.env.cells.lookup x=some c→c ≠ b)∧∀ p∈X.pn++pins, p.1 ≠ b)
 (keep : ∀ b o, b ≠ X.env.locals→b ∉ X.fs→b ∉ ch→s.heap.get? b=some o→H b=none→h'.get? b=some o)
 (slot : ∀ b o, b ≠ X.env.locals→b∈X.fs→b ∉ ch→s.heap.get? b=some o→H b=none→∃ sl, h'.get? b=some { o with slots := sl }) (free : ∀ b o, b ∉ ch→s.heap.get? b=some o→H b=none→H' b=none)
 (there : ∀ b o, b ∉ ch→s.heap.get? b=some o→∃ o', h'.get? b=some o')
 (tups : ∀ b xs, H b=some (.tup xs)→H' b=some (.tup xs)) (frzs : ∀ b o u, H b=some (.frz o u)→H' b=some (.frz o u)) (tbls : ∀ b ps q, H b=some (.tbl ps q)→∃ more, H' b=some (.tbl (ps++more) q))
 (ns : ∀ m, s.heap.Ns X.env.locals m→h'.Ns X.env.locals m) (hok : HOk X.prog X.w H' h') (hg : AllBare g') :
 Inv X pins σ H' { s with heap := h', gens := g', drawn := d', toks := t' } := by
 have neL : ∀ b o, X.s₀.heap.get? b=some o→b ≠ X.env.locals := fun b o e => Nat.ne_of_lt (Nat.lt_of_lt_of_le (Heap.lt_size e) I.ok.above)
 have neC : ∀ b o, X.s₀.heap.get? b=some o→b ∉ X.ex→b ∉ ch := fun b o e hx hb => by
  rcases (hch b hb).1 with z | z
  ·exact hx z
  ·exact absurd (Nat.lt_of_lt_of_le (Heap.lt_size e) z) (Nat.lt_irrefl _)
 have cellK : ∀ x c, X.env.cells.lookup x=some c→∀ v, s.heap.IsCell c v→h'.IsCell c v := fun x c e v ⟨o, ho, hd⟩ => by
  have nch : c ∉ ch := fun z => (hch c z).2.2.1 x c e rfl
  by_cases hc : c∈X.fs
  ·obtain ⟨sl, q⟩ := slot c o (I.cne x c e) hc nch ho (I.freeC x c e)
   exact ⟨_, q, hd⟩
  ·exact ⟨o, keep c o (I.cne x c e) hc nch ho (I.freeC x c e), hd⟩
 refine ⟨I.ok, I.os, hg, ⟨fun b o e n hb hx => ?_, fun b o e n hb hx => ?_, fun b o e n hx => ?_, fun b o e hx => ?_, fun b xs e => tups b xs (I.base.tups b xs e), fun b o xs e => frzs b o xs (I.base.frzs b o xs e), fun b ps q e => ?_⟩, ?_, fun x c e => ?_, ?_, fun x c e => ?_, fun p hp => ?_, hok, I.len⟩
 ·exact keep b o (neL b o e) hb (neC b o e hx) (I.base.keep b o e n hb hx) (I.base.free b o e n hx)
 ·obtain ⟨sl, e1⟩ := I.base.slot b o e n hb hx
  obtain ⟨sl', e2⟩ := slot b _ (neL b o e) hb (neC b o e hx) e1 (I.base.free b o e n hx)
  exact ⟨sl', e2⟩
 ·obtain ⟨o', e1⟩ := I.base.there b o e hx
  exact free b o' (neC b o e hx) e1 (I.base.free b o e n hx)
 ·obtain ⟨o', e1⟩ := I.base.there b o e hx
  exact there b o' (neC b o e hx) e1
 ·obtain ⟨m1, e1⟩ := I.base.tbls b ps q e
  obtain ⟨m2, e2⟩ := tbls b _ q e1
  exact ⟨m1++m2, by rw [e2, Array.append_assoc]⟩
 ·obtain ⟨m, hn, hl⟩ := I.loc
  refine ⟨m, ns m hn, fun i x v e1 e2 e3 => ?_⟩
  obtain ⟨u, r, l⟩ := hl i x v e1 e2 e3
  refine ⟨u, r, ?_⟩
  rcases l with l | ⟨k, c, e, z⟩
  ·exact .inl l
  ·exact .inr ⟨k, c, e, cellK x c e _ z⟩
 ·obtain ⟨v, z⟩ := I.cell x c e
  exact ⟨v, cellK x c e v z⟩
 ·obtain ⟨m, ⟨o, _, _, ho, _⟩, _⟩ := I.loc
  exact free _ o (fun z => (hch _ z).2.1 rfl) ho I.free
 ·obtain ⟨v, o, ho, hd⟩ := I.cell x c e
  exact free c o (fun z => (hch c z).2.2.1 x c e rfl) ho (I.freeC x c e)
 ·obtain ⟨e, n, ne, nf, d⟩ := I.pin p hp
  have nch : p.1 ∉ ch := fun z => (hch p.1 z).2.2.2 p hp rfl
  exact ⟨keep p.1 p.2 ne nf nch e n, free p.1 p.2 nch e n, ne, nf, d⟩
theorem Inv.un {t' : Nat} (I : Inv X pins σ H s) (u : Un X.fs [] H H' s.heap h') (hok : HOk X.prog X.w H' h') : Inv X pins σ H' { s with heap := h', toks := t' } := by
 obtain ⟨m, ⟨o, es, ep, ho, r⟩, _⟩ := id I.loc
 obtain ⟨sl, hL⟩ := u.any ho I.free (by simp)
 exact I.step (g' := s.gens) (d' := s.drawn) (ch := []) (fun _ z => nomatch z) (fun b o _ hb _ e n => u.keep b o e n hb (by simp)) (fun b o _ hb _ e n => u.slot b o e n hb (by simp)) (fun b o _ e n => u.free b o e n (by simp)) (fun b o _ e => u.there b o e (by simp)) u.tups u.frzs u.tbls (fun m' hm => by
  obtain ⟨o', es', ep', ho', r'⟩ := hm
  rw [ho] at ho'; cases ho'
  exact ⟨_, es', ep', hL, r'⟩) hok I.bare
theorem Inv.call {g' : Array GenState} {t' : Nat} {d' : Drawn} {ch : List Addr} (I : Inv X pins σ H s) (u : Un (frs X.stack) ch H H' s.heap h') (hok : HOk X.prog X.w H' h') (hg : AllBare g')
 (hch : ∀ b∈ch, (b∈X.ex∨X.s₀.heap.objs.size≤b)∧b ≠ X.env.locals∧(∀ x c, X.env.cells.lookup x=some c→c ≠ b)∧∀ p∈X.pn++pins, p.1 ≠ b) :
 Inv X pins σ H' { s with heap := h', gens := g', drawn := d', toks := t' } := by
 obtain ⟨m, ⟨o, es, ep, ho, r⟩, _⟩ := id I.loc
 obtain ⟨sl, hL⟩ := u.any ho I.free fun z => (hch _ z).2.1 rfl
 exact I.step (ch := ch) hch (fun b o hL hb hc e n => u.keep b o e n (fun z => (List.mem_cons.mp (I.stkSub b z)).elim hL hb) hc) (fun b o _ _ hc e n => u.any e n hc) (fun b o hc e n => u.free b o e n hc) (fun b o hc e => u.there b o e hc) u.tups u.frzs u.tbls (fun m' hm => by
  obtain ⟨o', es', ep', ho', r'⟩ := hm
  rw [ho] at ho'; cases ho'
  exact ⟨_, es', ep', hL, r'⟩) hok hg
theorem Inv.turned {t' : Nat} {it : Addr} (I : Inv X pins σ H s) (k : ∀ b o, b ≠ it→s.heap.get? b=some o→h'.get? b=some o) (hn : H it=none) (hL : it ≠ X.env.locals)
 (h1 : it∈X.ex∨X.s₀.heap.objs.size≤it) (h2 : ∀ x c, X.env.cells.lookup x=some c→c ≠ it) (h3 : ∀ p∈X.pn++pins, p.1 ≠ it) : Inv X pins σ H { s with heap := h', toks := t' } := by
 have nit : ∀ b u, H b=some u→b ≠ it := fun b u e z => by rw [z, hn] at e; cases e
 refine I.step (g' := s.gens) (d' := s.drawn) (ch := [it]) (fun b hb => ?_) (fun b o _ _ hc e _ => k b o (fun z => hc (by simp [z])) e) (fun b o _ _ hc e _ => ⟨o.slots, k b o (fun z => hc (by simp [z])) e⟩) (fun _ _ _ _ n => n)
  (fun b o hc e => ⟨o, k b o (fun z => hc (by simp [z])) e⟩) (fun _ _ e => e) (fun _ _ _ e => e) (fun b ps _ e => ⟨#[], by rw [e]; simp⟩) (fun m hm => ?_) (fun b u e => ?_) I.bare
 ·have e : b=it := by simpa using hb
  subst e
  exact ⟨h1, hL, h2, h3⟩
 ·obtain ⟨o, es, ep, ho, r⟩ := hm
  exact ⟨o, es, ep, k _ o (Ne.symm hL) ho, r⟩
 ·refine (I.hok b u e).stay (fun c v hc q => k c v ?_ q) (fun _ q => q) (fun _ _ q => q) fun _ _ _ q => q
  rcases hc with z | z
  ·rw [z]; exact nit b u e
  ·exact nit c _ z
theorem Inv.tok (I : Inv X pins σ H s) (t : Nat) : Inv X pins σ H { s with toks := t } := I.un (h' := s.heap) (t' := t) Un.refl I.hok
theorem Inv.kept {t' : Nat} (I : Inv X pins σ H s) (k : ∀ b u, s.heap.get? b=some u→h'.get? b=some u) : Inv X pins σ H { s with heap := h', toks := t' } := I.un (Un.kept k) (I.hok.kept k)
theorem Inv.laid {a : Addr} {o : HO} {t' : Nat} (I : Inv X pins σ H s) (k : ∀ b u, s.heap.get? b=some u→h'.get? b=some u) (hp : s.heap.objs.size≤a) (new : aS X.prog X.w (upd H a o) h' a o) :
 Inv X pins σ (upd H a o) { s with heap := h', toks := t' } := I.un (Un.laid k hp (I.hok.fresh hp)) (I.hok.laid k hp new)
theorem Inv.write {x e : Addr} {o : HO} {t' : Nat} (I : Inv X pins σ H s) (mu : Mut (H x)) (he : e=x∨H e=some (.own x)) (k : ∀ b u, b ≠ e→s.heap.get? b=some u→h'.get? b=some u) (heo : ∃ u, h'.get? e=some u)
 (new : aS X.prog X.w (upd H x o) h' x o) : Inv X pins σ (upd H x o) { s with heap := h', toks := t' } := I.un (Un.write mu he k heo) (I.hok.write mu he k heo new)
theorem Inv.weak {σ' : List (Option V)} (I : Inv X pins σ H s) (hl : σ'.length=σ.length) (w : ∀ (i : Nat) v, σ'[i]? = some (some v)→σ[i]? = some (some v)) : Inv X pins σ' H s :=
 ⟨I.ok, I.os, I.bare, I.base, let ⟨m, hn, hl'⟩ := I.loc; ⟨m, hn, fun i x v e1 e2 e3 => hl' i x v e1 (w i v e2) e3⟩, I.cell, I.free, I.freeC, I.pin, I.hok, hl.trans I.len⟩
theorem Inv.pins_of {pins' : List (Addr×Obj)} (I : Inv X pins σ H s) (h : ∀ p∈pins', s.heap.get? p.1=some p.2∧H p.1=none∧p.1 ≠ X.env.locals∧p.1 ∉ X.fs∧∀ v, p.2.data ≠ .cell v) : Inv X pins' σ H s :=
 ⟨I.ok, I.os, I.bare, I.base, I.loc, I.cell, I.free, I.freeC, fun p hp => (List.mem_append.mp hp).elim (fun z => I.pin p (List.mem_append_left _ z)) (h p), I.hok, I.len⟩
theorem io {N : List Str} (hN : N.Nodup) {i j : Nat} {x : Str} (a : N[i]? = some x) (b : N[j]? = some x) : i=j := by
 obtain ⟨h1, e1⟩ := List.getElem?_eq_some_iff.mp a
 obtain ⟨h2, e2⟩ := List.getElem?_eq_some_iff.mp b
 exact (List.getElem_inj hN).mp (e1.trans e2.symm)
theorem gw {M : Model} {A : Around} {E : Value→Shared→Prop} {i : Nat} {x : Str} {v : V} {u : Value} {Q : Unit→Shared→Prop} (I : Inv X pins σ H s) (hN : X.N.Nodup) (hi : X.N[i]? = some x) (hx : Loc X.env.scope x) (r : aN v u)
 (h : ∀ s', Inv X pins (σ.set i (some v)) H s'→(∃ a, Heap.SameBut a s.heap s'.heap∧(a=X.env.locals∨X.env.cells.lookup x=some a))→Q () s') (hf : X.fn x=true∨X.env.scope.names.lookup x=some .local := by first | exact .inl rfl | exact .inr rfl | assumption) : wpAny M A (storeName X.env x u) Q E s := by
 obtain ⟨m, hn, hl⟩ := id I.loc
 have hcls : (X.env.scope.kind == .class||(X.env.scope.kind == .module&&X.env.locals != X.env.globals))=false := by rw [I.ok.kind]; rfl
 have hiσ : i<σ.length := by rw [I.len]; exact (List.getElem?_eq_some_iff.mp hi).1
 have cne := I.cne
 have tracked : ∀ {a : Addr} {h' : Heap}, (∃ o, s.heap.get? a=some o∧H a=none)→Heap.SameBut a s.heap h'→HOk X.prog X.w H h' := fun {a h'} ha hs b ob e => by
  obtain ⟨_, _, hfree⟩ := ha
  refine (I.hok b ob e).stay (fun c w' hc q => (hs.2 c ?_).trans q) (fun _ q => q) (fun _ _ q => q) fun _ _ _ q => q
  rintro rfl
  rcases hc with rfl | hc
  ·rw [hfree] at e; cases e
  ·rw [hfree] at hc; cases hc
 rcases hx with hk | hk
 ·refine wpAny_storeName_local hk hn (fun h' hn' hs => ?_) hcls
  obtain ⟨oL, _, _, hoL, _⟩ := id hn
  refine h _ ⟨I.ok, I.os, I.bare, ⟨fun b o e n hb hx => ?_, fun b o e n hb hx => ?_, I.base.free, fun b o e hx => ?_, I.base.tups, I.base.frzs, I.base.tbls⟩, ⟨_, hn', fun j y v' e1 e2 e3 => ?_⟩, fun y c e => ?_, I.free, I.freeC, fun p hp => ?_, tracked ⟨oL, hoL, I.free⟩ hs, by simpa using I.len⟩ ⟨_, hs, .inl rfl⟩
  ·exact (hs.2 b (Nat.ne_of_lt (Nat.lt_of_lt_of_le (Heap.lt_size e) I.ok.above))).trans (I.base.keep b o e n hb hx)
  ·obtain ⟨sl, e1⟩ := I.base.slot b o e n hb hx
   exact ⟨sl, (hs.2 b (Nat.ne_of_lt (Nat.lt_of_lt_of_le (Heap.lt_size e) I.ok.above))).trans e1⟩
  ·obtain ⟨o', e1⟩ := I.base.there b o e hx
   exact ⟨o', (hs.2 b (Nat.ne_of_lt (Nat.lt_of_lt_of_le (Heap.lt_size e) I.ok.above))).trans e1⟩
  ·by_cases hj : j=i
   ·subst hj
    rw [hi] at e1; cases e1
    rw [List.getElem?_set_self hiσ] at e2
    cases e2
    exact ⟨u, r, .inl ⟨hk, by simp⟩⟩
   ·rw [List.getElem?_set_ne (Ne.symm hj)] at e2
    obtain ⟨u', r', q⟩ := hl j y v' e1 e2 e3
    refine ⟨u', r', ?_⟩
    rcases q with ⟨k, e⟩ | ⟨k, c, e, z⟩
    ·refine .inl ⟨k, ?_⟩
     have : y ≠ x := fun e => hj (io hN e1 (e ▸ hi))
     simp [this, e]
    ·exact .inr ⟨k, c, e, z.sameBut hs (cne y c e)⟩
  ·obtain ⟨w', z⟩ := I.cell y c e
   exact ⟨w', z.sameBut hs (cne y c e)⟩
  ·obtain ⟨e, n, ne, nf, d⟩ := I.pin p hp
   exact ⟨(hs.2 p.1 ne).trans e, n, ne, nf, d⟩
 ·have hfn : X.fn x=true := by
   rcases hf with z | z
   ·exact z
   ·rw [z] at hk; cases hk
  obtain ⟨c, hc⟩ := I.ok.has x (.inl hk)
  obtain ⟨w', z⟩ := I.cell x c hc
  refine wpAny_storeName_cell I.ok.kind hk hc z (fun h' hc' hs => ?_)
  obtain ⟨oc, hoc, hocd⟩ := id z
  refine h { s with heap := h' } ⟨I.ok, I.os, I.bare, ⟨fun b o e n hb hx => ?_, fun b o e n hb hx => ?_, I.base.free, fun b o e hx => ?_, I.base.tups, I.base.frzs, I.base.tbls⟩, ⟨m, hn.sameBut hs (Ne.symm (cne x c hc)), fun j y v' e1 e2 e3 => ?_⟩, fun y c' e => ?_, I.free, I.freeC, fun p hp => ?_, tracked ⟨oc, hoc, I.freeC x c hc⟩ hs, by simpa using I.len⟩ ⟨c, hs, .inr hc⟩
  ·exact (hs.2 b (Nat.ne_of_lt (Nat.lt_of_lt_of_le (Heap.lt_size e) (I.ok.cab x c hfn hc)))).trans (I.base.keep b o e n hb hx)
  ·obtain ⟨sl, e1⟩ := I.base.slot b o e n hb hx
   exact ⟨sl, (hs.2 b (Nat.ne_of_lt (Nat.lt_of_lt_of_le (Heap.lt_size e) (I.ok.cab x c hfn hc)))).trans e1⟩
  ·obtain ⟨o', e1⟩ := I.base.there b o e hx
   exact ⟨o', (hs.2 b (Nat.ne_of_lt (Nat.lt_of_lt_of_le (Heap.lt_size e) (I.ok.cab x c hfn hc)))).trans e1⟩
  ·by_cases hj : j=i
   ·subst hj
    rw [hi] at e1; cases e1
    rw [List.getElem?_set_self hiσ] at e2
    cases e2
    exact ⟨u, r, .inr ⟨.inl hk, c, hc, hc'⟩⟩
   ·rw [List.getElem?_set_ne (Ne.symm hj)] at e2
    obtain ⟨u', r', q⟩ := hl j y v' e1 e2 e3
    refine ⟨u', r', ?_⟩
    rcases q with q | ⟨k, c', e, z'⟩
    ·exact .inl q
    ·refine .inr ⟨k, c', e, z'.sameBut hs ?_⟩
     rintro rfl
     exact hj (io hN e1 (I.ok.inj _ _ _ e hc ▸ hi))
  ·by_cases hcc : c'=c
   ·subst hcc; exact ⟨_, hc'⟩
   ·obtain ⟨w2, z2⟩ := I.cell y c' e
    exact ⟨w2, z2.sameBut hs hcc⟩
  ·obtain ⟨e, n, ne, nf, d⟩ := I.pin p hp
   refine ⟨(hs.2 p.1 ?_).trans e, n, ne, nf, d⟩
   intro q
   rw [q, hoc] at e
   have q' : oc=p.2 := Option.some.inj e
   exact d w' (by rw [← q']; exact hocd)
theorem dY {M : Model} {A : Around} {E : Value→Shared→Prop} {i : Nat} {x : Str} {v : V} {u : Value} {Q : Unit→Shared→Prop} (I : Inv X pins σ H s) (hN : X.N.Nodup) (hi : X.N[i]? = some x) (hx : Loc X.env.scope x) (r : aN v u)
 (h : ∀ s', Inv X pins (σ.set i (some v)) H s'→Q () s') (hf : X.fn x=true∨X.env.scope.names.lookup x=some .local := by first | exact .inl rfl | exact .inr rfl | assumption) : wpAny M A (storeName X.env x u) Q E s :=
 gw I hN hi hx r (fun s' I' _ => h s' I') hf
theorem Inv.call' {s' : Shared} {ch : List Addr} (I : Inv X pins σ H s) (ho : s'.os=s.os) (u : Un (frs X.stack) ch H H' s.heap s'.heap) (hok : HOk X.prog X.w H' s'.heap) (hg : AllBare s'.gens)
 (hch : ∀ b∈ch, (b∈X.ex∨X.s₀.heap.objs.size≤b)∧b ≠ X.env.locals∧(∀ x c, X.env.cells.lookup x=some c→c ≠ b)∧∀ p∈X.pn++pins, p.1 ≠ b) : Inv X pins σ H' s' := by
 obtain ⟨h', g', d', t', o'⟩ := s'
 have e : o'=s.os := ho
 subst e
 exact I.call (g' := g') (t' := t') (d' := d') u hok hg hch
end
abbrev XK := Value→Option Addr→Hp→Prop
abbrev St := List (Option V)
abbrev VK := V→Hp→Prop
abbrev TE := St→Hp→VK→Prop
abbrev TT := St→Hp→(Bool→Hp→Prop)→Prop
abbrev TA := St→Hp→(List V→Hp→Prop)→Prop
structure Ends where
 nx : St→Hp→Prop
 rt : VK
 bk : St→Hp→Prop := fun _ _ => False
 ct : St→Hp→Prop := fun _ _ => False
abbrev TS := Ends→St→Hp→Prop
def EP (X : Cx) (pins : List (Addr×Obj)) (σ : St) (Q : VK) (u : Value) (s' : Shared) : Prop := ∃ v H', Inv X pins σ H' s'∧aN v u∧Q v H'
def TP (X : Cx) (pins : List (Addr×Obj)) (σ : St) (Q : Bool→Hp→Prop) (b : Bool) (s' : Shared) : Prop := ∃ H', Inv X pins σ H' s'∧Q b H'
def AP (X : Cx) (pins : List (Addr×Obj)) (σ : St) (Q : List V→Hp→Prop) (us : List Value) (s' : Shared) : Prop := ∃ vs H', Inv X pins σ H' s'∧aF vs us∧Q vs H'
def SP (X : Cx) (pins : List (Addr×Obj)) (D : Ends) (f : Flow) (s' : Shared) : Prop :=
 match f with
 | .next => ∃ σ' H', Inv X pins σ' H' s'∧D.nx σ' H'
 | .brk => ∃ σ' H', Inv X pins σ' H' s'∧D.bk σ' H'
 | .cont => ∃ σ' H', Inv X pins σ' H' s'∧D.ct σ' H'
 | .ret u => ∃ v σ' H', Inv X pins σ' H' s'∧aN v u∧D.rt v H'
structure PE (X : Cx) (e : Expr) (t : TE) : Prop where
 go : ∀ (pins : List (Addr×Obj)) (s : Shared) (σ : St) (H : Hp) (Q : VK), Inv X pins σ H s→t σ H Q→wpAny (model X.prog X.w) X.A (eval e X.env) (EP X pins σ Q) X.xe s
instance {X : Cx} {e : Expr} {t : TE} : CoeFun (PE X e t) fun _ => ∀ (pins : List (Addr×Obj)) (s : Shared) (σ : St) (H : Hp) (Q : VK), Inv X pins σ H s→t σ H Q→wpAny (model X.prog X.w) X.A (eval e X.env) (EP X pins σ Q) X.xe s := ⟨fun h => h.go⟩
structure PT (X : Cx) (e : Expr) (t : TT) : Prop where
 go : ∀ (pins : List (Addr×Obj)) (s : Shared) (σ : St) (H : Hp) (Q : Bool→Hp→Prop), Inv X pins σ H s→t σ H Q→wpAny (model X.prog X.w) X.A (isTrue e X.env (eval e X.env)) (TP X pins σ Q) X.xe s
instance {X : Cx} {e : Expr} {t : TT} : CoeFun (PT X e t) fun _ => ∀ (pins : List (Addr×Obj)) (s : Shared) (σ : St) (H : Hp) (Q : Bool→Hp→Prop), Inv X pins σ H s→t σ H Q→wpAny (model X.prog X.w) X.A (isTrue e X.env (eval e X.env)) (TP X pins σ Q) X.xe s := ⟨fun h => h.go⟩
structure PW (X : Cx) (e : Expr) (t : TT) : Prop where
 go : ∀ (whole : Sem Value) (pins : List (Addr×Obj)) (s : Shared) (σ : St) (H : Hp) (Q : Bool→Hp→Prop), Inv X pins σ H s→t σ H Q→wpAny (model X.prog X.w) X.A (isTrue e X.env whole) (TP X pins σ Q) X.xe s
instance {X : Cx} {e : Expr} {t : TT} : CoeFun (PW X e t) fun _ => ∀ (whole : Sem Value) (pins : List (Addr×Obj)) (s : Shared) (σ : St) (H : Hp) (Q : Bool→Hp→Prop), Inv X pins σ H s→t σ H Q→wpAny (model X.prog X.w) X.A (isTrue e X.env whole) (TP X pins σ Q) X.xe s := ⟨fun h => h.go⟩
theorem PW.pt {X : Cx} {e : Expr} {t : TT} (h : PW X e t) : PT X e t := ⟨h.go _⟩
structure PA (X : Cx) (es : List Expr) (t : TA) : Prop where
 go : ∀ (pos : Pos) (pins : List (Addr×Obj)) (s : Shared) (σ : St) (H : Hp) (Q : List V→Hp→Prop), Inv X pins σ H s→t σ H Q→wpAny (model X.prog X.w) X.A (spliced (backTo pos (starEach es X.env))) (AP X pins σ Q) X.xe s
instance {X : Cx} {es : List Expr} {t : TA} : CoeFun (PA X es t) fun _ => ∀ (pos : Pos) (pins : List (Addr×Obj)) (s : Shared) (σ : St) (H : Hp) (Q : List V→Hp→Prop), Inv X pins σ H s→t σ H Q→wpAny (model X.prog X.w) X.A (spliced (backTo pos (starEach es X.env))) (AP X pins σ Q) X.xe s := ⟨fun h => h.go⟩
structure PS (X : Cx) (st : Stmt) (t : TS) : Prop where
 go : ∀ (pins : List (Addr×Obj)) (s : Shared) (σ : St) (H : Hp) (D : Ends), Inv X pins σ H s→t D σ H→wpAny (model X.prog X.w) X.A (exec st X.env) (SP X pins D) X.xe s
instance {X : Cx} {st : Stmt} {t : TS} : CoeFun (PS X st t) fun _ => ∀ (pins : List (Addr×Obj)) (s : Shared) (σ : St) (H : Hp) (D : Ends), Inv X pins σ H s→t D σ H→wpAny (model X.prog X.w) X.A (exec st X.env) (SP X pins D) X.xe s := ⟨fun h => h.go⟩
structure PSs (X : Cx) (st : List Stmt) (t : TS) : Prop where
 go : ∀ (pins : List (Addr×Obj)) (s : Shared) (σ : St) (H : Hp) (D : Ends), Inv X pins σ H s→t D σ H→wpAny (model X.prog X.w) X.A (execs st X.env) (SP X pins D) X.xe s
instance {X : Cx} {st : List Stmt} {t : TS} : CoeFun (PSs X st t) fun _ => ∀ (pins : List (Addr×Obj)) (s : Shared) (σ : St) (H : Hp) (D : Ends), Inv X pins σ H s→t D σ H→wpAny (model X.prog X.w) X.A (execs st X.env) (SP X pins D) X.xe s := ⟨fun h => h.go⟩
theorem thn {α : Type} {t : Sem α} {Q Q' : α→Shared→Prop} {M : Model} {A : Around} {E : Value→Shared→Prop} {s : Shared} (h : wpAny M A t Q E s) (hQ : ∀ a s, Q a s→Q' a s) : wpAny M A t Q' E s := wpAny_mono h hQ fun _ _ x => x
section
variable {X : Cx}
theorem bin {a b : Expr} {ta tb : TE} (ha : PE X a ta) (hb : PE X b tb) {pins : List (Addr×Obj)} {s : Shared} {σ : St} {H : Hp} {R : V→V→Hp→Prop} (I : Inv X pins σ H s) (h : ta σ H fun x H1 => tb σ H1 fun y H2 => R x y H2)
 {α : Type} {Q : α→Shared→Prop} {f : Value→Value→Sem α}
 (hf : ∀ v u s2 x y H2, Inv X pins σ H2 s2→aN x v→aN y u→R x y H2→wpAny (model X.prog X.w) X.A (f v u) Q X.xe s2) :
 wpAny (model X.prog X.w) X.A (eval a X.env) (fun v s₁ => wpAny (model X.prog X.w) X.A (eval b X.env) (fun u s₂ => wpAny (model X.prog X.w) X.A (f v u) Q X.xe s₂) X.xe s₁) X.xe s := by
 refine thn (ha pins s σ H _ I h) fun v s1 ⟨x, H1, I1, r1, q1⟩ => ?_
 refine thn (hb pins s1 σ H1 _ I1 q1) fun u s2 ⟨y, H2, I2, r2, q2⟩ => ?_
 exact hf v u s2 x y H2 I2 r1 r2 q2
def tVar (i : Nat) : TE := fun σ H Q => ∃ v, σ[i]? = some (some v)∧Q v H
def tC (v : V) : TE := fun _ H Q => Q v H
theorem eC {i : Nat} {x : Str} {pos : Pos} (hN : X.N[i]? = some x) (hv : Vis X.env.scope x) (hd : (x == ("__debug__" : Str))=false := by decide) (hcd : (x == ("__classdict__" : Str))=false := by decide) : PE X (.Name x pos) (tVar i) := by
 (try refine ⟨?_⟩); intro pins s σ H Q I h
 obtain ⟨v, e, h⟩ := h
 obtain ⟨m, hn, hl⟩ := I.loc
 obtain ⟨u, r, l⟩ := hl i x v hN e hv
 have fin : EP X pins σ Q u s := ⟨v, H, I, r, h⟩
 rcases l with ⟨hk, hm⟩ | ⟨hk, c, hc, hcell⟩
 ·exact wpAny_Name (wpAny_loadName_local I.ok.kind hk hn hm fin) hd
 ·rcases hk with hk | hk
  ·exact wpAny_Name (wpAny_loadName_cell I.ok.kind hk hc hcell fin) hd
  ·exact wpAny_Name (wpAny_loadName_free I.ok.kind hk hc hcell fin hcd) hd
theorem nR {i j pos} : PE X (.Constant (.int i) j pos) (tC (.int i)) := ⟨fun _ _ _ H _ I h => wpAny_Constant_int ⟨.int i, H, I.tok _, ⟨_, rfl⟩, h⟩⟩
theorem pe_bl {b j pos} : PE X (.Constant (.bool b) j pos) (tC (.bl b)) := ⟨fun _ _ _ H _ I h => Constant_bool ⟨.bl b, H, I, rfl, h⟩⟩
theorem ql {j pos} : PE X (.Constant .none j pos) (tC .non) := ⟨fun _ _ _ H _ I h => Constant_none ⟨.non, H, I, rfl, h⟩⟩
theorem qM {x j pos} : PE X (.Constant (.str x) j pos) (tC (.str x)) := ⟨fun _ _ _ H _ I h => Calls.Constant_str ⟨.str x, H, I.tok _, ⟨_, rfl⟩, h⟩⟩
def Gl (X : Cx) (x : Str) : Prop := X.env.kindOf x=some .globalImplicit
theorem jW {E : Value→Shared→Prop} {pins : List (Addr×Obj)} {s : Shared} {σ : St} {H : Hp} {x : Str} {u : Value} {pos : Pos} {Q : Value→Shared→Prop} (I : Inv X pins σ H s) (hg : Gl X x) (hm : X.mg x=some u) (h : Q u s)
 (hd : (x == ("__debug__" : Str))=false := by decide) : wpAny (model X.prog X.w) X.A (eval (.Name x pos) X.env) Q E s :=
 Calls.Name_function_global I.ok.kind hg (Calls.loadGlobal_global (by rw [I.ok.glob]; exact I.mod.glob.keeps I.bk) hm h) hd
theorem eD {E : Value→Shared→Prop} {pins : List (Addr×Obj)} {s : Shared} {σ : St} {H : Hp} {x : Str} {u : Value} {pos : Pos} {Q : Value→Shared→Prop} (I : Inv X pins σ H s) (hg : Gl X x) (hm : X.mg x=none) (hv : bootBuiltins x=some u) (h : Q u s)
 (hn : x ≠ "__name__" := by decide) (hd : (x == ("__debug__" : Str))=false := by decide) : wpAny (model X.prog X.w) X.A (eval (.Name x pos) X.env) Q E s := by
 obtain ⟨mb, h1, h2⟩ := I.mod.blt
 exact Calls.Name_function_global I.ok.kind hg (Calls.loadGlobal_builtin (by rw [I.ok.glob]; exact I.mod.glob.keeps I.bk) hm (by rw [I.ok.blt]; exact h1.keeps I.bk) ((h2 x hn).trans hv) h) hd
theorem o9 {x : Str} {v : V} {u : Value} {pos : Pos} (hg : Gl X x) (hm : X.mg x=some u) (r : aN v u) (hd : (x == ("__debug__" : Str))=false := by decide) : PE X (.Name x pos) (tC v) := ⟨fun _ _ _ H _ I h => jW I hg hm ⟨v, H, I, r, h⟩ hd⟩
theorem bt {x : Str} {v : V} {u : Value} {pos : Pos} (hg : Gl X x) (hm : X.mg x=none) (hv : bootBuiltins x=some u) (r : aN v u) (hn : x ≠ "__name__" := by decide) (hd : (x == ("__debug__" : Str))=false := by decide) : PE X (.Name x pos) (tC v) := ⟨fun _ _ _ H _ I h => eD I hg hm hv ⟨v, H, I, r, h⟩ hn hd⟩
variable {a b : Expr} {ta tb : TE} {pos : Pos}
def tB (t : TE) : TT := fun σ H Q => t σ H fun x H1 => ∃ c, x = .bl c∧Q c H1
theorem rR {e : Expr} {t : TE} (h : PE X e t) (he : ∀ whole, isTrue e X.env whole=(do let v ← whole; standAt e.pos; holding [v] (truthy v)) := by intro _; rfl) : PT X e (tB t) := by
 (try refine ⟨?_⟩); intro pins s σ H Q I hw
 refine isTrue_plain (thn (h pins s σ H _ I hw) fun v s1 ⟨x, H1, I1, r1, q1⟩ => ?_) (he _)
 obtain ⟨d, rfl, q⟩ := q1
 cases r1
 exact wpAny_truthy_bool ⟨H1, I1, q⟩
variable {tA tB' : TT} {rest : List Expr}
def tAnd (t u : TT) : TT := fun σ H Q => t σ H fun c H1 => if c=true then u σ H1 Q else Q false H1
def tOr (t u : TT) : TT := fun σ H Q => t σ H fun c H1 => if c=true then Q true H1 else u σ H1 Q
def tNot (t : TT) : TT := fun σ H Q => t σ H fun c H1 => Q (!c) H1
theorem ot (ha : PT X a tA) : PW X (.BoolOp .And [a] pos) tA := by
 (try refine ⟨?_⟩); intro wh pins s σ H Q I h
 refine isTrue_and (thn (ha pins s σ H Q I h) fun c s1 e => ?_)
 cases c with
 | true => exact isTrue_and_nil e
 | false => exact e
theorem rT (ha : PT X a tA) : PW X (.BoolOp .Or [a] pos) tA := by
 (try refine ⟨?_⟩); intro wh pins s σ H Q I h
 refine isTrue_or (thn (ha pins s σ H Q I h) fun c s1 e => ?_)
 cases c with
 | false => exact isTrue_or_nil e
 | true => exact e
theorem rp (ha : PT X a tA) (hb : PW X (.BoolOp .And (b :: rest) pos) tB') : PW X (.BoolOp .And (a :: b :: rest) pos) (tAnd tA tB') := by
 (try refine ⟨?_⟩); intro wh pins s σ H Q I h
 refine isTrue_and (thn (ha pins s σ H _ I h) fun c s1 ⟨H1, I1, q1⟩ => ?_)
 cases c with
 | true => exact hb wh pins s1 σ H1 Q I1 q1
 | false => exact ⟨H1, I1, q1⟩
theorem pw_or (ha : PT X a tA) (hb : PW X (.BoolOp .Or (b :: rest) pos) tB') : PW X (.BoolOp .Or (a :: b :: rest) pos) (tOr tA tB') := by
 (try refine ⟨?_⟩); intro wh pins s σ H Q I h
 refine isTrue_or (thn (ha pins s σ H _ I h) fun c s1 ⟨H1, I1, q1⟩ => ?_)
 cases c with
 | true => exact ⟨H1, I1, q1⟩
 | false => exact hb wh pins s1 σ H1 Q I1 q1
theorem qu (ha : PT X a tA) : PT X (.UnaryOp .Not a pos) (tNot tA) := by
 (try refine ⟨?_⟩); intro pins s σ H Q I h
 exact isTrue_not (ha pins s σ H (fun c H1 => Q (!c) H1) I h)
def tAndV (ta tb : TE) : TE := fun σ H Q => ta σ H fun x H1 => ∃ c, x = .bl c∧if c=true then tb σ H1 Q else Q (.bl false) H1
def tNotV (ta : TE) : TE := fun σ H Q => ta σ H fun x H1 => ∃ c, x = .bl c∧Q (.bl (!c)) H1
theorem rq {op} {t : TE} (h : PE X a t) : PE X (.BoolOp op [a] pos) t := ⟨fun pins s σ H Q I hw => BoolOp_one (h pins s σ H Q I hw)⟩
theorem qc (ha : PE X a ta) (hb : PE X (.BoolOp .And (b :: rest) pos) tb) : PE X (.BoolOp .And (a :: b :: rest) pos) (tAndV ta tb) := by
 (try refine ⟨?_⟩); intro pins s σ H Q I h
 refine BoolOp_and (thn (ha pins s σ H _ I h) fun v s1 ⟨x, H1, I1, r1, q1⟩ => ?_)
 obtain ⟨c, rfl, q1⟩ := q1
 cases r1
 refine wpAny_truthy_bool ?_
 cases c with
 | true => exact hb pins s1 σ H1 Q I1 q1
 | false => exact ⟨.bl false, H1, I1, rfl, q1⟩
theorem p5 (ha : PE X a ta) : PE X (.UnaryOp .Not a pos) (tNotV ta) := by
 (try refine ⟨?_⟩); intro pins s σ H Q I h
 refine UnaryOp_ (thn (ha pins s σ H _ I h) fun v s1 ⟨x, H1, I1, r1, q1⟩ => ?_)
 obtain ⟨c, rfl, q1⟩ := q1
 cases r1
 exact not_of (wpAny_truthy_bool ⟨.bl (!c), H1, I1, rfl, q1⟩)
end
def SqL (K : PySem.W.Frag) (H : Hp) (a : Addr) (xs : List V) : Prop :=
 Rd H a (.lst xs) ∨
  ∃ (o : Obj) (its : Array Value) (n : Nat), K.lookup a=some o∧o.cls = .type "list" ∧ o.dict=none∧o.data = .seq its n∧its.size≤sizeLine∧aF xs its.toList
def SqT (K : PySem.W.Frag) (H : Hp) (a : Addr) (xs : List V) : Prop :=
 Rd H a (.tup xs) ∨
  ∃ (o : Obj) (its : Array Value) (n : Nat), K.lookup a=some o∧o.cls = .type "tuple" ∧ o.data = .seq its n∧its.size≤sizeLine∧aF xs its.toList
def absV : Value→Option V
 | .none => some .non
 | .bool b => some (.bl b)
 | .int i _ => some (.int i)
 | .str x _ => some (.str x)
 | .bytes b _ => some (.byt b)
 | .float b _ => some (.flt b)
 | .ref a => some (.ref a)
 | .type n => some (.ty n)
 | _ => none
theorem aN.abs {x : V} {u : Value} (r : aN x u) : absV u=some x := by
 cases x with
 | non => cases r; rfl
 | bl _ => cases r; rfl
 | int _ => obtain ⟨t, rfl⟩ := r; rfl
 | str _ => obtain ⟨t, rfl⟩ := r; rfl
 | byt _ => obtain ⟨t, rfl⟩ := r; rfl
 | flt _ => obtain ⟨t, rfl⟩ := r; rfl
 | ref _ => cases r; rfl
 | ty _ => cases r; rfl
theorem aN.inj {x y : V} {u : Value} (r : aN x u) (q : aN y u) : x=y := Option.some.inj (r.abs.symm.trans q.abs)
theorem aF.inj : ∀ {xs ys : List V} {us : List Value}, aF xs us→aF ys us→xs=ys
 | _, _, _, .nil, .nil => rfl
 | _, _, _, .cons r t, .cons r' t' => by rw [r.inj r', aF.inj t t']
section
variable {X : Cx} {pins : List (Addr×Obj)} {σ : St} {H : Hp} {s : Shared} {a : Addr} {xs ys : List V}
theorem SqL.of {K : PySem.W.Frag} (h : H a=some (.lst xs)) : SqL K H a xs := .inl (.inl h)
theorem SqT.of {K : PySem.W.Frag} (h : H a=some (.tup xs)) : SqT K H a xs := .inl (.inl h)
theorem Inv.list (I : Inv X pins σ H s) (h : SqL X.K H a xs) : ∃ its : List Value, aF xs its∧PlainL s.heap a its.toArray∧xs.length≤sizeLine := by
 rcases h with h | ⟨o, its, n, hk, hc, hd, hs, hz, r⟩
 ·obtain ⟨z, its, n, r, e⟩ := h.ok I.hok
  exact ⟨its, r, ⟨_, n, e, rfl, rfl, rfl⟩, z⟩
 ·refine ⟨its.toList, r, ⟨o, n, I.kIn a o hk, hc, hd, by simpa using hs⟩, ?_⟩
  have e := r.length
  simp only [Array.length_toList] at e
  omega
theorem Inv.tuple (I : Inv X pins σ H s) (h : SqT X.K H a xs) : ∃ its : List Value, aF xs its∧IsTup s.heap a its.toArray∧xs.length≤sizeLine := by
 rcases h with h | ⟨o, its, n, hk, hc, hs, hz, r⟩
 ·obtain ⟨z, its, r, p⟩ := h.ok I.hok
  exact ⟨its, r, p, z⟩
 ·refine ⟨its.toList, r, ⟨o, I.kIn a o hk, hc, n, by simpa using hs⟩, ?_⟩
  have e := r.length
  simp only [Array.length_toList] at e
  omega
theorem Inv.list_inj (I : Inv X pins σ H s) (h : SqL X.K H a xs) (h' : SqL X.K H a ys) : xs=ys := by
 obtain ⟨its, r, ⟨o, n, e, _, _, d⟩, _⟩ := I.list h
 obtain ⟨its', r', ⟨o', n', e', _, _, d'⟩, _⟩ := I.list h'
 rw [e] at e'; cases e'
 rw [d] at d'
 injection d' with d1 _
 have : its=its' := by simpa using congrArg Array.toList d1
 subst this
 exact r.inj r'
end
abbrev Cx.wish (X : Cx) (E : Value→Shared→Prop) : Cx := { X with xe := E }
abbrev Cx.nox (X : Cx) : Cx := X.wish fun _ _ => False
theorem Cx.Ok.wish {X : Cx} (ok : X.Ok) (E : Value→Shared→Prop) : (X.wish E).Ok :=
 ⟨ok.mod, ok.kind, ok.glob, ok.blt, ok.above, ok.inj, ok.has, ok.cab, ok.hd, ok.frames, ok.stk, ok.exf, ok.bs, ok.bsz, ok.noex, ok.exfs, ok.funs, ok.frf, ok.tb⟩
theorem Cx.Ok.unwish {X : Cx} {E : Value→Shared→Prop} (ok : (X.wish E).Ok) : X.Ok :=
 ⟨ok.mod, ok.kind, ok.glob, ok.blt, ok.above, ok.inj, ok.has, ok.cab, ok.hd, ok.frames, ok.stk, ok.exf, ok.bs, ok.bsz, ok.noex, ok.exfs, ok.funs, ok.frf, ok.tb⟩
section
variable {X : Cx} {pins : List (Addr×Obj)} {σ : St} {H : Hp} {s : Shared} {E : Value→Shared→Prop}
theorem Inv.wish (I : Inv X pins σ H s) (E : Value→Shared→Prop) : Inv (X.wish E) pins σ H s := ⟨I.ok.wish E, I.os, I.bare, I.base, I.loc, I.cell, I.free, I.freeC, I.pin, I.hok, I.len⟩
theorem Inv.unwish (I : Inv (X.wish E) pins σ H s) : Inv X pins σ H s := ⟨I.ok.unwish, I.os, I.bare, I.base, I.loc, I.cell, I.free, I.freeC, I.pin, I.hok, I.len⟩
theorem SP.unwish {D : Ends} {f : Flow} {s' : Shared} (h : SP (X.wish E) pins D f s') : SP X pins D f s' := by
 cases f with
 | next => obtain ⟨σ', H', I, q⟩ := h; exact ⟨σ', H', I.unwish, q⟩
 | brk => obtain ⟨σ', H', I, q⟩ := h; exact ⟨σ', H', I.unwish, q⟩
 | cont => obtain ⟨σ', H', I, q⟩ := h; exact ⟨σ', H', I.unwish, q⟩
 | ret u => obtain ⟨v, σ', H', I, r, q⟩ := h; exact ⟨v, σ', H', I.unwish, r, q⟩
theorem PSs.nox {st : List Stmt} {t : TS} (h : PSs X.nox st t) : PSs X st t := ⟨fun pins s σ H D I hw =>
 wpAny_mono (h pins s σ H D (I.wish _) hw) (fun _ _ q => q.unwish) fun _ _ z => False.elim z⟩
end
section
variable {X : Cx} {st : Stmt} {rest : List Stmt} {t u : TS} {e : Expr} {te : TE} {pos : Pos}
def tNext : TS := fun D σ H => D.nx σ H
def tSeq (t u : TS) : TS := fun D σ H => t { D with nx := u D } σ H
theorem oC : PSs X [] tNext := ⟨fun _ _ σ H _ I h => wpAny_execs_nil ⟨σ, H, I, h⟩⟩
theorem lq (h1 : PS X st t) (h2 : PSs X rest u) : PSs X (st :: rest) (tSeq t u) := by
 (try refine ⟨?_⟩); intro pins s σ H D I h
 refine wpAny_execs_cons (thn (h1 pins s σ H { D with nx := u D } I h) fun f s1 q => ?_)
 cases f with
 | next =>
  obtain ⟨σ', H', I', q⟩ := q
  exact h2 pins s1 σ' H' D I' q
 | ret v => exact q
 | brk => exact q
 | cont => exact q
theorem nT (h1 : PS X st t) : PSs X [st] t := by
 (try refine ⟨?_⟩); intro pins s σ H D I h
 refine wpAny_execs_cons (thn (h1 pins s σ H D I h) fun f s1 q => ?_)
 cases f with
 | next => exact wpAny_execs_nil q
 | ret v => exact q
 | brk => exact q
 | cont => exact q
theorem Inv.quiet {pins : List (Addr×Obj)} {σ : St} {H : Hp} {s : Shared} (I : Inv X pins σ H s) : interactive X.env=false := by simp [interactive, I.ok.kind]
def tDrop (te : TE) : TS := fun D σ H => te σ H fun _ H1 => D.nx σ H1
theorem km (he : PE X e te) (hs : swapsWith e none pos.line X.env=pure false := by rfl) : PS X (.Expr e pos) (tDrop te) := by
 (try refine ⟨?_⟩); intro pins s σ H D I h
 exact wpAny_Expr_any (thn (he pins s σ H _ I h) fun v s1 ⟨x, H1, I1, r1, q1⟩ => ⟨σ, H1, I1, q1⟩) I.quiet hs
def tRet (te : TE) : TS := fun D σ H => te σ H D.rt
theorem nk (he : PE X e te) : PS X (.Return (some e) pos) (tRet te) := by
 (try refine ⟨?_⟩); intro pins s σ H D I h
 exact wpAny_Return_some (thn (he pins s σ H _ I h) fun v s1 ⟨x, H1, I1, r1, q1⟩ => ⟨x, σ, H1, I1, r1, q1⟩)
def tIfS (c : TT) (t u : TS) : TS := fun D σ H => c σ H fun b H1 => if b=true then t D σ H1 else u D σ H1
theorem ps_if {c : Expr} {a b : List Stmt} {tc : TT} (hc : PT X c tc) (ha : PSs X a t) (hb : PSs X b u) : PS X (.If c a b pos) (tIfS tc t u) := by
 (try refine ⟨?_⟩); intro pins s σ H D I h
 refine wpAny_If (thn (hc pins s σ H _ I h) fun d s1 ⟨H1, I1, q1⟩ => ?_)
 cases d with
 | true => exact ha pins s1 σ H1 D I1 q1
 | false => exact hb pins s1 σ H1 D I1 q1
def rb : TS := fun _ _ _ => False
theorem nz : PS X st rb := ⟨fun _ _ _ _ _ _ h => h.elim⟩
end
abbrev TG := V→St→Hp→(St→Hp→Prop)→Prop
abbrev TGs := List V→St→Hp→(St→Hp→Prop)→Prop
structure PG (X : Cx) (target : Expr) (t : TG) : Prop where
 go : ∀ (pins : List (Addr×Obj)) (s : Shared) (σ : St) (H : Hp) (v : V) (u : Value) (Q : St→Hp→Prop), Inv X pins σ H s→aN v u→t v σ H Q →
  wpAny (model X.prog X.w) X.A (assign target X.env u) (fun _ s' => ∃ σ' H', Inv X pins σ' H' s'∧Q σ' H') X.xe s
instance {X : Cx} {target : Expr} {t : TG} : CoeFun (PG X target t) fun _ => ∀ (pins : List (Addr×Obj)) (s : Shared) (σ : St) (H : Hp) (v : V) (u : Value) (Q : St→Hp→Prop), Inv X pins σ H s→aN v u→t v σ H Q →
 wpAny (model X.prog X.w) X.A (assign target X.env u) (fun _ s' => ∃ σ' H', Inv X pins σ' H' s'∧Q σ' H') X.xe s := ⟨fun h => h.go⟩
structure PGs (X : Cx) (ts : List Expr) (t : TGs) : Prop where
 go : ∀ (pins : List (Addr×Obj)) (s : Shared) (σ : St) (H : Hp) (vs : List V) (us : List Value) (Q : St→Hp→Prop), Inv X pins σ H s→aF vs us→t vs σ H Q →
  wpAny (model X.prog X.w) X.A (assignInOrder ((assignEach ts X.env).map (·.2)) us) (fun _ s' => ∃ σ' H', Inv X pins σ' H' s'∧Q σ' H') X.xe s
instance {X : Cx} {ts : List Expr} {t : TGs} : CoeFun (PGs X ts t) fun _ => ∀ (pins : List (Addr×Obj)) (s : Shared) (σ : St) (H : Hp) (vs : List V) (us : List Value) (Q : St→Hp→Prop), Inv X pins σ H s→aF vs us→t vs σ H Q →
 wpAny (model X.prog X.w) X.A (assignInOrder ((assignEach ts X.env).map (·.2)) us) (fun _ s' => ∃ σ' H', Inv X pins σ' H' s'∧Q σ' H') X.xe s := ⟨fun h => h.go⟩
abbrev TSet := V→V→V→Hp→(Hp→Prop)→Prop
def PSet (X : Cx) (t : TSet) : Prop :=
 ∀ (pins : List (Addr×Obj)) (s : Shared) (σ : St) (H : Hp) (o i v : V) (ov iv u : Value) (Q : Hp→Prop), Inv X pins σ H s→aN o ov→aN i iv→aN v u→t o i v H Q →
  wpAny (model X.prog X.w) X.A (setItem ov iv u) (fun _ s' => ∃ H', Inv X pins σ H' s'∧Q H') X.xe s
section
variable {X : Cx} {pos : Pos}
def fN (i : Nat) : TG := fun v σ H Q => Q (σ.set i (some v)) H
theorem a9 {i : Nat} {x : Str} (hN : X.N.Nodup) (hi : X.N[i]? = some x) (hx : Loc X.env.scope x) (hf : X.fn x=true∨X.env.scope.names.lookup x=some .local := by first | exact .inl rfl | exact .inr rfl | assumption) : PG X (.Name x pos) (fN i) := by
 (try refine ⟨?_⟩); intro pins s σ H v u Q I r h
 exact wpAny_assign_Name (dY I hN hi hx r (fun s' I' => ⟨_, H, I', h⟩) hf)
def gNil : TGs := fun vs σ H Q => vs=[]∧Q σ H
def gCons (t : TG) (u : TGs) : TGs := fun vs σ H Q => ∃ v r, vs=v :: r∧t v σ H fun σ' H' => u r σ' H' Q
theorem j9 : PGs X [] gNil := by
 (try refine ⟨?_⟩); intro pins s σ H vs us Q I r h
 obtain ⟨e, h⟩ := h
 subst e
 cases r
 exact assignInOrder_nil ⟨σ, H, I, h⟩
theorem fT {e : Expr} {es : List Expr} {t : TG} {u : TGs} (h1 : PG X e t) (h2 : PGs X es u)
 (hs : (assignEach (e :: es) X.env).map (·.2)=assign e X.env :: (assignEach es X.env).map (·.2) := by rfl) : PGs X (e :: es) (gCons t u) := by
 (try refine ⟨?_⟩); intro pins s σ H vs us Q I r h
 obtain ⟨v, vr, e1, h⟩ := h
 subst e1
 cases r with
 | cons r rr =>
  rw [hs]
  refine assignInOrder_cons (thn (h1 pins s σ H _ _ _ I r h) fun _ s1 ⟨σ1, H1, I1, q1⟩ => ?_)
  exact h2 pins s1 σ1 H1 _ _ Q I1 rr q1
def gTup (K : PySem.W.Frag) (n : Nat) (t : TGs) : TG := fun v σ H Q => ∃ a xs, v = .ref a∧SqT K H a xs∧xs.length=n∧t xs σ H Q
theorem na {es : List Expr} {k : Nat} {t : TGs} {n : Nat} (hc : X.calm=true) (h : PGs X es t)
 (hn : (assignEach es X.env).length=n := by rfl) (hst : (assignEach es X.env).findIdx? (·.1)=none := by rfl) : PG X (.Tuple es k pos) (gTup X.K n t) := by
 (try refine ⟨?_⟩); intro pins s σ H v u Q I r hw
 obtain ⟨a, xs, e1, hq, hl, hw⟩ := hw
 subst e1
 cases r
 obtain ⟨its, rv, ht, hz⟩ := I.tuple hq
 refine assign_Tuple_tuple (I.ok.hd hc) ht (by simp [hn, ← hl, rv.length]) hst fun h' hx => ?_
 have I1 : Inv X pins σ H { s with heap := h' } := I.kept (t' := s.toks) fun b o e => hx b o (Nat.ne_of_lt (Heap.lt_size e)) e
 exact h pins _ σ H xs _ Q I1 (by simpa using rv) hw
def gSub (to ti : TE) (t : TSet) : TG := fun v σ H Q => to σ H fun o H1 => ti σ H1 fun i H2 => t o i v H2 fun H3 => Q σ H3
theorem rL {o i : Expr} {to ti : TE} {t : TSet} (ho : PE X o to) (hi : PE X i ti) (hs : PSet X t)
 (ha : ∀ v, assign (.Subscript o i pos) X.env v=(do
  let ov ← holding [v] (eval o X.env)
  let iv ← holding [v, ov] (eval i X.env)
  standAt pos
  holding [v, ov, iv] (setItem ov iv v)
  release [v, ov, iv] []) := by intro _; rfl) : PG X (.Subscript o i pos) (gSub to ti t) := by
 (try refine ⟨?_⟩); intro pins s σ H v u Q I r h
 rw [ha]
 refine wpAny_bind (wpAny_holding (thn (ho pins s σ H _ I h) fun ov s1 ⟨x, H1, I1, r1, q1⟩ => ?_))
 refine wpAny_bind (wpAny_holding (thn (hi pins s1 σ H1 _ I1 q1) fun iv s2 ⟨y, H2, I2, r2, q2⟩ => ?_))
 refine wpAny_bind (wpAny_standAt (wpAny_bind (wpAny_holding (thn (hs pins s2 σ H2 x y v ov iv u _ I2 r1 r2 r q2) fun _ s3 ⟨H3, I3, q3⟩ => ?_))))
 exact wpAny_release ⟨σ, H3, I3, q3⟩
def my (te : TE) (g : TG) : TS := fun D σ H => te σ H fun x H1 => g x σ H1 D.nx
theorem jx {tg e : Expr} {te : TE} {g : TG} (he : PE X e te) (hg : PG X tg g) (hs : swapsWithSole [tg] e pos.line X.env=pure false := by rfl) (hw : swappedStores [tg] e X.env=pure none := by rfl)
 (h1 : (assignEach [tg] X.env).map (·.2)=[assign tg X.env] := by rfl) : PS X (.Assign [tg] e pos) (my te g) := by
 (try refine ⟨?_⟩); intro pins s σ H D I h
 refine wpAny_Assign_stores (thn (he pins s σ H _ I h) fun v s1 ⟨x, H1, I1, r1, q1⟩ => ?_) hs hw
 rw [h1]
 exact thn (hg pins s1 σ H1 x v _ I1 r1 q1) fun _ s2 q => q
theorem nP {i : Nat} {x : Str} {e : Expr} {te : TE} {pos' : Pos} (hN : X.N.Nodup) (hi : X.N[i]? = some x) (hx : Loc X.env.scope x) (he : PE X e te) (hs : swapsWith e (some (.Name x pos')) pos.line X.env=pure false := by rfl) (hf : X.fn x=true∨X.env.scope.names.lookup x=some .local := by first | exact .inl rfl | exact .inr rfl | assumption) :
 PS X (.Assign [.Name x pos'] e pos) (my te (fN i)) := by
 (try refine ⟨?_⟩); intro pins s σ H D I h
 refine wpAny_Assign_Name (thn (he pins s σ H _ I h) fun v s1 ⟨y, H1, I1, r1, q1⟩ => ?_) hs
 exact dY I1 hN hi hx r1 (fun s2 I2 => ⟨_, H1, I2, q1⟩) hf
def tPar (i j : Nat) (ta : TA) : TS := fun D σ H => ta σ H fun vs H1 => ∃ v w, vs=[v, w]∧D.nx ((σ.set i (some v)).set j (some w)) H1
theorem rA {i j : Nat} {x y : Str} {a b : Expr} {ta : TA} {px py pt : Pos} {kt k2 pt2} (hc : X.calm=true) (hN : X.N.Nodup) (hi : X.N[i]? = some x) (hj : X.N[j]? = some y) (hij : i ≠ j)
 (hx : X.env.scope.names.lookup x=some .local) (hy : X.env.scope.names.lookup y=some .local) (ha : PA X [a, b] ta)
 (hw : swappedStores [.Tuple [.Name x px, .Name y py] kt pt] (.Tuple [a, b] k2 pt2) X.env=pure (some [x, y]))
 (hs : swapsWithSole [.Tuple [.Name x px, .Name y py] kt pt] (.Tuple [a, b] k2 pt2) pos.line X.env=pure false := by rfl) :
 PS X (.Assign [.Tuple [.Name x px, .Name y py] kt pt] (.Tuple [a, b] k2 pt2) pos) (tPar i j ta) := by
 (try refine ⟨?_⟩); intro pins s σ H D I h
 rw [exec_Assign_arm]
 refine wpAny_bind (wpAny_standAt ?_)
 rw [hs]
 refine wpAny_bind (wpAny_pure ?_)
 rw [if_neg (by decide)]
 refine wpAny_bind (Tuple_ (thn (ha _ pins s σ H _ I h) fun us s1 ⟨vs, H1, I1, r1, q1⟩ => ?_))
 obtain ⟨v, w, e1, q1⟩ := q1
 subst e1
 obtain ⟨u1, u2, rfl, rv, rw'⟩ : ∃ u1 u2, us=[u1, u2]∧aN v u1∧aN w u2 := by
  cases r1 with
  | cons p q =>
   cases q with
   | cons p' q' =>
    cases q'
    exact ⟨_, _, rfl, p, p'⟩
 refine wpAny_newObj_type ?_ (by show 2≤sizeLine; decide)
 have I2 : Inv X pins σ H1 { s1 with heap := s1.heap.push { cls := .type "tuple", data := .seq [u1, u2].toArray } } := I1.kept (t' := s1.toks) fun b o e => Heap.get?_push_of_some _ e
 rw [hw]
 refine wpAny_bind (wpAny_pure ?_)
 show wpAny (model X.prog X.w) X.A (do rule "assign.swapped-stores"; let items ← unpackItems (.ref s1.heap.objs.size) 2 none; assignInOrder [fun v => bindName X.env y v, fun v => bindName X.env x v] items.reverse; pure Flow.next) _ _ _
 refine wpAny_bind (wpAny_rule (wpAny_bind (unpackItems_tuple (items := #[u1, u2]) (I.ok.hd hc) (IsTup.new s1.heap _) fun h' hx' => ?_)))
 have I3 := I2.kept (h' := h') (t' := s1.toks) fun b o e => hx' b o (Nat.ne_of_lt (Heap.lt_size e)) e
 show wpAny _ _ (assignInOrder [fun v => bindName X.env y v, fun v => bindName X.env x v] [u2, u1] >>= fun _ => pure Flow.next) _ _ _
 refine wpAny_bind (assignInOrder_cons (wpAny_bindName (dY I3 hN hj (.inl hy) rw' (fun s2 I4 => ?_) (.inr hy))))
 refine assignInOrder_cons (wpAny_bindName (dY I4 hN hi (.inl hx) rv (fun s3 I5 => assignInOrder_nil (wpAny_pure ?_)) (.inr hx)))
 rw [List.set_comm _ _ (Ne.symm hij)] at I5
 exact ⟨_, H1, I5, q1⟩
end
section
variable {X : Cx} {pos : Pos}
def rF (c : TT) (tb : TS) : TS := fun D σ H => ∃ W : Nat→St→Hp→Prop, (∃ m, W m σ H)∧∀ m σ H, W m σ H →
 c σ H fun b H1 => if b=true then ∃ N : St→Hp→Prop, (∀ σ' H', N σ' H'→∃ m', m'<m∧W m' σ' H')∧tb { D with nx := N, ct := N, bk := D.nx } σ H1 else D.nx σ H1
theorem nE {c : Expr} {body : List Stmt} {tc : TT} {tb : TS} (hp : PassesOwn (model X.prog X.w) X.A X.env X.xe) (hc : PT X c tc) (hb : PSs X body tb) : PS X (.While c body [] pos) (rF tc tb) := by
 (try refine ⟨?_⟩); intro pins s σ H D I h
 obtain ⟨W, ⟨m0, w0⟩, turn⟩ := h
 refine wpAny_While (codeAny_whileLoop (fun n s' => ∃ σ' H', Inv X pins σ' H' s'∧W n σ' H') ?_ m0 ⟨σ, H, I, w0⟩)
 rintro n s1 ⟨σ1, H1, I1, w1⟩
 refine wpAny_passesOwn hp (thn (hc pins s1 σ1 H1 _ I1 (turn n σ1 H1 w1)) fun b s2 ⟨H2, I2, q2⟩ => ?_)
 cases b with
 | true =>
  obtain ⟨N, hN, q2⟩ := q2
  rw [if_pos rfl]
  refine wpAny_passesOwn hp (thn (hb pins s2 σ1 H2 _ I2 q2) fun f s3 q3 => ?_)
  cases f with
  | next =>
   obtain ⟨σ3, H3, I3, n3⟩ := q3
   obtain ⟨m', hm, w3⟩ := hN σ3 H3 n3
   exact ⟨m', hm, σ3, H3, I3, w3⟩
  | cont =>
   obtain ⟨σ3, H3, I3, n3⟩ := q3
   obtain ⟨m', hm, w3⟩ := hN σ3 H3 n3
   exact ⟨m', hm, σ3, H3, I3, w3⟩
  | brk => exact q3
  | ret v => exact q3
 | false =>
  rw [if_neg Bool.false_ne_true]
  exact wpAny_execs_nil ⟨σ1, H2, I2, q2⟩
end
structure It where
 go : Nat→Hp→Prop
 yld : Nat→Hp→V→Hp→Prop
 stop : Nat→Hp→Prop
def hX (X : Cx) (pins : List (Addr×Obj)) (H : Hp) (b : Addr) : Prop :=
 H b=none∧b ≠ X.env.locals∧b ∉ X.fs∧(b∈X.ex∨X.s₀.heap.objs.size≤b)∧(∀ x c, X.env.cells.lookup x=some c→c ≠ b)∧∀ p∈X.pn++pins, p.1 ≠ b
theorem Inv.fpOk {X : Cx} {pins : List (Addr×Obj)} {σ : St} {H H' : Hp} {s : Shared} {b : Addr} (I : Inv X pins σ H s) (hb : s.heap.objs.size≤b) (hn : H' b=none) : hX X pins H' b := by
 refine ⟨hn, Nat.ne_of_gt (Nat.lt_of_lt_of_le I.lt hb), I.nofs hb, .inr (Nat.le_trans I.sz hb), fun x c e z => ?_, fun p hp z => ?_⟩
 ·obtain ⟨v, q⟩ := I.cell x c e
  exact absurd (Nat.lt_of_lt_of_le q.lt (by rw [z]; exact hb)) (Nat.lt_irrefl _)
 ·exact absurd (Nat.lt_of_lt_of_le (Heap.lt_size (I.pin p hp).1) (by rw [z]; exact hb)) (Nat.lt_irrefl _)
structure Turn (P : Program) (w : World) (K : PySem.W.Frag) (tg : Expr) (J : It) (fp : List Addr) (it : Addr) (tn : Nat→Heap→Prop) : Prop where
 mem : it∈fp
 obj : ∀ i h, tn i h→∀ b∈fp, ∃ o, h.get? b=some o∧∀ v, o.data ≠ .cell v
 keep : ∀ i h h', tn i h→(∀ b∈fp, ∀ o, h.get? b=some o→h'.get? b=some o)→tn i h'
 item : ∀ (X : Cx), X.prog=P→X.w=w→X.K=K→X.calm=true→∀ (i : Nat) (pins : List (Addr×Obj)) (s : Shared) (σ : St) (H : Hp) (E : Value→Shared→Prop), Inv X pins σ H s→(∀ b∈fp, hX X pins H b)→tn i s.heap→J.go i H →
  wpAny (model P w) X.A (pyNext (.ref it)) (fun r s1 => ∃ u, r=some u ∧
   wpAny (model P w) X.A (letOwnedTupleGo tg (.ref it) u) (fun _ s2 => ∃ x H', Inv X pins σ H' s2∧aN x u∧J.yld i H x H'∧tn (i + 1) s2.heap∧∀ b∈fp, H' b=none) E s1) E s
 done : ∀ (X : Cx), X.prog=P→X.w=w→X.K=K→X.calm=true→∀ (i : Nat) (pins : List (Addr×Obj)) (s : Shared) (σ : St) (H : Hp) (E : Value→Shared→Prop), Inv X pins σ H s→(∀ b∈fp, hX X pins H b)→tn i s.heap→J.stop i H →
  wpAny (model P w) X.A (pyNext (.ref it)) (fun r s1 => r=none∧Inv X pins σ H s1) E s
 self : ∀ (A : Around) (i : Nat) (s : Shared) (Q : Value→Shared→Prop) (E : Value→Shared→Prop), tn i s.heap→Q (.ref it) s→wpAny (model P w) A (pyIter (.ref it)) Q E s
abbrev TI := St→Hp→(It→Hp→Prop)→Prop
def PIE (X : Cx) (pins : List (Addr×Obj)) (σ : St) (tg : Expr) (R : It→Hp→Prop) (itv : Value) (s2 : Shared) : Prop :=
 ∃ (it : Addr) (fp : List Addr) (tn : Nat→Heap→Prop) (J : It) (H' : Hp), itv = .ref it∧Inv X pins σ H' s2∧Turn X.prog X.w X.K tg J fp it tn∧tn 0 s2.heap∧(∀ b∈fp, hX X pins H' b)∧R J H'
structure PI (X : Cx) (tg iter : Expr) (wi : TI) : Prop where
 go : ∀ (pins : List (Addr×Obj)) (s : Shared) (σ : St) (H : Hp) (R : It→Hp→Prop), Inv X pins σ H s→wi σ H R →
  wpAny (model X.prog X.w) X.A (eval iter X.env) (fun v s1 => wpAny (model X.prog X.w) X.A (pyIter v) (PIE X pins σ tg R) X.xe s1) X.xe s
instance {X : Cx} {tg iter : Expr} {wi : TI} : CoeFun (PI X tg iter wi) fun _ => ∀ (pins : List (Addr×Obj)) (s : Shared) (σ : St) (H : Hp) (R : It→Hp→Prop), Inv X pins σ H s→wi σ H R →
 wpAny (model X.prog X.w) X.A (eval iter X.env) (fun v s1 => wpAny (model X.prog X.w) X.A (pyIter v) (PIE X pins σ tg R) X.xe s1) X.xe s := ⟨fun h => h.go⟩
theorem pO {M : Model} {A : Around} {E : Value→Shared→Prop} {s : Shared} {tg : Expr} {it : Addr} {u : Value} {o : Obj} {n : String} {vs : Array Value} {Q : Unit→Shared→Prop} (ho : s.heap.get? it=some o) (hc : o.cls = .type n) (hd : o.data = .fields vs)
 (hn : ["enumerate", "zip", "dict_itemiterator", "dict_reverseitemiterator", "odict_iterator", "itertools.zip_longest", "itertools.pairwise"].contains n=false) (hQ : Q () s) : wpAny M A (letOwnedTupleGo tg (.ref it) u) Q E s := by
 unfold letOwnedTupleGo
 cases tg <;> first
  | exact wpAny_pure hQ
  | (cases u <;> first
   | exact wpAny_pure hQ
   | (refine wpAny_bind (wpAny_load ho ?_)
      rw [hc, hd]
      show wpAny M A (if (["enumerate", "zip", "dict_itemiterator", "dict_reverseitemiterator", "odict_iterator", "itertools.zip_longest", "itertools.pairwise"].contains n&&vs[0]? == some (rawInt _))=true then _ else _) Q E s
      rw [if_neg (by intro h; rw [hn, Bool.false_and] at h; cases h)]
      exact wpAny_pure hQ))
def Itl (K : PySem.W.Frag) (a : Addr) : It :=
 ⟨fun i H => ∃ xs x, SqL K H a xs∧xs[i]? = some x, fun i H x H' => H'=H∧∀ xs, SqL K H a xs→xs[i]? = some x, fun i H => ∃ xs, SqL K H a xs∧xs.length≤i⟩
def Itr (lo : Int) (n : Nat) : It := ⟨fun i _ => i<n, fun i H x H' => H'=H∧x = .int (lo + i), fun i _ => n≤i⟩
theorem k_ {P : Program} {w : World} {K : PySem.W.Frag} {tg : Expr} (a it : Addr) : Turn P w K tg (Itl K a) [it] it (fun i h => h.IsListIter it a i) where
 mem := by simp
 obj := fun i h st b hb => by
  have e : b=it := by simpa using hb
  subst e
  obtain ⟨o, e, c, d⟩ := st
  exact ⟨o, e, fun v z => by rw [d] at z; cases z⟩
 keep := fun i h h' st k => st.at fun o e => k it (by simp) o e
 item := by
  intro X hP hw hK hc i pins s σ H E I hf st hg
  subst hP hw hK
  obtain ⟨xs, x, hq, hx⟩ := hg
  obtain ⟨its, rv, p, hz⟩ := I.list hq
  obtain ⟨u, hu, ru⟩ := rv.get hx
  obtain ⟨f0, f1, f2, f3, f4, f5⟩ := hf it (by simp)
  refine wpAny_pyNext_list_item st p.isList (x := u) (by simpa using hu) fun h' st' sb => ?_
  have I1 : Inv X pins σ H { s with heap := h' } := I.turned (t' := s.toks) (fun b o hb e => (sb.2 b hb).trans e) f0 f1 f3 f4 f5
  obtain ⟨o, e, c, d⟩ := id st'
  exact ⟨u, rfl, pO (s := { s with heap := h' }) e c d (by decide) ⟨x, H, I1, ru, ⟨rfl, fun ys hy => by rw [I.list_inj hy hq]; exact hx⟩, st', fun b hb => (hf b hb).1⟩⟩
 done := by
  intro X hP hw hK hc i pins s σ H E I hf st hg
  subst hP hw hK
  obtain ⟨xs, hq, hx⟩ := hg
  obtain ⟨its, rv, p, hz⟩ := I.list hq
  obtain ⟨f0, f1, f2, f3, f4, f5⟩ := hf it (by simp)
  have hl := rv.length
  exact wpAny_pyNext_list_end (I.ok.hd hc) st p.isList (by simp; omega) fun h' eb => ⟨rfl, I.turned (t' := s.toks) (fun b o hb e => eb b o hb e) f0 f1 f3 f4 f5⟩
 self := fun _ _ _ _ _ st h => wpAny_pyIter_listiter st h
theorem jb {P : Program} {w : World} {K : PySem.W.Frag} {tg : Expr} (it : Addr) (lo : Int) (n : Nat) : Turn P w K tg (Itr lo n) [it] it (fun i h => IsRangeIter h it (lo + (i : Nat) * 1) ((n : Int) - (i : Nat)) 1) where
 mem := by simp
 obj := fun i h st b hb => by
  have e : b=it := by simpa using hb
  subst e
  exact ⟨_, st, fun v z => by
   have z' : Data.fields _=Data.cell v := z
   cases z'⟩
 keep := fun i h h' st k => k it (by simp) _ st
 item := by
  intro X hP hw hK hc i pins s σ H E I hf st hg
  subst hP hw hK
  obtain ⟨f0, f1, f2, f3, f4, f5⟩ := hf it (by simp)
  have W := Walks.range (prog := X.prog) (w := X.w) (I.ok.hd hc) it lo 1 n
  refine W.item i s _ _ hg st fun v h' tk hv st' kk => ?_
  obtain ⟨t, rfl⟩ := hv
  have I1 : Inv X pins σ H { s with heap := h', toks := tk } := I.turned (fun b o hb e => kk b o (by simpa using hb) e) f0 f1 f3 f4 f5
  refine ⟨_, rfl, pO (s := { s with heap := h', toks := tk }) (n := "range_iterator") st' rfl rfl (by decide) ⟨.int (lo + i), H, I1, ⟨t, ?_⟩, ⟨rfl, rfl⟩, st', fun b hb => (hf b hb).1⟩⟩
  rw [Int.mul_one]
 done := by
  intro X hP hw hK hc i pins s σ H E I hf st hg
  subst hP hw hK
  obtain ⟨f0, f1, f2, f3, f4, f5⟩ := hf it (by simp)
  exact wpAny_pyNext_range_end (I.ok.hd hc) st (by have : n≤i := hg; omega) fun h' eb => ⟨rfl, I.turned (t' := s.toks) (fun b o hb e => eb b o hb e) f0 f1 f3 f4 f5⟩
 self := fun _ _ _ _ _ st h => wpAny_pyIter_rangeiter st h
section
variable {X : Cx} {tg : Expr}
def iList (K : PySem.W.Frag) (tl : TE) : TI := fun σ H R => tl σ H fun x H1 => ∃ a, x = .ref a∧(∃ xs, SqL K H1 a xs)∧R (Itl K a) H1
theorem pk {l : Expr} {tl : TE} (hl : PE X l tl) : PI X tg l (iList X.K tl) := by
 (try refine ⟨?_⟩); intro pins s σ H R I h
 refine thn (hl pins s σ H _ I h) fun v s1 ⟨x, H1, I1, r1, q1⟩ => ?_
 obtain ⟨a, e, ⟨xs, hq⟩, q⟩ := q1
 subst e
 cases r1
 obtain ⟨its, rv, p, hz⟩ := I1.list hq
 refine wpAny_pyIter_list p.isList ?_
 refine ⟨s1.heap.objs.size, [s1.heap.objs.size], _, _, H1, rfl, I1.kept (t' := s1.toks) fun b o e => Heap.get?_push_of_some _ e, k_ a _, ⟨_, Heap.get?_push_size _ rfl, rfl, rfl⟩, fun b hb => ?_, q⟩
 have e : b=s1.heap.objs.size := by simpa using hb
 subst e
 exact I1.fpOk (Nat.le_refl _) (I1.hok.fresh (Nat.le_refl _))
theorem iK {pins : List (Addr×Obj)} {σ : St} {H : Hp} {s : Shared} {R : It→Hp→Prop} {E : Value→Shared→Prop} {lo hi : Int} {t u v : Tok} {tk : Nat} (I : Inv X pins σ H s) (h1 : -(2 ^ 62)≤lo) (h2 : lo<2 ^ 62) (h3 : -(2 ^ 62)≤hi) (h4 : hi<2 ^ 62)
 (q : R (Itr lo (hi - lo).toNat) H) : wpAny (model X.prog X.w) X.A (pyIter (.ref s.heap.objs.size)) (PIE X pins σ tg R) E { s with heap := s.heap.push { cls := .type "range", data := .fields #[.int lo t, .int hi u, .int 1 v] }, toks := tk } := by
 refine wpAny_pyIter_range (IsRange.new ..) (small_one h1 h2 h3 h4) ?_
 have I1 : Inv X pins σ H { s with heap := s.heap.push { cls := .type "range", data := .fields #[.int lo t, .int hi u, .int 1 v] }, toks := tk } := I.kept fun b o e => Heap.get?_push_of_some _ e
 refine ⟨(s.heap.push { cls := .type "range", data := .fields #[.int lo t, .int hi u, .int 1 v] }).objs.size, [(s.heap.push { cls := .type "range", data := .fields #[.int lo t, .int hi u, .int 1 v] }).objs.size], _, _, H, rfl,
  I1.kept (t' := tk) fun b o e => Heap.get?_push_of_some _ e, jb _ lo (hi - lo).toNat, ?_, fun b hb => ?_, q⟩
 ·have e1 : lo + ((0 : Nat) : Int) * 1=lo := by simp
  have e2 : (((hi - lo).toNat : Nat) : Int) - ((0 : Nat) : Int)=Builtin.Range.rangeSize lo hi 1 := by rw [rangeSize_one]; split <;> omega
  show IsRangeIter _ _ (lo + ((0 : Nat) : Int) * 1) ((((hi - lo).toNat : Nat) : Int) - ((0 : Nat) : Int)) 1
  rw [e1, e2]
  exact Heap.get?_push_size _ rfl
 ·have e : b=(s.heap.push { cls := .type "range", data := .fields #[.int lo t, .int hi u, .int 1 v] }).objs.size := by simpa using hb
  subst e
  exact I1.fpOk (Nat.le_refl _) (I1.hok.fresh (Nat.le_refl _))
def iRng1 (ta : TA) : TI := fun σ H R => ta σ H fun vs H1 => ∃ j : Int, vs=[.int j] ∧ -(2 ^ 62)≤j∧j<2 ^ 62∧R (Itr 0 j.toNat) H1
def iRng2 (ta : TA) : TI := fun σ H R => ta σ H fun vs H1 => ∃ i j : Int, vs=[.int i, .int j]∧(-(2 ^ 62)≤i∧i<2 ^ 62 ∧ -(2 ^ 62)≤j∧j<2 ^ 62)∧R (Itr i (j - i).toNat) H1
theorem kD {a : Expr} {ta : TA} {p pos : Pos} (hg : Gl X "range") (hm : X.mg "range" = none) (ha : PA X [a] ta) (hs : starEach [a] X.env=[(false, eval a X.env)] := by rfl) : PI X tg (.Call (.Name "range" p) [a] [] pos) (iRng1 ta) := by
 (try refine ⟨?_⟩); intro pins s σ H R I h
 refine Call_ (eD I hg hm boot_range (PyProof.Rows.callWith_type1 (thn (ha pos pins s σ H _ I h) fun us s1 ⟨vs, H1, I1, r1, q1⟩ => ?_) hs rfl))
 obtain ⟨j, e, q1, q2, q⟩ := q1
 subst e
 cases r1 with
 | cons r rr =>
  cases rr
  obtain ⟨t, rfl⟩ := r
  exact call_range_1 (iK I1 (by omega) (by omega) q1 q2 (by simpa using q))
theorem kL {a b : Expr} {ta : TA} {p pos : Pos} (hg : Gl X "range") (hm : X.mg "range" = none) (ha : PA X [a, b] ta) (hs : starEach [a, b] X.env=[(false, eval a X.env), (false, eval b X.env)] := by rfl) (hs2 : starEach [b] X.env=[(false, eval b X.env)] := by rfl) :
 PI X tg (.Call (.Name "range" p) [a, b] [] pos) (iRng2 ta) := by
 (try refine ⟨?_⟩); intro pins s σ H R I h
 refine Call_ (eD I hg hm boot_range (PyProof.Rows.callWith_type1 (thn (ha pos pins s σ H _ I h) fun us s1 ⟨vs, H1, I1, r1, q1⟩ => ?_) (by rw [hs, hs2]) (by rw [hs2]; rfl)))
 obtain ⟨i, j, e, ⟨q1, q2, q3, q4⟩, q⟩ := q1
 subst e
 cases r1 with
 | cons r rr =>
  cases rr with
  | cons r' rr =>
   cases rr
   obtain ⟨t, rfl⟩ := r
   obtain ⟨t', rfl⟩ := r'
   exact call_range_2 (iK I1 q1 q2 q3 q4 q)
def tFor (wi : TI) (g : TG) (tb : TS) : TS := fun D σ H => wi σ H fun J H1 => ∃ W : Nat→Nat→St→Hp→Prop, (∃ m, W 0 m σ H1)∧∀ i m σ H, W i m σ H →
 (J.stop i H∧D.nx σ H)∨(J.go i H∧∃ N : St→Hp→Prop, (∀ σ' H', N σ' H'→∃ m', m'<m∧W (i + 1) m' σ' H')∧∀ x H', J.yld i H x H'→g x σ H' fun σ2 H2 => tb { D with nx := N, ct := N, bk := D.nx } σ2 H2)
def fO (fp : List Addr) (h : Heap) : List (Addr×Obj) := fp.filterMap fun b => (h.get? b).map fun o => (b, o)
theorem bF {fp : List Addr} {h : Heap} {b : Addr} {o : Obj} (hb : b∈fp) (e : h.get? b=some o) : (b, o)∈fO fp h := List.mem_filterMap.mpr ⟨b, hb, by rw [e]; rfl⟩
theorem gC {fp : List Addr} {h : Heap} {p : Addr×Obj} (hp : p∈fO fp h) : p.1∈fp∧h.get? p.1=some p.2 := by
 obtain ⟨b, hb, e⟩ := List.mem_filterMap.mp hp
 cases q : h.get? b with
 | none => rw [q] at e; cases e
 | some o =>
  rw [q] at e
  have e' : (b, o)=p := Option.some.inj e
  subst e'
  exact ⟨hb, q⟩
theorem Inv.pinned {pins : List (Addr×Obj)} {σ : St} {H : Hp} {s : Shared} {fp : List Addr} (I : Inv X pins σ H s) (hf : ∀ b∈fp, hX X pins H b) (ho : ∀ b∈fp, ∃ o, s.heap.get? b=some o∧∀ v, o.data ≠ .cell v) : Inv X (pins++fO fp s.heap) σ H s :=
 I.pins_of fun p hp => (List.mem_append.mp hp).elim (fun z => I.pin p (List.mem_append_right _ z)) fun z => by
  obtain ⟨hb, e⟩ := gC z
  obtain ⟨f0, f1, f2, _⟩ := hf p.1 hb
  obtain ⟨o, e', d⟩ := ho p.1 hb
  rw [e] at e'; cases e'
  exact ⟨e, f0, f1, f2, d⟩
theorem Inv.unpinned {pins pl : List (Addr×Obj)} {σ : St} {H : Hp} {s : Shared} (I : Inv X (pins++pl) σ H s) : Inv X pins σ H s := I.pins_of fun p hp => I.pin p (List.mem_append_right _ (List.mem_append_left _ hp))
theorem pY {iter : Expr} {body : List Stmt} {wi : TI} {g : TG} {tb : TS} {pos : Pos} (hp : PassesOwn (model X.prog X.w) X.A X.env X.xe) (hc : X.calm=true) (hi : PI X tg iter wi) (hg : PG X tg g) (hb : PSs X body tb)
 (hs : ∀ x, foldedSetIterable iter X.env x=pure x := by intro _; rfl) : PS X (.For tg iter body [] pos) (tFor wi g tb) := by
 (try refine ⟨?_⟩); intro pins s σ H D I h
 refine wpAny_For (thn (hi pins s σ H _ I h) fun v s1 h1 => thn h1 fun itv s2 h2 => ?_) hs
 obtain ⟨it, fp, tn, J, H2, e, I2, T, st2, f2, W, ⟨m0, w0⟩, turn⟩ := h2
 subst e
 -- what stays true of the iterator's objects through the loop
 have stat : ∀ {H' : Hp}, (∀ b∈fp, H' b=none)→∀ b∈fp, hX X pins H' b := fun hn b hb => ⟨hn b hb, (f2 b hb).2⟩
 refine codeAny_forLoop_any (fun n s' => ∃ i σ' H', Inv X pins σ' H' s'∧tn i s'.heap∧(∀ b∈fp, H' b=none)∧W i n σ' H') ?_ m0 ⟨0, σ, H2, I2, st2, fun b hb => (f2 b hb).1, w0⟩
 rintro n s3 ⟨i, σ3, H3, I3, st3, fr3, w3⟩
 rcases turn i n σ3 H3 w3 with ⟨stop, qn⟩ | ⟨go, N, hN, step⟩
 ·refine wpAny_passesOwn hp (thn (T.done X rfl rfl rfl hc i pins s3 σ3 H3 X.xe I3 (stat fr3) st3 stop) fun r s4 ⟨hr, I4⟩ => ?_)
  subst hr
  exact wpAny_execs_nil ⟨σ3, H3, I4, qn⟩
 ·refine wpAny_passesOwn hp (thn (T.item X rfl rfl rfl hc i pins s3 σ3 H3 X.xe I3 (stat fr3) st3 go) fun r s4 ⟨u, hr, h4⟩ => ?_)
  subst hr
  refine wpAny_passesOwn hp (thn h4 fun _ s5 ⟨x, H5, I5, r5, y5, st5, fr5⟩ => ?_)
  have I5' := I5.pinned (stat fr5) (T.obj _ _ st5)
  refine wpAny_passesOwn hp (thn (hg _ s5 σ3 H5 x u _ I5' r5 (step x H5 y5)) fun _ s6 ⟨σ6, H6, I6, q6⟩ => ?_)
  refine wpAny_passesOwn hp (thn (hb _ s6 σ6 H6 _ I6 q6) fun f s7 q7 => ?_)
  have again : ∀ {σ7 : St} {H7 : Hp}, Inv X (pins++fO fp s5.heap) σ7 H7 s7→N σ7 H7→∃ m, m<n∧∃ i σ' H', Inv X pins σ' H' s7∧tn i s7.heap∧(∀ b∈fp, H' b=none)∧W i m σ' H' := fun {σ7 H7} I7 n7 => by
   obtain ⟨m', hm, w7⟩ := hN σ7 H7 n7
   refine ⟨m', hm, i + 1, σ7, H7, I7.unpinned, T.keep _ _ _ st5 fun b hb o e => (I7.pin (b, o) (List.mem_append_right _ (List.mem_append_right _ (bF hb e)))).1, fun b hb => ?_, w7⟩
   obtain ⟨o, e, d⟩ := T.obj _ _ st5 b hb
   exact (I7.pin (b, o) (List.mem_append_right _ (List.mem_append_right _ (bF hb e)))).2.1
  cases f with
  | next => obtain ⟨σ7, H7, I7, n7⟩ := q7; exact again I7 n7
  | cont => obtain ⟨σ7, H7, I7, n7⟩ := q7; exact again I7 n7
  | brk => obtain ⟨σ7, H7, I7, q7⟩ := q7; exact ⟨σ7, H7, I7.unpinned, q7⟩
  | ret v => obtain ⟨x7, σ7, H7, I7, r7, q7⟩ := q7; exact ⟨x7, σ7, H7, I7.unpinned, r7, q7⟩
end
abbrev R2 := V→V→Hp→VK→Prop
def OpR (X : Cx) (f : Value→Value→Sem Value) (r : R2) : Prop :=
 ∀ (pins : List (Addr×Obj)) (s : Shared) (σ : St) (H : Hp) (x y : V) (v u : Value) (Q : VK), Inv X pins σ H s→aN x v→aN y u→r x y H Q →
  wpAny (model X.prog X.w) X.A (f v u) (EP X pins σ Q) X.xe s
def UnR (X : Cx) (f : Value→Sem Value) (r : V→Hp→VK→Prop) : Prop :=
 ∀ (pins : List (Addr×Obj)) (s : Shared) (σ : St) (H : Hp) (x : V) (v : Value) (Q : VK), Inv X pins σ H s→aN x v→r x H Q →
  wpAny (model X.prog X.w) X.A (f v) (EP X pins σ Q) X.xe s
def bH (X : Cx) (f : Value) (r : List V→Hp→VK→Prop) : Prop :=
 ∀ (pins : List (Addr×Obj)) (s : Shared) (σ : St) (H : Hp) (xs : List V) (us : List Value) (Q : VK), Inv X pins σ H s→aF xs us→r xs H Q →
  wpAny (model X.prog X.w) X.A (call f us) (EP X pins σ Q) X.xe s
def tOp (r : R2) (ta tb : TE) : TE := fun σ H Q => ta σ H fun x H1 => tb σ H1 fun y H2 => r x y H2 Q
def tUn (r : V→Hp→VK→Prop) (ta : TE) : TE := fun σ H Q => ta σ H fun x H1 => r x H1 Q
def rI (C : Int→Int→Prop) (g : Int→Int→V) : R2 := fun x y H Q => ∃ i j, x = .int i∧y = .int j∧C i j∧Q (g i j) H
def rI0 (g : Int→Int→V) : R2 := fun x y H Q => ∃ i j, x = .int i∧y = .int j∧Q (g i j) H
def rU (g : Int→V) : V→Hp→VK→Prop := fun x H Q => ∃ i, x = .int i∧Q (g i) H
section
variable {X : Cx} {a b c : Expr} {ta tb tc : TE} {pos : Pos}
theorem binT (ha : PE X a ta) (hb : PE X b tb) {pins : List (Addr×Obj)} {s : Shared} {σ : St} {H : Hp} {R : V→V→Hp→Prop} (I : Inv X pins σ H s)
 (h : ta σ H fun x H1 => tb σ H1 fun y H2 => R x y H2) {Q : Value→Shared→Prop} {f : Value→Value→Sem Value}
 (hf : ∀ v u s2 x y H2, Inv X pins σ H2 s2→aN x v→aN y u→R x y H2→wpAny (model X.prog X.w) X.A (f v u) Q X.xe s2) :
 wpAny (model X.prog X.w) X.A (eval a X.env) (fun v s₁ => wpAny (model X.prog X.w) X.A (eval b X.env) (fun u s₂ => wpAny (model X.prog X.w) X.A (f v u) Q X.xe s₂) X.xe s₁) X.xe s := by
 refine thn (ha pins s σ H _ I h) fun v s1 ⟨x, H1, I1, r1, q1⟩ => ?_
 refine thn (hb pins s1 σ H1 _ I1 q1) fun u s2 ⟨y, H2, I2, r2, q2⟩ => ?_
 exact hf v u s2 x y H2 I2 r1 r2 q2
theorem pQ {op : Operator} {r : R2} (ho : OpR X (binaryOp op) r) (ha : PE X a ta) (hb : PE X b tb) : PE X (.BinOp a op b pos) (tOp r ta tb) := by
 (try refine ⟨?_⟩); intro pins s σ H Q I h
 exact wpAny_BinOp (binT ha hb I h fun v u s2 x y H2 I2 rx ry q => ho pins s2 σ H2 x y v u Q I2 rx ry q)
theorem pK {op : UnaryOp} {r : V→Hp→VK→Prop} (ho : UnR X (unaryOp op) r) (ha : PE X a ta) : PE X (.UnaryOp op a pos) (tUn r ta) := by
 (try refine ⟨?_⟩); intro pins s σ H Q I h
 exact UnaryOp_ (thn (ha pins s σ H _ I h) fun v s1 ⟨x, H1, I1, r1, q1⟩ => ho pins s1 σ H1 x v Q I1 r1 q1)
theorem opI {f : Value→Value→Sem Value} {C : Int→Int→Prop} {g : Int→Int→Int}
 (rule : ∀ (i j : Int) (t u : Tok) (s : Shared) (Q : Value→Shared→Prop) (E : Value→Shared→Prop), C i j→Q (.int (g i j) s.toks) { s with toks := s.toks + 1 } → wpAny (model X.prog X.w) X.A (f (.int i t) (.int j u)) Q E s) :
 OpR X f (rI C fun i j => .int (g i j)) := by
 (try refine ⟨?_⟩); intro pins s σ H x y v u Q I rx ry h
 obtain ⟨i, j, rfl, rfl, hc, q⟩ := h
 obtain ⟨t, rfl⟩ := rx
 obtain ⟨t', rfl⟩ := ry
 exact rule i j t t' s _ _ hc ⟨.int (g i j), H, I.tok _, ⟨_, rfl⟩, q⟩
theorem opI0 {f : Value→Value→Sem Value} {g : Int→Int→Int}
 (rule : ∀ (i j : Int) (t u : Tok) (s : Shared) (Q : Value→Shared→Prop) (E : Value→Shared→Prop), Q (.int (g i j) s.toks) { s with toks := s.toks + 1 } → wpAny (model X.prog X.w) X.A (f (.int i t) (.int j u)) Q E s) :
 OpR X f (rI0 fun i j => .int (g i j)) := by
 (try refine ⟨?_⟩); intro pins s σ H x y v u Q I rx ry h
 obtain ⟨i, j, rfl, rfl, q⟩ := h
 obtain ⟨t, rfl⟩ := rx
 obtain ⟨t', rfl⟩ := ry
 exact rule i j t t' s _ _ ⟨.int (g i j), H, I.tok _, ⟨_, rfl⟩, q⟩
theorem opB0 {f : Value→Value→Sem Value} {g : Int→Int→Bool}
 (rule : ∀ (i j : Int) (t u : Tok) (s : Shared) (Q : Value→Shared→Prop) (E : Value→Shared→Prop), Q (.bool (g i j)) s→wpAny (model X.prog X.w) X.A (f (.int i t) (.int j u)) Q E s) :
 OpR X f (rI0 fun i j => .bl (g i j)) := by
 (try refine ⟨?_⟩); intro pins s σ H x y v u Q I rx ry h
 obtain ⟨i, j, rfl, rfl, q⟩ := h
 obtain ⟨t, rfl⟩ := rx
 obtain ⟨t', rfl⟩ := ry
 exact rule i j t t' s _ _ ⟨.bl (g i j), H, I, rfl, q⟩
def CDiv (i j : Int) : Prop := 0<j∧j<1073741824
def CPow (i j : Int) : Prop := 0≤j∧j≤1000000∧i.natAbs<2 ^ 64
def CMul (i j : Int) : Prop := (-(2 ^ 64)<i∧i<2 ^ 64)∨(-(2 ^ 64)<j∧j<2 ^ 64)
theorem CMul.ok {i j : Int} (h : CMul i j) : IntMulOk i j := by
 rcases h with ⟨h1, h2⟩ | ⟨h1, h2⟩
 ·exact .of_left (intBits_le_64 h1 h2)
 ·exact .of_right (intBits_le_64 h1 h2)
theorem aW : OpR X (binaryOp .Add) (rI0 fun i j => .int (i + j)) := opI0 fun _ _ _ _ _ _ _ q => add_int q
theorem bX : OpR X (binaryOp .Sub) (rI0 fun i j => .int (i - j)) := opI0 fun _ _ _ _ _ _ _ q => sub_int q
theorem eG : OpR X (binaryOp .Mult) (rI CMul fun i j => .int (i * j)) := opI fun _ _ _ _ _ _ _ hc q => mul_int q hc.ok
theorem oK : OpR X (binaryOp .FloorDiv) (rI CDiv fun i j => .int (i / j)) := opI fun i j _ _ _ _ _ hc q => by
 have h1 : (0 : Int)<j := hc.1
 have h2 : j<1073741824 := hc.2
 exact floordiv_int (by omega) (by rw [Int.fdiv_eq_ediv_of_nonneg i (by omega)]; exact q) (.inl (PyProof.noPylong_small (by omega)))
theorem cy : OpR X (binaryOp .Mod) (rI (fun _ j => 0<j) fun i j => .int (i % j)) := opI fun i j _ _ _ _ _ hc q => by
 have h1 : (0 : Int)<j := hc
 exact mod_int' (by omega) (by rw [Int.fmod_eq_emod_of_nonneg i (by omega)]; exact q)
theorem dF : OpR X (binaryOp .Pow) (rI CPow fun i j => .int (i ^ j.toNat)) := opI fun _ _ _ _ _ _ _ hc q => pow_int_small hc.1 hc.2.1 hc.2.2 q
theorem unI {f : Value→Sem Value} {g : Int→Int}
 (rule : ∀ (i : Int) (t : Tok) (s : Shared) (Q : Value→Shared→Prop) (E : Value→Shared→Prop), Q (.int (g i) s.toks) { s with toks := s.toks + 1 } → wpAny (model X.prog X.w) X.A (f (.int i t)) Q E s) :
 UnR X f (rU fun i => .int (g i)) := by
 (try refine ⟨?_⟩); intro pins s σ H x v Q I rx h
 obtain ⟨i, rfl, q⟩ := h
 obtain ⟨t, rfl⟩ := rx
 exact rule i t s _ _ ⟨.int (g i), H, I.tok _, ⟨_, rfl⟩, q⟩
theorem nj : UnR X (unaryOp .USub) (rU fun i => .int (-i)) := unI fun _ _ _ _ _ q => neg_int q
end
def scal : V→V→Bool
 | .non, .non => true | .non, .int _ => true | .int _, .non => true | .non, .bl _ => true | .bl _, .non => true | .non, .str _ => true | .str _, .non => true
 | .int _, .int _ => true | .bl _, .bl _ => true | .str _, .str _ => true | .byt _, .byt _ => true
 | .int _, .str _ => true | .str _, .int _ => true | .bl _, .str _ => true | .str _, .bl _ => true
 | _, _ => false
def rNe : R2 := fun x y H Q => scal x y=true∧Q (.bl (!decide (x=y))) H
theorem pf {i j : Int} : decide (V.int i=V.int j)=(i == j) := by
 rw [Bool.eq_iff_iff]
 simp
theorem qK {i j : Bool} : decide (V.bl i=V.bl j)=(i == j) := by
 rw [Bool.eq_iff_iff]
 simp
theorem pv {i j : Str} : decide (V.str i=V.str j)=(i == j) := by
 rw [Bool.eq_iff_iff]
 simp
theorem oO {i j : Array UInt8} : decide (V.byt i=V.byt j)=(i.toList == j.toList) := by
 rw [Bool.eq_iff_iff]
 cases i
 cases j
 simp
section
variable {X : Cx} {a b c : Expr} {ta tb tc : TE} {pos : Pos}
theorem bx {pins : List (Addr×Obj)} {σ : St} {H : Hp} {s : Shared} {Q : VK} {k k' : Bool} (I : Inv X pins σ H s) (q : Q (.bl k) H) (e : k=k') : EP X pins σ Q (.bool k') s := by
 subst e
 exact ⟨.bl k, H, I, rfl, q⟩
theorem op_ne : OpR X (compareOp .NotEq) rNe := by
 (try refine ⟨?_⟩); intro pins s σ H x y v u Q I rx ry h
 obtain ⟨hs, q⟩ := h
 cases x with
 | non =>
  cases rx
  cases y with
  | non => cases ry; exact PySem.EqNone.ne_none_none (bx I q (by simp))
  | bl j => cases ry; exact PySem.EqNone.ne_none_bool (bx I q (by simp))
  | int j => obtain ⟨t', rfl⟩ := ry; exact PySem.EqNone.ne_none_int (bx I q (by simp))
  | str j => obtain ⟨t', rfl⟩ := ry; exact PySem.EqNone.ne_none_str (bx I q (by simp))
  | _ => exact absurd (show false=true from hs) Bool.false_ne_true
 | bl i =>
  cases rx
  cases y with
  | non => cases ry; exact PySem.EqNone.ne_bool_none (bx I q (by simp))
  | bl j => cases ry; exact ne_bool (bx I q (congrArg not qK))
  | str j => obtain ⟨t', rfl⟩ := ry; exact PySem.EqMixed.ne_bool_str (bx I q (by simp))
  | _ => exact absurd (show false=true from hs) Bool.false_ne_true
 | int i =>
  obtain ⟨t, rfl⟩ := rx
  cases y with
  | non => cases ry; exact PySem.EqNone.ne_int_none (bx I q (by simp))
  | int j => obtain ⟨t', rfl⟩ := ry; exact ne_int (bx I q (congrArg not pf))
  | str j => obtain ⟨t', rfl⟩ := ry; exact PySem.EqMixed.ne_int_str (bx I q (by simp))
  | _ => exact absurd (show false=true from hs) Bool.false_ne_true
 | str i =>
  obtain ⟨t, rfl⟩ := rx
  cases y with
  | non => cases ry; exact PySem.EqNone.ne_str_none (bx I q (by simp))
  | bl j => cases ry; exact PySem.EqMixed.ne_str_bool (bx I q (by simp))
  | int j => obtain ⟨t', rfl⟩ := ry; exact PySem.EqMixed.ne_str_int (bx I q (by simp))
  | str j => obtain ⟨t', rfl⟩ := ry; exact ne_str (bx I q (congrArg not pv))
  | _ => exact absurd (show false=true from hs) Bool.false_ne_true
 | byt i =>
  obtain ⟨t, rfl⟩ := rx
  cases y with
  | byt j => obtain ⟨t', rfl⟩ := ry; exact PySem.W.ne_bytes (bx I q (congrArg not oO))
  | _ => exact absurd (show false=true from hs) Bool.false_ne_true
 | _ => cases y <;> exact absurd (show false=true from hs) Bool.false_ne_true
theorem gR : OpR X (compareOp .Lt) (rI0 fun i j => .bl (decide (i<j))) := opB0 fun _ _ _ _ _ _ _ q => lt_int q
theorem ix : OpR X (compareOp .LtE) (rI0 fun i j => .bl (decide (i≤j))) := opB0 fun _ _ _ _ _ _ _ q => le_int q
theorem jG : OpR X (compareOp .Gt) (rI0 fun i j => .bl (decide (j<i))) := opB0 fun _ _ _ _ _ _ _ q => gt_int q
theorem aH (b : Expr) {op : CmpOp} (h : op ≠ .In := by decide) (h2 : op ≠ .NotIn := by decide) : behindInMarks op b=false := by
 have e1 : (op == CmpOp.In)=false := by cases op <;> first | rfl | exact absurd rfl h
 have e2 : (op == CmpOp.NotIn)=false := by cases op <;> first | rfl | exact absurd rfl h2
 cases b <;> simp [behindInMarks, e1, e2]
theorem nZ {op : CmpOp} {r : R2} (ho : OpR X (compareOp op) r) (ha : PE X a ta) (hb : PE X b tb) (hm : behindInMarks op b=false) : PE X (.Compare a [op] [b] pos) (tOp r ta tb) := by
 (try refine ⟨?_⟩); intro pins s σ H Q I h
 exact wpAny_Compare1 (binT ha hb I h fun v u s2 x y H2 I2 rx ry q => ho pins s2 σ H2 x y v u Q I2 rx ry q) hm
def ls (t : TE) : TT := fun σ H Q => t σ H fun x H' => ∃ k, x = .bl k∧Q k H'
theorem oI {op : CmpOp} {r : R2} (ho : OpR X (compareOp op) r) (ha : PE X a ta) (hb : PE X b tb) (hm : behindInMarks op b=false) : PT X (.Compare a [op] [b] pos) (ls (tOp r ta tb)) := by
 (try refine ⟨?_⟩); intro pins s σ H Q I h
 refine wpAny_isTrue_Compare1 (thn (ha pins s σ H _ I h) fun v s1 ⟨x, H1, I1, r1, q1⟩ => thn (hb pins s1 σ H1 _ I1 q1) fun u s2 ⟨y, H2, I2, r2, q2⟩ =>
  thn (ho pins s2 σ H2 x y v u _ I2 r1 r2 q2) fun c s3 ⟨z, H3, I3, r3, k, e, q3⟩ => ?_) hm
 subst e
 cases r3
 exact wpAny_truthy_bool ⟨H3, I3, q3⟩
def i4 (r r' : R2) (ta tb tc : TE) : TE := fun σ H Q => ta σ H fun x H1 => tb σ H1 fun y H2 => r x y H2 fun z H3 => ∃ k, z = .bl k ∧
 (if k=true then tc σ H3 fun w' H4 => r' y w' H4 Q else Q (.bl false) H3)
theorem nu {op op' : CmpOp} {r r' : R2} (ho : OpR X (compareOp op) r) (ho' : OpR X (compareOp op') r') (ha : PE X a ta) (hb : PE X b tb) (hc : PE X c tc)
 (hm : lastMarks [op, op'] [b, c]=false := by with_unfolding_all rfl) : PE X (.Compare a [op, op'] [b, c] pos) (i4 r r' ta tb tc) := by
 (try refine ⟨?_⟩); intro pins s σ H Q I h
 refine Compare_chain (thn (ha pins s σ H _ I h) fun v s1 ⟨x, H1, I1, r1, q1⟩ => chain_link (thn (hb pins s1 σ H1 _ I1 q1) fun u s2 ⟨y, H2, I2, r2, q2⟩ =>
  thn (ho pins s2 σ H2 x y v u _ I2 r1 r2 q2) fun d s3 ⟨z, H3, I3, r3, k, e, q3⟩ => ?_)) hm
 subst e
 cases r3
 refine wpAny_truthy_bool ?_
 cases k with
 | false => exact ite_ff ⟨.bl false, H3, I3, rfl, q3⟩
 | true => exact ite_tt (chain_last (thn (hc pins s3 σ H3 _ I3 q3) fun w' s4 ⟨z', H4, I4, r4, q4⟩ => ho' pins s4 σ H4 y z' u w' Q I4 r2 r4 q4))
theorem nO {op op' : CmpOp} {r r' : R2} (ho : OpR X (compareOp op) r) (ho' : OpR X (compareOp op') r') (ha : PE X a ta) (hb : PE X b tb) (hc : PE X c tc)
 (hm : lastMarks [op, op'] [b, c]=false := by with_unfolding_all rfl) : PT X (.Compare a [op, op'] [b, c] pos) (ls (i4 r r' ta tb tc)) := by
 (try refine ⟨?_⟩); intro pins s σ H Q I h
 refine isTrue_chain (thn (ha pins s σ H _ I h) fun v s1 ⟨x, H1, I1, r1, q1⟩ => test_link (thn (hb pins s1 σ H1 _ I1 q1) fun u s2 ⟨y, H2, I2, r2, q2⟩ =>
  thn (ho pins s2 σ H2 x y v u _ I2 r1 r2 q2) fun d s3 ⟨z, H3, I3, r3, k, e, q3⟩ => ?_)) hm
 subst e
 cases r3
 refine wpAny_truthy_bool ?_
 cases k with
 | false =>
  obtain ⟨k', e', q'⟩ := q3
  cases e'
  exact ite_ff ⟨H3, I3, q'⟩
 | true =>
  refine ite_tt (test_last (thn (hc pins s3 σ H3 _ I3 q3) fun w' s4 ⟨z', H4, I4, r4, q4⟩ => thn (ho' pins s4 σ H4 y z' u w' _ I4 r2 r4 q4) fun d' s5 ⟨z2, H5, I5, r5, k2, e2, q5⟩ => ?_))
  subst e2
  cases r5
  exact wpAny_truthy_bool ⟨H5, I5, q5⟩
theorem gb : (sizeLine : Nat)<2 ^ 63 := by rw [sizeLine_eq]; decide
theorem du {x : V} {us : List Value} (r : aF [x] us) : ∃ u, us=[u]∧aN x u := by
 cases r with
 | cons r1 r2 => cases r2; exact ⟨_, rfl, r1⟩
theorem j6 {x y : V} {us : List Value} (r : aF [x, y] us) : ∃ u w', us=[u, w']∧aN x u∧aN y w' := by
 cases r with
 | cons r1 r2 =>
  cases r2 with
  | cons r3 r4 => cases r4; exact ⟨_, _, rfl, r1, r3⟩
theorem dl (hc : X.calm=true) : bH X (.builtin "max") (fun xs H Q => ∃ i j, xs=[.int i, .int j]∧Q (.int (if j > i then j else i)) H) := by
 (try refine ⟨?_⟩); intro pins s σ H xs us Q I r h
 obtain ⟨i, j, rfl, q⟩ := h
 obtain ⟨u, w', rfl, ⟨t, rfl⟩, ⟨t', rfl⟩⟩ := j6 r
 refine max_two_ints (I.ok.hd hc) fun h' tk k => ⟨_, H, I.kept k, ?_, q⟩
 by_cases hj : j > i
 ·rw [if_pos hj, if_pos hj]; exact ⟨_, rfl⟩
 ·rw [if_neg hj, if_neg hj]; exact ⟨_, rfl⟩
theorem bV (hc : X.calm=true) : bH X (.builtin "min") (fun xs H Q => ∃ i j, xs=[.int i, .int j]∧Q (.int (if j<i then j else i)) H) := by
 (try refine ⟨?_⟩); intro pins s σ H xs us Q I r h
 obtain ⟨i, j, rfl, q⟩ := h
 obtain ⟨u, w', rfl, ⟨t, rfl⟩, ⟨t', rfl⟩⟩ := j6 r
 refine min_two_ints (I.ok.hd hc) fun h' tk k => ⟨_, H, I.kept k, ?_, q⟩
 by_cases hj : j<i
 ·rw [if_pos hj, if_pos hj]; exact ⟨_, rfl⟩
 ·rw [if_neg hj, if_neg hj]; exact ⟨_, rfl⟩
end
structure ObjM (h : Heap) (x dx C : Addr) (mA : Str→Option Value) : Prop where
 obj : h.get? x=some (PySem.W.instObj C dx)
 ns : h.Ns1 dx mA
 ne : dx ≠ x
theorem kK {h : Heap} {dx : Addr} {mA : Str→Option Value} (n : h.Ns1 dx mA) : ∃ od, h.get? dx=some od∧∀ name, PySem.W.lookIn name od=some (mA name) := by
 obtain ⟨o, es, ep, ho, hd, hk, _, hm⟩ := n
 refine ⟨o, ho, fun name => ?_⟩
 have e := hm name
 unfold nsFind findBy at e
 rw [← Array.find?_toList] at e
 unfold PySem.W.lookIn
 rw [hd]
 dsimp only
 split
 ·rename_i y q
  rw [q] at e
  exact congrArg some e
 ·rename_i q
  rw [q] at e
  have a : es.toList.any (·.refKey)=false := by
   rw [List.any_eq_false]
   intro y hy
   obtain ⟨z, t, hkey⟩ := hk y (Array.mem_toList_iff.mp hy)
   simp [DictEntry.refKey, hkey]
  have a' : ¬ es.toList.any (·.refKey)=true := by rw [a]; exact Bool.false_ne_true
  rw [if_neg a']
  exact congrArg some e
theorem ObjM.look {h : Heap} {x dx C : Addr} {mA : Str→Option Value} (I : ObjM h x dx C mA) : ∃ od, PySem.W.InstAt h x (PySem.W.instObj C dx) C (some od)∧∀ name, PySem.W.lookIn name od=some (mA name) :=
 let ⟨od, ho, hl⟩ := kK I.ns
 ⟨od, ⟨I.obj, rfl, rfl, ho⟩, hl⟩
section
variable {prog : Program} {w : World} {A : Around} {E : Value→Shared→Prop} {s : Shared} {K : PySem.W.Frag} {x dx C f : Addr} {mA : Str→Option Value} {name : Str} {v : Value}
end
section
variable {P : Program} {w : World} {H H' : Hp} {h h' : Heap} {a C dx : Addr} {fs fs' : List (Str×V)}
theorem o8 (hok : HOk P w H h) (e : H a=some (.ins C dx fs)) : ∃ mA, ObjM h a dx C mA∧(∀ f, RelO (fs.lookup f) (mA f))∧PySem.Within mA (fs.map (·.1))∧fs.length≤1000∧H dx=some (.own a) := by
 obtain ⟨d, z, ne, ob, mA, n, r, q⟩ := (show aS P w H h a (.ins C dx fs) from hok a _ e)
 exact ⟨mA, ⟨ob, n, ne⟩, r, q, z, d⟩
end
structure Cls (K : PySem.W.Frag) (C : Addr) : Prop where
 pg : PySem.W.plainGet K C Str.empty=true
 hd : PySem.W.hasDictIn K C=true
 po : PySem.W.plainOver K C=true
 sa : PySem.W.findIn K (.ref C) "__setattr__" = some (some (.builtin "object.__setattr__"))
theorem Cls.get {K : PySem.W.Frag} {C : Addr} (c : Cls K C) (f : Str) : PySem.W.plainGet K C f=true := c.pg
section
variable {X : Cx} {pins : List (Addr×Obj)} {σ : St} {H : Hp} {s : Shared} {a C dx : Addr} {fs : List (Str×V)} {f : Str} {v : V} {A : Around} {E : Value→Shared→Prop}
end
section
variable {X : Cx} {o e value : Expr} {f : Str} {pos pos' tpos : Pos} {ta tv : TE}
end
section
variable {X : Cx} {pins : List (Addr×Obj)} {σ : St} {H : Hp} {s : Shared} {A : Around} {E : Value→Shared→Prop} {Q : Value→Shared→Prop} {c : Value} {b : Bool}
inductive TyOf (K : PySem.W.Frag) (H : Hp) : V→Value→Prop where
 | non : TyOf K H .non (.type "NoneType")
 | bl (x : Bool) : TyOf K H (.bl x) (.type "bool")
 | int (i : Int) : TyOf K H (.int i) (.type "int")
 | str (x : Str) : TyOf K H (.str x) (.type "str")
 | flt (x : UInt64) : TyOf K H (.flt x) (.type "float")
 | lst {a : Addr} {xs : List V} (e : H a=some (.lst xs)) : TyOf K H (.ref a) (.type "list")
 | frz {a : Addr} {o : Obj} {xs : List V} (e : H a=some (.frz o (.lst xs))) : TyOf K H (.ref a) (.type "list")
 | tup {a : Addr} {xs : List V} (e : H a=some (.tup xs)) : TyOf K H (.ref a) (.type "tuple")
 | dK {a : Addr} {kvs : List (Key×V)} (e : H a=some (.dK kvs)) : TyOf K H (.ref a) (.type "dict")
 | dT {a : Addr} {kvs : List (List Key×V)} (e : H a=some (.dT kvs)) : TyOf K H (.ref a) (.type "dict")
 | ins {a C dx : Addr} {fs : List (Str×V)} (e : H a=some (.ins C dx fs)) (cl : Cls K C) (ha : PySem.W.findIn K (.ref C) "__class__" = some (some (.builtin "object.__class__")))
  (hn : PySem.W.specialIn K (.builtin "object.__class__") "__get__" = some (some (.builtin "getset_descriptor.__get__"))) (htk : PySem.W.takesIn K (.builtin "object.__class__")=some true)
  (hm : PySem.W.mroIn K C (.type "object")=some true) : TyOf K H (.ref a) (.ref C)
theorem kB {x : V} {u t : Value} (I : Inv X pins σ H s) (rx : aN x u) (ty : TyOf X.K H x t) (e : PySem.W.kitOne X.K t c=some b) (h : ∀ tk, Q (.bool b) { s with toks := tk }) :
 wpAny (model X.prog X.w) A (call (.builtin "isinstance") [u, c]) Q E s := by
 cases ty with
 | non => cases (show u=Value.none from rx); exact PySem.W.kia_one PySem.W.kitx_none I.kIn True.intro e (fun z => nomatch z) h
 | bl y => cases (show u=Value.bool y from rx); exact PySem.W.kia_one PySem.W.kitx_bool I.kIn True.intro e (fun z => nomatch z) h
 | int i => obtain ⟨t, q⟩ := (show ∃ t, u=Value.int i t from rx); cases q; exact PySem.W.kia_one PySem.W.kitx_int I.kIn True.intro e (fun z => nomatch z) h
 | str y => obtain ⟨t, q⟩ := (show ∃ t, u=Value.str y t from rx); cases q; exact PySem.W.kia_one PySem.W.kitx_str I.kIn True.intro e (fun z => nomatch z) h
 | flt y => obtain ⟨t, q⟩ := (show ∃ t, u=Value.float y t from rx); cases q; exact PySem.W.kia_one PySem.W.kitx_float I.kIn True.intro e (fun z => nomatch z) h
 | @lst a xs ea =>
  cases (show u=Value.ref a from rx)
  obtain ⟨_, _, n, _, h1⟩ := (show aS X.prog X.w H s.heap a (.lst xs) from I.hok a _ ea)
  exact PySem.W.kia_one PySem.W.kitx_list I.kIn ⟨_, h1, rfl⟩ e (fun z => nomatch z) h
 | @frz a ob xs ea =>
  cases (show u=Value.ref a from rx)
  obtain ⟨_, _, _, n, _, h1⟩ := (show aS X.prog X.w H s.heap a (.frz ob (.lst xs)) from I.hok a _ ea)
  exact PySem.W.kia_one PySem.W.kitx_list I.kIn ⟨_, h1, rfl⟩ e (fun z => nomatch z) h
 | @tup a xs ea =>
  cases (show u=Value.ref a from rx)
  obtain ⟨_, _, _, p⟩ := (show aS X.prog X.w H s.heap a (.tup xs) from I.hok a _ ea)
  obtain ⟨o, h1, h2, _⟩ := p
  exact PySem.W.kia_one PySem.W.kitx_tuple I.kIn ⟨o, h1, h2⟩ e (fun z => nomatch z) h
 | @dK a kvs ea =>
  cases (show u=Value.ref a from rx)
  obtain ⟨_, _, vs, _, p⟩ := (show aS X.prog X.w H s.heap a (.dK kvs) from I.hok a _ ea)
  obtain ⟨o, es, ep, h1, h2, _⟩ := p
  exact PySem.W.kia_one PySem.W.kitx_dict I.kIn ⟨o, h1, h2.1⟩ e (fun z => nomatch z) h
 | @dT a kvs ea =>
  cases (show u=Value.ref a from rx)
  obtain ⟨_, _, xs, _, o, es, ep, h1, h2, _⟩ := (show aS X.prog X.w H s.heap a (.dT kvs) from I.hok a _ ea)
  exact PySem.W.kia_one PySem.W.kitx_dict I.kIn ⟨o, h1, h2.1⟩ e (fun z => nomatch z) h
 | @ins a C dx fs ea cl ha hn htk hm =>
  cases (show u=Value.ref a from rx)
  obtain ⟨mA, O, _⟩ := o8 I.hok ea
  obtain ⟨od, J, _⟩ := O.look
  exact PySem.W.kia_one (PySem.W.kitx_own (cl.get _) cl.hd ha hn htk hm) I.kIn J e (fun z => nomatch z) h
end
structure Room (k : Nat) (A : Around) : Prop where
 hd : A.handled=none
 dp : A.depth + 3 * k + 5<recursionLimit
 un : A.units + 16 * k + 200<cLine
 gd : A.guards=some []
theorem Room.mono {j k : Nat} {A : Around} (r : Room k A) (h : j≤k) : Room j A := ⟨r.hd, by have := r.dp; omega, by have := r.un; omega, r.gd⟩
theorem Room.deeper {k : Nat} {A : Around} (r : Room (k + 1) A) (env : Env) : Room k (A.deeper env) :=
 ⟨r.hd, by have := r.dp; show A.depth + 1 + 3 * k + 5<_; omega, by have := r.un; show A.units + 3 + 16 * k + 200<_; omega, r.gd⟩
theorem Room.depth {k : Nat} {A : Around} (r : Room k A) : A.depth<recursionLimit := by have := r.dp; omega
theorem Room.units {k : Nat} {A : Around} (r : Room k A) : A.units + 64<cLine := by have := r.un; omega
def tNil : TA := fun _ H Q => Q [] H
def tCons (ta : TE) (tr : TA) : TA := fun σ H Q => ta σ H fun x H1 => tr σ H1 fun xs H2 => Q (x :: xs) H2
section
variable {X : Cx} {e : Expr} {es : List Expr} {te : TE} {t : TA} {pos : Pos}
theorem b3 : PA X [] tNil := ⟨fun _ _ _ _ H Q I h => Calls.spliced_nil ⟨[], H, I, .nil, h⟩⟩
theorem ba (ha : PE X e te) (hr : PA X es t) (hs : starEach (e :: es) X.env=(false, eval e X.env) :: starEach es X.env := by rfl) : PA X (e :: es) (tCons te t) := by
 (try refine ⟨?_⟩); intro pos pins s σ H Q I h
 rw [hs]
 show wpAny _ _ (spliced ((false, eval e X.env) :: backTo pos (starEach es X.env))) _ _ s
 refine Calls.spliced_cons (thn (ha pins s σ H _ I h) fun u s1 ⟨x, H1, I1, r1, q1⟩ => ?_)
 exact thn (hr pos pins s1 σ H1 _ I1 q1) fun us s2 ⟨xs, H2, I2, r2, q2⟩ => ⟨x :: xs, H2, I2, .cons r1 r2, q2⟩
def tTup (t : TA) : TE := fun σ H Q => t σ H fun xs H1 => xs.length≤sizeLine∧∀ p, H1 p=none→Q (.ref p) (upd H1 p (.tup xs))
def tLst (t : TA) : TE := fun σ H Q => t σ H fun xs H1 => xs.length≤sizeLine∧∀ p, H1 p=none→Q (.ref p) (upd H1 p (.lst xs))
theorem lE {x1} (h : PA X es t) : PE X (.Tuple es x1 pos) (tTup t) := by
 (try refine ⟨?_⟩); intro pins s σ H Q I hq
 refine wpAny_Tuple_spliced (thn (h pos pins s σ H _ I hq) fun us s1 ⟨xs, H1, I1, r, z, q⟩ => ⟨by rw [← r.length]; exact z, ?_⟩)
 have hf : H1 s1.heap.objs.size=none := I1.hok.fresh (Nat.le_refl _)
 refine ⟨.ref s1.heap.objs.size, upd H1 s1.heap.objs.size (.tup xs), I1.laid (t' := s1.toks) (fun b u e => Heap.get?_push_of_some _ e) (Nat.le_refl _) ?_, rfl, q _ hf⟩
 exact ⟨z, us, r, ⟨_, Heap.get?_push_size _ rfl, rfl, _, rfl⟩⟩
theorem nJ (h : PA X es t) : PE X (.List es pos) (tLst t) := by
 (try refine ⟨?_⟩); intro pins s σ H Q I hq
 refine wpAny_List_spliced (thn (h pos pins s σ H _ I hq) fun us s1 ⟨xs, H1, I1, r, z, q⟩ => ⟨by rw [← r.length]; exact z, ?_⟩)
 have hf : H1 s1.heap.objs.size=none := I1.hok.fresh (Nat.le_refl _)
 refine ⟨.ref s1.heap.objs.size, upd H1 s1.heap.objs.size (.lst xs), I1.laid (t' := s1.toks) (fun b u e => Heap.get?_push_of_some _ e) (Nat.le_refl _) ?_, rfl, q _ hf⟩
 exact ⟨z, us, 0, r, Heap.get?_push_size _ rfl⟩
end
abbrev Sp := List V→Hp→VK→XK→Prop
abbrev CXT := List Env→Hp→Shared→XK→Value→Shared→Prop
structure Env0 (P : Program) (w : World) (K : PySem.W.Frag) (mg : Str→Option Value) (base : Heap) (A : Around) (outer : List Env) (s : Shared) (H : Hp) : Prop where
 frames : A.frames=some outer
 mod : Mod K mg base
 bs : ∀ b o, base.get? b=some o→s.heap.get? b=some o∧H b=none
 bsz : base.objs.size≤s.heap.objs.size
 funs : s.heap.FunFrames base outer
 frf : ∀ b∈frs outer, H b=none
 hok : HOk P w H s.heap
 bare : AllBare s.gens
 tb : TbM base H
def CE (outer : List Env) (P : Program) (w : World) (H : Hp) (s : Shared) (Q : VK) (u : Value) (s' : Shared) : Prop :=
 ∃ v H', s'.os=s.os∧AllBare s'.gens∧Un (frs outer) [] H H' s.heap s'.heap∧HOk P w H' s'.heap∧aN v u∧Q v H'
def CR (CX : CXT) (outer : List Env) (P : Program) (w : World) (H : Hp) (s : Shared) (Q : VK) (E : XK) (r : Result) (s' : Shared) : Prop :=
 match r with
 | .ok (.ret u) => CE outer P w H s Q u s'
 | .ok _ => False
 | .error e => CX outer H s E e s'
structure FnOk (P : Program) (w : World) (K : PySem.W.Frag) (mg : Str→Option Value) (base : Heap) (CX : CXT) (k : Nat) (f : Addr) (fd : FuncData) (ps : List Str) (sp : Sp) : Prop where
 len : ∀ vs H Q E, sp vs H Q E→vs.length=ps.length
 run : ∀ (A : Around) (outer : List Env) (s : Shared) (H : Hp) (args : Args) (us : List Value) (vs : List V) (Q : VK) (E : XK), Room k A→Env0 P w K mg base A outer s H→BindsTo s fd args (ps.zip us)→aF vs us→sp vs H Q E →
  codeAny (model P w) A (.call (.ref f) args) (CR CX outer P w H s Q E) s
theorem FnOk.imp {P : Program} {w : World} {K : PySem.W.Frag} {mg : Str→Option Value} {base : Heap} {CX : CXT} {k : Nat} {f : Addr} {fd : FuncData} {ps : List Str} {sp sp' : Sp} (F : FnOk P w K mg base CX k f fd ps sp)
 (h : ∀ vs H Q E, sp' vs H Q E→sp vs H Q E) : FnOk P w K mg base CX k f fd ps sp' :=
 ⟨fun vs H Q E q => F.len vs H Q E (h _ _ _ _ q), fun A outer s H args us vs Q E hr he hb hv hs => F.run A outer s H args us vs Q E hr he hb hv (h _ _ _ _ hs)⟩
section
variable {X : Cx} {pins : List (Addr×Obj)} {σ : St} {H : Hp} {s s' : Shared}
theorem Inv.env0 (I : Inv X pins σ H s) : Env0 X.prog X.w X.K X.mg X.base X.A X.stack s H :=
 ⟨I.ok.frames, I.ok.mod, I.bs, Nat.le_trans I.ok.bsz I.sz, I.stack, I.stkFree, I.hok, I.bare, I.ok.tb.un I.base⟩
theorem Inv.after {Q : VK} {u : Value} (I : Inv X pins σ H s) (h : CE X.stack X.prog X.w H s Q u s') : EP X pins σ Q u s' := by
 obtain ⟨v, H', os, bare, un, hok, r, q⟩ := h
 obtain ⟨hh, g, d, t, os'⟩ := s'
 obtain rfl : os'=s.os := os
 exact ⟨v, H', I.call (h' := hh) (g' := g) (d' := d) (t' := t) (ch := []) un hok bare (fun b z => absurd z (by simp)), r, q⟩
end
def tCall (sp : Sp) (dvs : List V) (E : XK) (t : TA) : TE := fun σ H Q => t σ H fun vs H1 => sp (vs++dvs) H1 Q E
def eY (K : PySem.W.Frag) (fd : FuncData) (ps : List Str) (ds : List Value) : Prop :=
 ∀ (s : Shared) (us : List Value), K.In s.heap→(us++ds).length=ps.length→BindsTo s fd ⟨us, []⟩ (ps.zip (us++ds))
theorem eY.all {K : PySem.W.Frag} {fd : FuncData} {ps : List Str} (h : ∀ us : List Value, us.length=ps.length→bindArgs fd ⟨us, []⟩=pure (ps.zip us)) : eY K fd ps [] := fun s us _ hl => by
 rw [List.append_nil] at hl ⊢
 exact .of_eq (h us hl)
def jh (CX : CXT) (X : Cx) (E : XK) : Prop := ∀ (pins : List (Addr×Obj)) (σ : St) (H : Hp) (s : Shared) (e : Value) (s' : Shared), Inv X pins σ H s→CX X.stack H s E e s'→X.xe e s'
section
variable {X : Cx} {CX : CXT} {k : Nat} {f C : Addr} {fd : FuncData} {ps : List Str} {sp : Sp} {dvs : List V} {ds : List Value} {E : XK} {x m : Str} {p pos apos : Pos} {e o : Expr} {es : List Expr} {ta : TE} {t : TA}
theorem qQ {pins : List (Addr×Obj)} {σ : St} {H : Hp} {s : Shared} {Q : VK} {us : List Value} {vs : List V} (F : FnOk X.prog X.w X.K X.mg X.base CX k f fd ps sp) (hr : Room k X.A) (hb : eY X.K fd ps ds) (hd : aF dvs ds) (hx : jh CX X E)
 (I : Inv X pins σ H s) (r : aF vs us) (h : sp (vs++dvs) H Q E) : wpAny (model X.prog X.w) X.A (call (.ref f) us) (EP X pins σ Q) X.xe s := by
 have r2 : aF (vs++dvs) (us++ds) := r.append hd
 have hl : (us++ds).length=ps.length := by rw [← r2.length]; exact F.len _ _ _ _ h
 refine wpAny_call (codeAny_mono (F.run X.A X.stack s H ⟨us, []⟩ (us++ds) (vs++dvs) Q E hr I.env0 (hb s us I.kIn hl) r2 h) fun r s' hq => ?_)
 cases r with
 | error e => exact hx pins σ H s e s' I hq
 | ok fl =>
  cases fl with
  | ret u => exact I.after hq
  | next => exact False.elim hq
  | brk => exact False.elim hq
  | cont => exact False.elim hq
theorem kh (F : FnOk X.prog X.w X.K X.mg X.base CX k f fd ps sp) (hr : Room k X.A) (hg : Gl X x) (hm : X.mg x=some (.ref f)) (hk : PySem.W.keepIn X.K (.ref f)=true) (hb : eY X.K fd ps ds) (hd : aF dvs ds) (hx : jh CX X E)
 (ha : PA X (e :: es) t) (hdb : (x == ("__debug__" : Str))=false := by decide) (he : starEach (e :: es) X.env=(false, eval e X.env) :: starEach es X.env := by rfl) (hpl : (backTo pos (starEach es X.env)).any (·.1)=false := by rfl) :
 PE X (.Call (.Name x p) (e :: es) [] pos) (tCall sp dvs E t) := by
 (try refine ⟨?_⟩); intro pins s σ H Q I h
 refine wpAny_Call_Name_kw (jW I hg hm ?_ hdb)
 refine PySem.W.callWith_K (h₀ := X.base) I.ok.mod.kin hk (thn (ha pos pins s σ H _ I h) fun us s1 ⟨vs, H1, I1, r, q⟩ => ⟨I1.kIn, ?_⟩) he hpl
 exact qQ F hr hb hd hx I1 r q
end
section
variable {X : Cx} {CX : CXT} {k : Nat} {f C : Addr} {fd : FuncData} {ps ks : List Str} {sp : Sp} {E : XK} {x m : Str} {p pos apos kpos : Pos} {e o : Expr} {es : List Expr} {kws : List Keyword} {te ta : TE} {t tk : TA} {nm : Option Str}
variable {g : List Value→List Value→List Value} {gV : List V→List V→List V}
end
structure FnScope (N P : List Str) (sc : Scope) : Prop where
 kind : sc.kind = .function
 co : sc.isCoroutine=false
 gen : sc.isGenerator=false
 nd : N.Nodup
 pre : N.take P.length=P
 par : ∀ x∈P, sc.names.lookup x=some .local∨sc.names.lookup x=some .cell
 nofree : ∀ y∈sc.names, y.2 ≠ .free
theorem gG {kindOf : Str→Option NameKind} {x : Str} : ∀ {binds : List (Str×Value)} {m : Str→Option Value}, (∀ v, (x, v) ∉ binds)→bindL kindOf binds m x=m x
 | [], _, _ => rfl
 | (n, v) :: r, m, h => by
  unfold bindL
  rw [gG fun w hw => h w (List.mem_cons_of_mem _ hw)]
  split
  ·have : x ≠ n := by rintro rfl; exact h v List.mem_cons_self
   simp [this]
  ·rfl
theorem gP {kindOf : Str→Option NameKind} {x : Str} : ∀ {binds : List (Str×Value)} {m : Str→Option Value}, (∀ v, (x, v) ∉ binds)→bindC kindOf binds m x=m x
 | [], _, _ => rfl
 | (n, v) :: r, m, h => by
  unfold bindC
  rw [gP fun w hw => h w (List.mem_cons_of_mem _ hw)]
  split
  ·rfl
  ·have : x ≠ n := by rintro rfl; exact h v List.mem_cons_self
   simp [this]
theorem gr {kindOf : Str→Option NameKind} {x : Str} {v : Value} : ∀ {P : List Str} {vs : List Value} {i : Nat} {m : Str→Option Value}, P.Nodup→P[i]? = some x→vs[i]? = some v→kindOf x=some .local →
 bindL kindOf (P.zip vs) m x=some v
 | [], _, _, _, _, h, _, _ => by simp at h
 | _ :: _, [], _, _, _, _, h, _ => by simp at h
 | p :: P, w :: vs, 0, m, nd, h1, h2, hk => by
  simp at h1 h2; subst h1; subst h2
  show bindL kindOf ((p, w) :: P.zip vs) m p=_
  unfold bindL
  rw [gG fun v hv => (List.nodup_cons.mp nd).1 (List.of_mem_zip hv).1, if_pos hk]
  simp
 | p :: P, w :: vs, i + 1, m, nd, h1, h2, hk => by
  show bindL kindOf ((p, w) :: P.zip vs) m x=_
  unfold bindL
  exact gr (i := i) (List.nodup_cons.mp nd).2 (by simpa using h1) (by simpa using h2) hk
theorem gS {kindOf : Str→Option NameKind} {x : Str} {v : Value} : ∀ {P : List Str} {vs : List Value} {i : Nat} {m : Str→Option Value}, P.Nodup→P[i]? = some x→vs[i]? = some v→kindOf x ≠ some .local →
 bindC kindOf (P.zip vs) m x=some v
 | [], _, _, _, _, h, _, _ => by simp at h
 | _ :: _, [], _, _, _, _, h, _ => by simp at h
 | p :: P, w :: vs, 0, m, nd, h1, h2, hk => by
  simp at h1 h2; subst h1; subst h2
  show bindC kindOf ((p, w) :: P.zip vs) m p=_
  unfold bindC
  rw [gP fun v hv => (List.nodup_cons.mp nd).1 (List.of_mem_zip hv).1, if_neg hk]
  simp
 | p :: P, w :: vs, i + 1, m, nd, h1, h2, hk => by
  show bindC kindOf ((p, w) :: P.zip vs) m x=_
  unfold bindC
  exact gS (i := i) (List.nodup_cons.mp nd).2 (by simpa using h1) (by simpa using h2) hk
def cF (N : List Str) (vs : List V) : St := vs.map some++List.replicate (N.length - vs.length) none
def jz (CX : CXT) (P : Program) (w : World) (K : PySem.W.Frag) (mg : Str→Option Value) (base : Heap) (N : List Str) (qual : Str) (scope : Scope) (f : Addr) (cd : Value) (A : Around) (outer : List Env) (s : Shared) (H : Hp) (E : XK) : Cx where
 prog := P
 w := w
 K := K
 mg := mg
 base := base
 A := A.deeper (envOfC qual scope s.heap.objs.size f cd)
 N := N
 s₀ := s
 H₀ := H
 env := envOfC qual scope s.heap.objs.size f cd
 outer := outer
 stack := envOfC qual scope s.heap.objs.size f cd :: outer
 ex := []
 calm := true
 fn := fun _ => true
 pn := []
 xe := fun e s' => wpAny (model P w) (A.deeper (envOfC qual scope s.heap.objs.size f cd)) (leaving (envOfC qual scope s.heap.objs.size f cd) e) (fun _ s'' => CX outer H s E e s'') (fun e' s'' => CX outer H s E e' s'') s'
theorem iw {sc : Scope} {n : Nat} {x : Str} (h : sc.names.lookup x=some .cell) : ∃ c, (cellsFrom n sc.names []).lookup x=some c := by
 have q := PySem.W.cellsFrom_some sc.names n [] (.inl h)
 exact Option.isSome_iff_exists.mp q
theorem ko {CX : CXT} {P : Program} {w : World} {K : PySem.W.Frag} {mg : Str→Option Value} {base : Heap} {N ps : List Str} {qual : Str} {scope : Scope} {f : Addr} {cd : Value} {A : Around} {outer : List Env} {s s1 : Shared} {H : Hp} {E : XK} {us : List Value} {vs : List V}
 (S : FnScope N ps scope) (hd : A.handled=none) (e0 : Env0 P w K mg base A outer s H) (hl : vs.length=ps.length) (r : aF vs us)
 (x : InCallC s s.heap.objs.size (bindL (envOfC qual scope s.heap.objs.size f cd).kindOf (ps.zip us) fun _ => none) (cellsFrom (s.heap.objs.size + 1) scope.names []) (bindC (envOfC qual scope s.heap.objs.size f cd).kindOf (ps.zip us) fun _ => none) s1) :
 Inv (jz CX P w K mg base N qual scope f cd A outer s H E) [] (cF N vs) H s1 := by
 have hpl : ps.length≤N.length := by have := congrArg List.length S.pre; rw [List.length_take] at this; omega
 obtain ⟨h1, tk, rfl, hk⟩ := x.done
 have noA : ∀ b : Addr, b ∉ (jz CX P w K mg base N qual scope f cd A outer s H E).ex := fun b z => absurd (show b∈([] : List Addr) from z) (by simp)
 refine ⟨⟨e0.mod, S.kind, rfl, rfl, Nat.le_refl _, fun y z c h1 h2 => ?_, fun y hy => ?_, fun y c _ h => ?_, fun _ => hd, Around.frames_deeper e0.frames, .inr ⟨rfl, rfl⟩, fun b z => absurd z (noA b), e0.bs, e0.bsz, fun b _ _ => noA b, fun b z => absurd z (noA b), e0.funs, e0.frf, e0.tb⟩,
  rfl, e0.bare, Un.kept hk, ⟨_, x.toInCall.ns, fun i y v h1 h2 h3 => ?_⟩, fun y c h => ⟨_, x.cell y c h⟩, e0.hok.fresh (Nat.le_refl _), fun y c h => ?_, fun p hp => absurd (show p∈([] : List (Addr×Obj)) from hp) (by simp), e0.hok.kept hk, ?_⟩
 ·exact name_of_addr x.apart (PySem.mem_of_lookup h1) (PySem.mem_of_lookup h2)
 ·have hy : scope.names.lookup y=some .cell∨scope.names.lookup y=some .free := hy
  rcases hy with hy | hy
  ·exact iw hy
  ·exact absurd rfl (S.nofree _ (PySem.mem_of_lookup hy))
 ·exact Nat.le_of_lt (x.above y c (PySem.mem_of_lookup h))
 ·have hi : i<vs.length := by
   unfold cF at h2
   by_cases hi : i<vs.length
   ·exact hi
   ·rw [List.getElem?_append_right (by simpa using hi)] at h2
    rw [List.getElem?_replicate] at h2
    split at h2 <;> cases h2
  have ha : vs[i]? = some v := by
   unfold cF at h2
   rw [List.getElem?_append_left (by simpa using hi), List.getElem?_map] at h2
   cases e : vs[i]? with
   | none => rw [e] at h2; cases h2
   | some a => rw [e] at h2; cases h2; rfl
  obtain ⟨u, hu, rv⟩ := r.get ha
  have hp : ps[i]? = some y := by
   rw [← S.pre, List.getElem?_take_of_lt (by omega)]; exact h1
  have ndP : ps.Nodup := by rw [← S.pre]; exact S.nd.sublist (List.take_sublist _ _)
  refine ⟨u, rv, ?_⟩
  rcases S.par y (List.mem_of_getElem? hp) with k | k
  ·exact .inl ⟨k, gr ndP hp hu k⟩
  ·obtain ⟨c, e⟩ := iw (n := s.heap.objs.size + 1) k
   refine .inr ⟨.inl k, c, e, ?_⟩
   have q := x.cell y c e
   rw [gS ndP hp hu (by show scope.names.lookup y ≠ _; rw [k]; decide)] at q
   exact q
 ·exact e0.hok.fresh (Nat.le_of_lt (x.above y c (PySem.mem_of_lookup h)))
 ·unfold cF
  show _=N.length
  rw [List.length_append, List.length_map, List.length_replicate]
  omega
theorem fn_of {CX : CXT} {P : Program} {w : World} {K : PySem.W.Frag} {mg : Str→Option Value} {base : Heap} {k : Nat} {f : Addr} {name qual : Str} {params : Arguments} {body : List Stmt} {scope : Scope} {dV kV doc pm cdv ct oc : Value} {an od : Option Addr}
 {osl : Array (Option Value)} {N ps : List Str} {sp : Sp} (lk : K.lookup f=some ⟨oc, od, .func (PySem.W.fnOf name qual params body scope dV kV doc pm an cdv ct), osl⟩) (hcd : PySem.W.codeIn K cdv qual=true) (S : FnScope N ps scope)
 (len : ∀ vs H Q E, sp vs H Q E→vs.length=ps.length)
 (hbody : ∀ (A : Around) (outer : List Env) (s : Shared) (H : Hp) (vs : List V) (Q : VK) (E : XK), Room k (A.deeper (envOfC qual scope s.heap.objs.size f cdv))→sp vs H Q E →
  ∃ t, PSs (jz CX P w K mg base N qual scope f cdv A outer s H E) body t∧t { nx := fun _ H' => Q .non H', rt := Q } (cF N vs) H) :
 FnOk P w K mg base CX (k + 1) f (PySem.W.fnOf name qual params body scope dV kV doc pm an cdv ct) ps sp := by
 refine ⟨len, fun A outer s H args us vs Q E hr e0 hb r hsp => ?_⟩
 have hl := len _ _ _ _ hsp
 have KX : K.In s.heap := e0.mod.kin.keeps fun b o e => (e0.bs b o e).1
 have lim : s.heap.NoLimit := e0.mod.nolimit.keeps fun b o e => (e0.bs b o e).1
 have hkind : ∀ y∈ps.zip us, scope.names.lookup y.1=some .local∨(scope.names.lookup y.1=some .cell∧((cellsFrom (s.heap.objs.size + 1) scope.names []).lookup y.1).isSome=true) := fun ⟨n, v⟩ hy => by
  rcases S.par n (List.of_mem_zip hy).1 with q | q
  ·exact .inl q
  ·exact .inr ⟨q, PySem.W.cellsFrom_some _ _ _ (.inl q)⟩
 refine codeAny_call_function hr.depth (KX _ _ lk) rfl S.co S.gen rfl (PySem.W.codeRec_of KX hcd) (hb _ _ _ _ ?_)
 refine wpAny_newFunctionEnv_cells S.kind hkind fun env he s1 x => ?_
 subst he
 refine ⟨lim.keeps x.toInCall.keep, codeAny_func ?_⟩
 obtain ⟨t, ht, hq⟩ := hbody A outer s H vs Q E (hr.deeper _) hsp
 have I : Inv (jz CX P w K mg base N qual scope f cdv A outer s H E) [] (cF N vs) H s1 := ko S hr.hd e0 hl r x
 refine wpAny_mono (ht [] s1 (cF N vs) H _ I hq) (fun fl s' hs => ?_) fun e s' hs => hs
 have fin : ∀ {σ' : St} {H' : Hp} {v : V} {u : Value}, Inv (jz CX P w K mg base N qual scope f cdv A outer s H E) [] σ' H' s'→aN v u→Q v H'→CE outer P w H s Q u s' :=
  fun {σ' H' v u} J rv q => ⟨v, H', J.os, J.bare, J.base, J.hok, rv, q⟩
 cases fl with
 | ret u =>
  obtain ⟨v, σ', H', J, rv, q⟩ := hs
  exact fin J rv q
 | next =>
  obtain ⟨σ', H', J, q⟩ := hs
  exact fin (v := V.non) (u := Value.none) J rfl q
 | brk =>
  obtain ⟨_, _, _, q⟩ := hs
  exact False.elim q
 | cont =>
  obtain ⟨_, _, _, q⟩ := hs
  exact False.elim q
section
variable {X : Cx} {x : Str} {p pos : Pos} {e : Expr} {es : List Expr} {t : TA} {id T : String} {r : List V→Hp→VK→Prop}
def tCB (r : List V→Hp→VK→Prop) (t : TA) : TE := fun σ H Q => t σ H fun vs H1 => r vs H1 Q
theorem dL (hc : bH X (.builtin id) r) (hg : Gl X x) (hm : X.mg x=none) (hv : bootBuiltins x=some (.builtin id)) (ha : PA X (e :: es) t) (hn : x ≠ "__name__" := by decide) (hdb : (x == ("__debug__" : Str))=false := by decide)
 (he : starEach (e :: es) X.env=(false, eval e X.env) :: starEach es X.env := by rfl) (hpl : (backTo pos (starEach es X.env)).any (·.1)=false := by rfl) : PE X (.Call (.Name x p) (e :: es) [] pos) (tCB r t) := by
 (try refine ⟨?_⟩); intro pins s σ H Q I h
 refine wpAny_Call_Name_kw (eD I hg hm hv ?_ hn hdb)
 exact PyProof.Rows.callWith_builtin1 (thn (ha pos pins s σ H _ I h) fun us s1 ⟨vs, H1, I1, r1, q1⟩ => hc pins s1 σ H1 vs us Q I1 r1 q1) he hpl
theorem de (hc : bH X (.type T) r) (hg : Gl X x) (hm : X.mg x=none) (hv : bootBuiltins x=some (.type T)) (ha : PA X (e :: es) t) (hn : x ≠ "__name__" := by decide) (hdb : (x == ("__debug__" : Str))=false := by decide)
 (he : starEach (e :: es) X.env=(false, eval e X.env) :: starEach es X.env := by rfl) (hpl : (backTo pos (starEach es X.env)).any (·.1)=false := by rfl) : PE X (.Call (.Name x p) (e :: es) [] pos) (tCB r t) := by
 (try refine ⟨?_⟩); intro pins s σ H Q I h
 refine wpAny_Call_Name_kw (eD I hg hm hv ?_ hn hdb)
 exact PyProof.Rows.callWith_type1 (thn (ha pos pins s σ H _ I h) fun us s1 ⟨vs, H1, I1, r1, q1⟩ => hc pins s1 σ H1 vs us Q I1 r1 q1) he hpl
end
end L2
namespace HT
open PySem PyProof.Rows
section
open PySem.SeqAt
open PySem.AutoSeq1 (wpAny_loadPart')
open PySem.MeetsSeq PySem.MeetsSeq2 PySem.MeetsSeq3
end
section
variable {prog : Program} {w : World} {A : Around} {E : Value→Shared→Prop} {s : Shared}
def sIx (n d : Nat) : Option Int→Nat
 | none => d
 | some v => if v<0 then (v + (n : Int)).toNat else min v.toNat n
theorem sIx_none (n d : Nat) : sIx n d none=d := rfl
theorem sIx_nat (n d k : Nat) : sIx n d (some (k : Int))=min k n := by
 show (if (k : Int)<0 then ((k : Int) + (n : Int)).toNat else min (k : Int).toNat n)=min k n
 rw [if_neg (by omega), Int.toNat_natCast]
end
end HT
namespace L2
open PySem PySem.Spec PyProof.Rows
abbrev TO := St→Hp→(Option Int→Hp→Prop)→Prop
structure PO (X : Cx) (e : Option Expr) (t : TO) : Prop where
 go : ∀ (pins : List (Addr×Obj)) (s : Shared) (σ : St) (H : Hp) (Q : Option Int→Hp→Prop), Inv X pins σ H s→t σ H Q →
  wpAny (model X.prog X.w) X.A (evalPart e X.env) (fun u s' => ∃ o H', Inv X pins σ H' s'∧IsPart u o∧Q o H') X.xe s
instance {X : Cx} {e : Option Expr} {t : TO} : CoeFun (PO X e t) fun _ => ∀ (pins : List (Addr×Obj)) (s : Shared) (σ : St) (H : Hp) (Q : Option Int→Hp→Prop), Inv X pins σ H s→t σ H Q →
 wpAny (model X.prog X.w) X.A (evalPart e X.env) (fun u s' => ∃ o H', Inv X pins σ H' s'∧IsPart u o∧Q o H') X.xe s := ⟨fun h => h.go⟩
def oS : TO := fun _ H Q => Q none H
def tPart (t : TE) : TO := fun σ H Q => t σ H fun x H1 => ∃ i, x = .int i∧Q (some i) H1
theorem fP {ns : List Int} : ∀ {us : List Value}, aF (ns.map V.int) us→IntsAre us ns := by
 induction ns with
 | nil => intro us r; rw [List.map_nil] at r; cases r; exact .nil
 | cons n ns ih =>
  intro us r
  rw [List.map_cons] at r
  cases r with
  | cons r1 r2 =>
   obtain ⟨t, e⟩ := r1
   subst e
   exact .cons n t (ih r2)
section
variable {X : Cx} {e : Expr} {te : TE} {lo hi : Option Expr} {tl th : TO} {pos p2 : Pos}
theorem o6 : PO X none oS := by
 (try refine ⟨?_⟩); intro pins s σ H Q I h
 rw [evalPart_none]
 exact wpAny_pure ⟨none, H, I, .none, h⟩
theorem o5 (h : PE X e te) : PO X (some e) (tPart te) := by
 (try refine ⟨?_⟩); intro pins s σ H Q I hw
 rw [evalPart_some]
 refine thn (h pins s σ H _ I hw) fun u s1 ⟨x, H1, I1, r1, q1⟩ => ?_
 obtain ⟨i, rfl, q⟩ := q1
 obtain ⟨t, rfl⟩ := r1
 exact ⟨some i, H1, I1, .int i t, q⟩
def SlR (X : Cx) (r : V→Option Int→Option Int→Hp→VK→Prop) : Prop :=
 ∀ (pins : List (Addr×Obj)) (s : Shared) (σ : St) (H : Hp) (x : V) (v vl vu : Value) (lo hi : Option Int) (sl : Addr) (Q : VK), Inv X pins σ H s→aN x v→s.heap.IsSliceOf sl vl vu .none→IsPart vl lo→IsPart vu hi→r x lo hi H Q →
  ∃ T id, typeLookup (.type T) "__getitem__" = pure (some (.builtin id))∧s.TypeIs v T∧wpAny (model X.prog X.w) X.A (getItem v (.ref sl)) (EP X pins σ Q) X.xe s
def tSl (r : V→Option Int→Option Int→Hp→VK→Prop) (te : TE) (tl th : TO) : TE := fun σ H Q => te σ H fun x H1 => tl σ H1 fun l H2 => th σ H2 fun u H3 => r x l u H3 Q
theorem lK {r : V→Option Int→Option Int→Hp→VK→Prop} (hr : SlR X r) (he : PE X e te) (hl : PO X lo tl) (hu : PO X hi th) : PE X (.Subscript e (.Slice lo hi none p2) pos) (tSl r te tl th) := by
 (try refine ⟨?_⟩); intro pins s σ H Q I h
 refine Subscript_ (thn (he pins s σ H _ I h) fun v s1 ⟨x, H1, I1, r1, q1⟩ => ?_)
 refine wpAny_Slice (thn (hl pins s1 σ H1 _ I1 q1) fun vl s2 ⟨l, H2, I2, pl, q2⟩ => thn (hu pins s2 σ H2 _ I2 q2) fun vu s3 ⟨u, H3, I3, pu, q3⟩ => ?_)
 rw [evalPart_none]
 refine wpAny_pure ?_
 have I4 : Inv X pins σ H3 { s3 with heap := s3.heap.push { cls := .type "slice", data := .fields #[vl, vu, .none] } } := I3.kept (t' := s3.toks) fun b ob q => Heap.get?_push_of_some _ q
 obtain ⟨T, id, hT, ht, hg⟩ := hr pins { s3 with heap := s3.heap.push { cls := .type "slice", data := .fields #[vl, vu, .none] } } σ H3 x v vl vu l u s3.heap.objs.size Q I4 r1 (Heap.IsSliceOf.new ..) pl pu q3
 show wpAny (model X.prog X.w) X.A (subscriptTail e (.Slice lo hi none p2) v (.ref s3.heap.objs.size)) (EP X pins σ Q) X.xe { s3 with heap := s3.heap.push { cls := .type "slice", data := .fields #[vl, vu, .none] } }
 exact tail_any (ops := [.ref s3.heap.objs.size, v]) ht hT hg (by with_unfolding_all rfl)
def jp (xs : List V) (lo hi : Option Int) : List V := (xs.drop (HT.sIx xs.length 0 lo)).take (HT.sIx xs.length xs.length hi - HT.sIx xs.length 0 lo)
theorem iN (xs : List V) (lo hi : Option Int) : (jp xs lo hi).length≤xs.length := by
 unfold jp
 rw [List.length_take, List.length_drop]
 omega
end
def ixN (n : Nat) (i : Int) : Option Nat := if 0≤i then (if i<n then some i.toNat else none) else if -(n : Int)≤i then some (i + n).toNat else none
def atI {α : Type} (xs : List α) (i : Int) : Option α := (ixN xs.length i).bind fun j => xs[j]?
theorem jQ {n : Nat} {i : Int} {j : Nat} (h : ixN n i=some j) : seqIndex? i n=some j∧j<n ∧ -(n : Int)≤i∧i<n := by
 unfold ixN at h
 by_cases h0 : 0≤i
 ·rw [if_pos h0] at h
  by_cases h1 : i<n
  ·rw [if_pos h1] at h
   have e : i.toNat=j := Option.some.inj h
   exact ⟨by rw [seqIndex_of h0 h1, e], by omega, by omega, h1⟩
  ·rw [if_neg h1] at h; cases h
 ·rw [if_neg h0] at h
  by_cases h1 : -(n : Int)≤i
  ·rw [if_pos h1] at h
   have e : (i + n).toNat=j := Option.some.inj h
   exact ⟨by rw [seqIndex_neg (by omega) h1, e], by omega, h1, by omega⟩
  ·rw [if_neg h1] at h; cases h
theorem hV {α : Type} {xs : List α} {i : Int} {v : α} (h : atI xs i=some v) : ∃ j, seqIndex? i xs.length=some j∧xs[j]? = some v∧j<xs.length ∧ -(xs.length : Int)≤i∧i<xs.length := by
 unfold atI at h
 cases e : ixN xs.length i with
 | none => rw [e] at h; cases h
 | some j =>
  rw [e] at h
  obtain ⟨h1, h2, h3, h4⟩ := jQ e
  exact ⟨j, h1, h, h2, h3, h4⟩
theorem fq {α : Type} {xs : List α} {j : Nat} {v : α} (h : xs[j]? = some v) : atI xs (j : Int)=some v := by
 have hj : j<xs.length := (List.getElem?_eq_some_iff.mp h).1
 have e : ixN xs.length (j : Int)=some j := by
  unfold ixN
  rw [if_pos (by omega), if_pos (by omega)]; simp
 unfold atI; rw [e]; exact h
def jD (b : Expr) : Prop := ∀ o i, subscripted b false o i=operate [o, i] (getItem o i)
def IxR (X : Cx) (r : R2) : Prop :=
 ∀ (value slice : Expr) (pins : List (Addr×Obj)) (s : Shared) (σ : St) (H : Hp) (x y : V) (v u : Value) (Q : VK), Inv X pins σ H s→aN x v→aN y u→r x y H Q →
  subscripted slice false v u=operate [v, u] (getItem v u)→wpAny (model X.prog X.w) X.A (subscriptTail value slice v u) (EP X pins σ Q) X.xe s
def MtR (X : Cx) (id : String) (r : V→List V→Hp→VK→Prop) : Prop :=
 ∀ (pins : List (Addr×Obj)) (s : Shared) (σ : St) (H : Hp) (x : V) (xs : List V) (v : Value) (us : List Value) (Q : VK), Inv X pins σ H s→aN x v→aF xs us→r x xs H Q →
  wpAny (model X.prog X.w) X.A (call (.builtin id) (v :: us)) (EP X pins σ Q) X.xe s
section
variable {X : Cx} {a b : Expr} {ta tb : TE} {pos : Pos}
theorem IxR.or {r r' : R2} (h : IxR X r) (h' : IxR X r') : IxR X (fun x y H Q => r x y H Q∨r' x y H Q) := by
 intro value slice pins s σ H x y v u Q I rx ry q hs
 rcases q with q | q
 ·exact h value slice pins s σ H x y v u Q I rx ry q hs
 ·exact h' value slice pins s σ H x y v u Q I rx ry q hs
theorem pe_ix {r : R2} (hr : IxR X r) (ha : PE X a ta) (hb : PE X b tb) (hs : jD b) : PE X (.Subscript a b pos) (tOp r ta tb) := by
 (try refine ⟨?_⟩); intro pins s σ H Q I h
 exact Subscript_ (binT ha hb I h fun v u s2 x y H2 I2 rx ry q => hr a b pins s2 σ H2 x y v u Q I2 rx ry q (hs _ _))
def rIxL (K : PySem.W.Frag) : R2 := fun x y H Q => ∃ p xs i v, x = .ref p∧y = .int i∧SqL K H p xs∧atI xs i=some v∧Q v H
def rIxT (K : PySem.W.Frag) : R2 := fun x y H Q => ∃ p xs i v, x = .ref p∧y = .int i∧SqT K H p xs∧atI xs i=some v∧Q v H
def rIxS : R2 := fun x y H Q => ∃ z i c, x = .str z∧y = .int i∧z.length≤sizeLine∧atI z.cps.toList i=some c∧Q (.str ⟨#[c]⟩) H
theorem oo : IxR X (rIxL X.K) := by
 intro value slice pins s σ H x y v u Q I rx ry h hs
 obtain ⟨p, xs, i, z, rfl, rfl, hq, he, q⟩ := h
 cases rx
 obtain ⟨t, rfl⟩ := ry
 obtain ⟨its, r, pl, hz⟩ := I.list hq
 obtain ⟨j, h1, h2, h3, h4, h5⟩ := hV he
 obtain ⟨w, ew, rw'⟩ := r.get h2
 have hl := r.length
 have hn := gb
 have fin : EP X pins σ Q w s := ⟨z, H, I, rw', q⟩
 by_cases h0 : 0≤i
 ·have hj : i.toNat=j := by
   rw [seqIndex_of h0 h5] at h1
   exact Option.some.inj h1
  exact item_listR pl.isList h0 (by omega) (by rw [hj]; simpa using ew) fin hs
 ·have hj : (i + (its.toArray.size : Int)).toNat=j := by
   rw [seqIndex_neg (by omega) h4] at h1
   rw [List.size_toArray, ← hl]
   exact Option.some.inj h1
  exact subscriptTail_builtinR (x := w) pl.isList.typeIs slot_list_getitem.lookup
   (wpAny_getItem_list_neg (Q := fun r s' => r=w∧EP X pins σ Q r s') pl.isList (by omega) (by rw [List.size_toArray] <;> omega) (by omega) (by rw [hj]; simpa using ew) ⟨rfl, fin⟩) hs
theorem qN : IxR X (rIxT X.K) := by
 intro value slice pins s σ H x y v u Q I rx ry h hs
 obtain ⟨p, xs, i, z, rfl, rfl, hq, he, q⟩ := h
 cases rx
 obtain ⟨t, rfl⟩ := ry
 obtain ⟨its, r, pl, hz⟩ := I.tuple hq
 obtain ⟨j, h1, h2, h3, h4, h5⟩ := hV he
 obtain ⟨w, ew, rw'⟩ := r.get h2
 have hl := r.length
 have hn := gb
 have fin : EP X pins σ Q w s := ⟨z, H, I, rw', q⟩
 exact subscriptTail_builtinR (x := w) pl.typeIs slot_tuple_getitem.lookup
  (getItem_tuple (j := j) (Q := fun r s' => r=w∧EP X pins σ Q r s') pl (by omega) (by omega) (by rw [List.size_toArray, ← hl]; exact h1) (by simpa using ew) ⟨rfl, fin⟩) hs
theorem qJ : IxR X rIxS := by
 intro value slice pins s σ H x y v u Q I rx ry h hs
 obtain ⟨z, i, c, rfl, rfl, hz, he, q⟩ := h
 obtain ⟨t, rfl⟩ := rx
 obtain ⟨t', rfl⟩ := ry
 obtain ⟨j, h1, h2, h3, h4, h5⟩ := hV he
 have hl : z.cps.toList.length=z.length := by simp [Str.length]
 rw [hl] at h1 h4 h5
 have hn := gb
 exact tail_any (typeIs_str s z t) slot_str_getitem.lookup (getItem_str (c := c) (by
  have e1 : decide (i < -(2 ^ 63 : Int))=false := decide_eq_false (by omega)
  have e2 : decide (i ≥ 2 ^ 63)=false := decide_eq_false (by omega)
  rw [e1, e2, Bool.or_false]) (by rw [h1]; simpa using h2) ⟨.str ⟨#[c]⟩, H, I.tok _, ⟨_, rfl⟩, q⟩) hs
def rIx (K : PySem.W.Frag) : R2 := fun x y H Q => rIxL K x y H Q∨rIxT K x y H Q∨rIxS x y H Q
theorem aM : IxR X (rIx X.K) := oo.or (qN.or qJ)
theorem i6 (its : List Value) (n j : Nat) (u : Value) : Obj.mapSeq (·.setIfInBounds j u) { cls := .type "list", data := .seq its.toArray n } = { cls := .type "list", data := .seq (its.set j u).toArray n } := by
 simp [Obj.mapSeq]
theorem Inv.lst {pins : List (Addr×Obj)} {σ : St} {H : Hp} {s : Shared} {p : Addr} {xs : List V} (I : Inv X pins σ H s) (h : H p=some (.lst xs)) :
 ∃ (its : List Value) (n : Nat), aF xs its∧s.heap.get? p=some { cls := .type "list", data := .seq its.toArray n } ∧ xs.length≤sizeLine := by
 obtain ⟨z, its, n, r, e⟩ := I.hok p _ h
 exact ⟨its, n, r, e, z⟩
theorem Inv.lstUpd {pins : List (Addr×Obj)} {σ : St} {H : Hp} {s : Shared} {p : Addr} {xs ys : List V} {its its' : List Value} {n n' : Nat} {f : Obj→Obj} (I : Inv X pins σ H s) (h : H p=some (.lst xs))
 (ho : s.heap.get? p=some { cls := .type "list", data := .seq its.toArray n }) (hf : f { cls := .type "list", data := .seq its.toArray n } = { cls := .type "list", data := .seq its'.toArray n' }) (r : aF ys its') (hz : ys.length≤sizeLine) (t : Nat) :
 Inv X pins σ (upd H p (.lst ys)) { s with heap := s.heap.update p f, toks := t } := by
 have e : (s.heap.update p f).get? p=some { cls := .type "list", data := .seq its'.toArray n' } := by
  rw [Heap.get?_update_self f ho (by rw [hf] <;> rfl), hf]
 refine I.write (x := p) (e := p) (by rw [h]; trivial) (.inl rfl) (fun b u hb q => (Heap.get?_update_other _ _ (Ne.symm hb)).trans q) ⟨_, e⟩ ?_
 exact ⟨hz, its', n', r, e⟩
def rSetL : V→V→V→Hp→(Hp→Prop)→Prop := fun o i v H Q => ∃ p xs k j, o = .ref p∧i = .int k∧H p=some (.lst xs)∧ixN xs.length k=some j∧Q (upd H p (.lst (xs.set j v)))
theorem lA : PSet X rSetL := by
 (try refine ⟨?_⟩); intro pins s σ H o i v ov iv u Q I ro ri rv h
 obtain ⟨p, xs, k, j, rfl, rfl, hp, hj, q⟩ := h
 cases ro
 obtain ⟨t, rfl⟩ := ri
 obtain ⟨its, n, r, ho, hz⟩ := I.lst hp
 obtain ⟨h1, h2, h3, h4⟩ := jQ hj
 have hl := r.length
 have hn := gb
 have I' : Inv X pins σ (upd H p (.lst (xs.set j v))) { s with heap := s.heap.update p (Obj.mapSeq (·.setIfInBounds j u)) } :=
  I.lstUpd hp ho (i6 its n j u) (r.set rv j) (by rw [List.length_set]; exact hz) s.toks
 by_cases h0 : 0≤k
 ·have hk : k.toNat=j := by
   rw [seqIndex_of h0 h4] at h1
   exact Option.some.inj h1
  exact PySem.W.ki_setAt ho h0 (by omega) (by rw [List.size_toArray, ← hl]; exact h4) (by rw [hk]; exact ⟨_, I', q⟩)
 ·have hk : (k + (its.toArray.size : Int)).toNat=j := by
   rw [seqIndex_neg (by omega) h3] at h1
   rw [List.size_toArray, ← hl]
   exact Option.some.inj h1
  exact PySem.W.ki_setBack ho (by omega) (by rw [List.size_toArray, ← hl]; exact h3) (by omega) (by rw [hk]; exact ⟨_, I', q⟩)
theorem hZ (lo hi : Option Int) (n : Nat) : (sliceBounds lo hi none n).1=((HT.sIx n 0 lo : Nat) : Int)∧(sliceBounds lo hi none n).2.1=((HT.sIx n n hi : Nat) : Int)∧(sliceBounds lo hi none n).2.2=1 := by
 refine ⟨?_, ?_, rfl⟩
 ·cases lo with
  | none => simp [sliceBounds, HT.sIx]
  | some i =>
   simp only [sliceBounds, HT.sIx, Option.getD_none, show (1 : Int) > 0 by decide, if_true]
   by_cases h : i<0
   ·simp only [h, if_true] <;> omega
   ·simp only [h, if_false] <;> omega
 ·cases hi with
  | none => simp [sliceBounds, HT.sIx]
  | some i =>
   simp only [sliceBounds, HT.sIx, Option.getD_none, show (1 : Int) > 0 by decide, if_true]
   by_cases h : i<0
   ·simp only [h, if_true] <;> omega
   ·simp only [h, if_false] <;> omega
theorem gl (its : List Value) (lo hi : Option Int) : slicePick its.toArray lo hi none=((its.drop (HT.sIx its.length 0 lo)).take (HT.sIx its.length its.length hi - HT.sIx its.length 0 lo)).toArray := by
 obtain ⟨h1, h2, h3⟩ := hZ lo hi its.toArray.size
 unfold slicePick
 rw [h1, h2, h3]
 simp only [sliceRange_one, pick_run, List.size_toArray] <;> rfl
def rSlL (K : PySem.W.Frag) : V→Option Int→Option Int→Hp→VK→Prop := fun x lo hi H Q => ∃ a xs, x = .ref a∧SqL K H a xs∧∀ p, H p=none→Q (.ref p) (upd H p (.lst (jp xs lo hi)))
theorem pw : SlR X (rSlL X.K) := by
 (try refine ⟨?_⟩); intro pins s σ H x v vl vu lo hi sl Q I rx hs pl pu h
 obtain ⟨a, xs, rfl, hx, q⟩ := h
 cases rx
 obtain ⟨its, r, ht, hz⟩ := I.list hx
 have hlen := r.length
 refine ⟨"list", _, slot_list_getitem.lookup, ht.isList.typeIs, ?_⟩
 refine wpAny_getItem_list_slice ht.isList hs pl pu .none (by simp) ?_ (by rw [List.size_toArray] <;> omega)
 rw [gl, ← hlen]
 refine ⟨.ref s.heap.objs.size, _, I.laid (t' := s.toks) (o := .lst (jp xs lo hi)) (fun b ob q => Heap.get?_push_of_some _ q) (Nat.le_refl _) ?_, rfl, q _ (I.hok.fresh (Nat.le_refl _))⟩
 exact ⟨Nat.le_trans (iN xs lo hi) hz, _, 0, (r.drop (HT.sIx xs.length 0 lo)).take (HT.sIx xs.length xs.length hi - HT.sIx xs.length 0 lo), Heap.get?_push_size _ rfl⟩
def dt : V→Bool
 | .non => true
 | .bl _ => true
 | .int _ => true
 | .str _ => true
 | _ => false
def eqV : V→V→Bool
 | .non, .non => true
 | .bl a, .bl b => a == b
 | .bl a, .int b => (if a then 1 else 0) == b
 | .int a, .bl b => a == (if b then 1 else 0)
 | .int a, .int b => a == b
 | .str a, .str b => a == b
 | _, _ => false
theorem qF {A : Around} {s : Shared} {y x : V} {u v : Value} (ry : aN y u) (rx : aN x v) (fy : dt y=true) (fx : dt x=true) : SeqAt.EqAt A s u v (eqV y x) := by
 cases y with
 | non =>
  cases ry
  cases x with
  | non => cases rx; exact SeqAt.EqAt.same _
  | bl b => cases rx; exact SeqAt.EqAt.none_bool b
  | int b => obtain ⟨t, rfl⟩ := rx; exact SeqAt.EqAt.none_int b t
  | str b => obtain ⟨t, rfl⟩ := rx; exact SeqAt.EqAt.none_str b t
  | _ => exact absurd (show false=true from fx) Bool.false_ne_true
 | bl a =>
  cases ry
  cases x with
  | non => cases rx; exact SeqAt.EqAt.bool_none a
  | bl b => cases rx; exact SeqAt.EqAt.bool_bool a b
  | int b => obtain ⟨t, rfl⟩ := rx; exact SeqAt.EqAt.bool_int a b t
  | str b => obtain ⟨t, rfl⟩ := rx; exact SeqAt.EqAt.bool_str a b t
  | _ => exact absurd (show false=true from fx) Bool.false_ne_true
 | int a =>
  obtain ⟨t', rfl⟩ := ry
  cases x with
  | non => cases rx; exact SeqAt.EqAt.int_none a t'
  | bl b => cases rx; exact SeqAt.EqAt.int_bool a t' b
  | int b => obtain ⟨t, rfl⟩ := rx; exact SeqAt.EqAt.int_int a t' b t
  | str b => obtain ⟨t, rfl⟩ := rx; exact SeqAt.EqAt.int_str a t' b t
  | _ => exact absurd (show false=true from fx) Bool.false_ne_true
 | str a =>
  obtain ⟨t', rfl⟩ := ry
  cases x with
  | non => cases rx; exact SeqAt.EqAt.str_none a t'
  | bl b => cases rx; exact SeqAt.EqAt.str_bool a t' b
  | int b => obtain ⟨t, rfl⟩ := rx; exact SeqAt.EqAt.str_int a t' b t
  | str b => obtain ⟨t, rfl⟩ := rx; exact SeqAt.EqAt.str_str a t' b t
  | _ => exact absurd (show false=true from fx) Bool.false_ne_true
 | _ => exact absurd (show false=true from fy) Bool.false_ne_true
def eqU (x : V) (u : Value) : Bool := match u with
 | .none => eqV .non x
 | .bool b => eqV (.bl b) x
 | .int i _ => eqV (.int i) x
 | .str z _ => eqV (.str z) x
 | _ => false
theorem nv {x y : V} {u : Value} (r : aN y u) (f : dt y=true) : eqU x u=eqV y x := by
 cases y with
 | non => cases r; rfl
 | bl b => cases r; rfl
 | int i => obtain ⟨t, rfl⟩ := r; rfl
 | str z => obtain ⟨t, rfl⟩ := r; rfl
 | _ => exact absurd (show false=true from f) Bool.false_ne_true
theorem dS {x : V} : ∀ {xs : List V} {us : List Value}, aF xs us→xs.all dt=true→us.any (eqU x)=xs.any fun y => eqV y x
 | _, _, .nil, _ => rfl
 | y :: xs, u :: us, .cons r t, f => by
  rw [List.all_cons, Bool.and_eq_true] at f
  rw [List.any_cons, List.any_cons, nv r f.1, dS t f.2]
theorem cR {A : Around} {s : Shared} {x : V} {v : Value} (rx : aN x v) (fx : dt x=true) : ∀ {xs : List V} {us : List Value}, aF xs us→xs.all dt=true→∀ u∈us, SeqAt.EqAt A s u v (eqU x u)
 | _, _, .nil, _ => fun u hu => by cases hu
 | y :: xs, u :: us, .cons r t, f => fun u' hu => by
  rw [List.all_cons, Bool.and_eq_true] at f
  rcases List.mem_cons.mp hu with rfl | hu
  ·rw [nv r f.1]; exact qF r rx f.1 fx
  ·exact cR rx fx t f.2 u' hu
def inV (x : V) (xs : List V) : Bool := xs.any fun y => eqV y x
def rIn (K : PySem.W.Frag) (neg : Bool) : R2 := fun x y H Q => ∃ p xs, y = .ref p∧(SqL K H p xs∨SqT K H p xs)∧dt x=true∧xs.all dt=true∧Q (.bl (if neg then !inV x xs else inV x xs)) H
theorem gQ : OpR X (compareOp .In) (rIn X.K false) := by
 (try refine ⟨?_⟩); intro pins s σ H x y v u Q I rx ry h
 obtain ⟨p, xs, rfl, hq, fx, fs, q⟩ := h
 cases ry
 rcases hq with hq | hq
 ·obtain ⟨its, r, pl, hz⟩ := I.list hq
  refine SeqAt.in_listAt (eqU x) pl.isList (fun w hw => cR rx fx r fs w (by simpa using hw)) ⟨.bl _, H, I, rfl, ?_⟩
  rw [show its.toArray.any (eqU x)=its.any (eqU x) by simp, dS r fs]
  exact q
 ·obtain ⟨its, r, pl, hz⟩ := I.tuple hq
  refine SeqAt.in_tupleAt (eqU x) pl (fun w hw => cR rx fx r fs w (by simpa using hw)) ⟨.bl _, H, I, rfl, ?_⟩
  rw [show its.toArray.any (eqU x)=its.any (eqU x) by simp, dS r fs]
  exact q
theorem ec : OpR X (compareOp .NotIn) (rIn X.K true) := by
 (try refine ⟨?_⟩); intro pins s σ H x y v u Q I rx ry h
 obtain ⟨p, xs, rfl, hq, fx, fs, q⟩ := h
 cases ry
 rcases hq with hq | hq
 ·obtain ⟨its, r, pl, hz⟩ := I.list hq
  refine SeqAt.notIn_listAt (eqU x) pl.isList (fun w hw => cR rx fx r fs w (by simpa using hw)) ⟨.bl _, H, I, rfl, ?_⟩
  rw [show its.toArray.any (eqU x)=its.any (eqU x) by simp, dS r fs]
  exact q
 ·obtain ⟨its, r, pl, hz⟩ := I.tuple hq
  refine SeqAt.notIn_tupleAt (eqU x) pl (fun w hw => cR rx fx r fs w (by simpa using hw)) ⟨.bl _, H, I, rfl, ?_⟩
  rw [show its.toArray.any (eqU x)=its.any (eqU x) by simp, dS r fs]
  exact q
theorem aq : bH X (.builtin "len") (fun xs H Q => ∃ p ys, xs=[.ref p]∧(SqL X.K H p ys∨SqT X.K H p ys)∧Q (.int ys.length) H) := by
 (try refine ⟨?_⟩); intro pins s σ H xs us Q I r h
 obtain ⟨p, ys, rfl, hq, q⟩ := h
 obtain ⟨u, rfl, rx⟩ := du r
 cases rx
 have hn := gb
 rcases hq with hq | hq
 ·obtain ⟨its, r', pl, hz⟩ := I.list hq
  have hlen := r'.length
  exact Calls.call_len_list pl.isList (by simp only [List.size_toArray] <;> omega) ⟨.int ys.length, H, I.tok _, ⟨s.toks + 1, by rw [List.size_toArray, hlen]⟩, q⟩
 ·obtain ⟨its, r', pl, hz⟩ := I.tuple hq
  have hlen := r'.length
  exact len_tuple pl (by simp only [List.size_toArray] <;> omega) ⟨.int ys.length, H, I.tok _, ⟨s.toks + 1, by rw [List.size_toArray, hlen]⟩, q⟩
theorem gg : bH X (.type "tuple") (fun xs H Q => ∃ p ys, xs=[.ref p]∧((SqL X.K H p ys∧∀ l, H l=none→Q (.ref l) (upd H l (.tup ys)))∨(SqT X.K H p ys∧Q (.ref p) H))) := by
 (try refine ⟨?_⟩); intro pins s σ H xs us Q I r h
 obtain ⟨p, ys, rfl, h⟩ := h
 obtain ⟨u, rfl, rx⟩ := du r
 cases rx
 rcases h with ⟨hq, q⟩ | ⟨hq, q⟩
 ·obtain ⟨its, r', pl, hz⟩ := I.list hq
  have hlen := r'.length
  refine call_tuple_list pl.isList (fun h' kp => ?_) (by simp only [List.size_toArray] <;> omega)
  have I1 : Inv X pins σ H { s with heap := h' } := I.kept (t' := s.toks) kp
  have I2 : Inv X pins σ (upd H h'.objs.size (.tup ys)) { s with heap := h'.push { cls := .type "tuple", data := .seq its.toArray } } :=
   I1.laid (t' := s.toks) (fun b o e => Heap.get?_push_of_some _ e) (Nat.le_refl _) (show aS X.prog X.w _ _ _ (.tup ys) from ⟨hz, its, r', IsTup.new _ _⟩)
  exact ⟨.ref h'.objs.size, _, I2, rfl, q _ (I1.hok.fresh (Nat.le_refl _))⟩
 ·obtain ⟨its, r', pl, hz⟩ := I.tuple hq
  exact call_tuple_same pl ⟨.ref p, H, I, rfl, q⟩
def tyV (K : PySem.W.Frag) (T : String) (x : V) (H : Hp) : Prop := match x with
 | .str _ => T = "str"
 | .int _ => T = "int"
 | .ref p => (T = "list" ∧ ∃ xs, SqL K H p xs)∨(T = "tuple" ∧ ∃ o, K.lookup p=some o∧o.cls = .type "tuple" ∧ o.dict=none) ∨
  (T = "dict" ∧ ((∃ kvs, H p=some (.dK kvs))∨∃ kvs, H p=some (.dT kvs)))∨(T = "set" ∧ ∃ S n, H p=some (.set S n))
 | _ => False
theorem qg {pins : List (Addr×Obj)} {σ : St} {H : Hp} {s : Shared} {T : String} {x : V} {v : Value} (I : Inv X pins σ H s) (r : aN x v) (ty : tyV X.K T x H) :
 s.TypeIs v T∧∀ a, v = .ref a→∃ ob, s.heap.get? a=some ob∧ob.dict=none := by
 cases x with
 | str z =>
  obtain ⟨t, rfl⟩ := r
  cases (show T = "str" from ty)
  exact ⟨typeIs_str s z t, fun _ e => nomatch e⟩
 | int i =>
  obtain ⟨t, rfl⟩ := r
  cases (show T = "int" from ty)
  exact ⟨typeIs_int s i t, fun _ e => nomatch e⟩
 | ref p =>
  cases r
  rcases ty with ⟨rfl, xs, hq⟩ | ⟨rfl, o, hk, hc, hd⟩ | ⟨rfl, hk⟩ | ⟨rfl, S, n, hk⟩
  ·obtain ⟨its, _, pl, _⟩ := I.list hq
   refine ⟨pl.isList.typeIs, fun a e => ?_⟩
   cases e
   obtain ⟨o, n, e, c, hd, _⟩ := pl
   exact ⟨o, e, hd⟩
  ·refine ⟨⟨o, I.kIn p o hk, hc⟩, fun a e => ?_⟩
   cases e
   exact ⟨o, I.kIn _ o hk, hd⟩
  ·have z : ∃ o, s.heap.get? p=some o∧o.ExactDict := by
    rcases hk with ⟨kvs, hk⟩ | ⟨kvs, hk⟩
    ·obtain ⟨_, _, _, _, o, _, _, e, ex, _⟩ := I.hok p _ hk
     exact ⟨o, e, ex⟩
    ·obtain ⟨_, _, _, _, o, _, _, e, ex, _⟩ := I.hok p _ hk
     exact ⟨o, e, ex⟩
   obtain ⟨o, e, ex⟩ := z
   refine ⟨⟨o, e, ex.1⟩, fun a e2 => ?_⟩
   cases e2
   exact ⟨o, e, ex.2.1⟩
  ·obtain ⟨o, _, _, _, e, ex, _⟩ := I.hok p _ hk
   refine ⟨⟨o, e, ex.1⟩, fun a e2 => ?_⟩
   cases e2
   exact ⟨o, e, ex.2.1⟩
 | _ => exact False.elim ty
def tBM (K : PySem.W.Frag) (T : String) (r : V→List V→Hp→VK→Prop) (to : TE) (t : TA) : TE := fun σ H Q => to σ H fun x H1 => tyV K T x H1∧t σ H1 fun xs H2 => r x xs H2 Q
variable {o e : Expr} {es : List Expr} {to : TE} {t : TA} {name : Str} {apos cpos : Pos} {T id : String} {r : V→List V→Hp→VK→Prop}
theorem pL (pa : PlainAttrs T) (slot : Slot T name id) (hty : typeOf (.builtin id)=pure (.type "method_descriptor")) (hm : MtR X id r) (ho : PE X o to) (ha : PA X (e :: es) t)
 (hbase : attributeBase o name X.env (eval o X.env)=eval o X.env := by rfl)
 (hfew : ((backTo cpos (starEach (e :: es) X.env)).all (fun x => !x.1)&&(backToKw cpos (keywordEach [] X.env)).all (fun x => x.1.isSome)
  && decide ((e :: es).length + ([] : List Keyword).length + (if ([] : List Keyword).isEmpty then 0 else 1)<30))=true := by rfl)
 (hline : (apos.endLine == cpos.line)=true := by rfl) (hs : starEach (e :: es) X.env=(false, eval e X.env) :: starEach es X.env := by rfl) (hplain : (backTo cpos (starEach es X.env)).any (·.1)=false := by rfl) :
 PE X (.Call (.Attribute o name apos) (e :: es) [] cpos) (tBM X.K T r to t) := by
 (try refine ⟨?_⟩); intro pins s σ H Q I h
 refine wpAny_Call_method_late hbase hfew hline rfl (thn (ho pins s σ H _ I h) fun v s1 ⟨x, H1, I1, r1, ty, q1⟩ => ?_)
 obtain ⟨h1, h2⟩ := qg I1 r1 ty
 refine ⟨T, id, pa, slot, hty, h1, h2, ?_⟩
 have hA := ha cpos pins s1 σ H1 _ I1 q1
 rw [hs] at hA ⊢
 refine Calls.callWith_builtin (by show (false||(backTo cpos (starEach es X.env)).any (·.1))=false; rw [hplain] <;> rfl) (Calls.evalArgs_plain ?_)
 exact thn hA fun us s2 ⟨vs, H2, I2, r2, q2⟩ => hm pins s2 σ H2 x vs v us Q I2 r1 r2 q2
/- xs.append(e), list.index on a module's tuple .. are MtR facts of 06m -/
end
def MtM (X : Cx) (id : String) (r : V→List V→Hp→VK→Prop) : Prop :=
 ∀ (pins : List (Addr×Obj)) (s : Shared) (σ : St) (H : Hp) (x : V) (xs : List V) (v : Value) (us : List Value) (Q : VK), Inv X pins σ H s→aN x v→aF xs us→r x xs H Q →
  wpAny (model X.prog X.w) X.A (call (.builtin id) (v :: us)) (EP X pins σ Q) X.xe s
theorem aF.one : ∀ {x : V} {us : List Value}, aF [x] us→∃ u, us=[u]∧aN x u := fun h => by
 cases h with
 | cons r q => cases q; exact ⟨_, rfl, r⟩
theorem aF.eraseIdx : ∀ {xs : List V} {us : List Value} (i : Nat), aF xs us→aF (xs.eraseIdx i) (us.eraseIdx i)
 | _, _, _, .nil => .nil
 | _, _, 0, .cons _ t => t
 | _, _, i + 1, .cons r t => .cons r (aF.eraseIdx i t)
theorem aF.reverse {xs : List V} {us : List Value} (h : aF xs us) : aF xs.reverse us.reverse := by
 induction h with
 | nil => exact .nil
 | cons r t ih => rw [List.reverse_cons, List.reverse_cons]; exact aF.append ih (.cons r .nil)
section
variable {X : Cx} {pins : List (Addr×Obj)} {σ : St} {H : Hp} {s : Shared} {l b : Addr} {xs ys zs : List V}
theorem Inv.lset {its its' : List Value} {n : Nat} {f : Array Value→Array Value} {t' : Nat} (I : Inv X pins σ H s) (hH : H l=some (.lst xs))
 (e : s.heap.get? l=some { cls := .type "list", data := .seq its.toArray n }) (hf : f its.toArray=its'.toArray) (hv : aF ys its') (hz : ys.length≤sizeLine) :
 Inv X pins σ (upd H l (.lst ys)) { s with heap := s.heap.update l (Obj.mapSeq f), toks := t' } := by
 have q := PySem.IsL.update e f
 rw [hf] at q
 refine I.write (x := l) (e := l) (by rw [hH]; exact trivial) (.inl rfl) (fun b' u hb hu => (Heap.get?_update_other s.heap (Obj.mapSeq f) (Ne.symm hb)).trans hu) ⟨_, q⟩ ?_
 exact ⟨hz, its', _, hv, q⟩
theorem Inv.lnew {its : List Value} {t' : Nat} (I : Inv X pins σ H s) (hv : aF ys its) (hz : ys.length≤sizeLine) :
 Inv X pins σ (upd H s.heap.objs.size (.lst ys)) { s with heap := s.heap.push { cls := .type "list", data := .seq its.toArray }, toks := t' } :=
 I.laid (fun _ _ q => Heap.get?_push_of_some _ q) (Nat.le_refl _) ⟨hz, its, 0, hv, Heap.get?_push_size _ rfl⟩
theorem Inv.fresh (I : Inv X pins σ H s) : H s.heap.objs.size=none := I.hok.fresh (Nat.le_refl _)
theorem Inv.lstM (I : Inv X pins σ H s) (hH : H l=some (.lst xs)) : xs.length≤sizeLine∧∃ (its : List Value) (n : Nat), aF xs its∧xs.length=its.length∧s.heap.get? l=some { cls := .type "list", data := .seq its.toArray n } := by
 obtain ⟨z, its, n, r, e⟩ := I.hok l _ hH
 exact ⟨z, its, n, r, r.length, e⟩
theorem nr {n : Nat} (h : n≤sizeLine) : Builtin.List.listTooLong n=false := by
 unfold Builtin.List.listTooLong
 exact decide_eq_false (by omega)
end
section
variable {X : Cx}
def om : V→List V→Hp→VK→Prop := fun x vs H Q => ∃ l xs y, x = .ref l∧vs=[y]∧H l=some (.lst xs)∧xs.length<sizeLine∧Q .non (upd H l (.lst (xs++[y])))
theorem ky : MtM X "list.append" om := by
 (try refine ⟨?_⟩); intro pins s σ H x vs v us Q I rx rv h
 obtain ⟨l, xs, y, rfl, rfl, hH, hz, q⟩ := h
 cases rx
 obtain ⟨u, rfl, ru⟩ := rv.one
 obtain ⟨z, its, n, r, hl, e⟩ := I.lstM hH
 refine call_meets F.slot_list_append ⟨_, e, rfl⟩ F.entry_list_append (F.args_list_append_2 _ _) (PySem.list_append l its.toArray n u (by rw [List.size_toArray]; omega)) ⟨e, ?_⟩
 refine ⟨.non, _, I.lset (its' := its++[u]) hH e (by simp) (r.append (.cons ru .nil)) ?_, rfl, q⟩
 rw [List.length_append, List.length_singleton]
 omega
def oG : V→List V→Hp→VK→Prop := fun x vs H Q => ∃ l b xs zs, x = .ref l∧vs=[.ref b]∧H l=some (.lst xs)∧H b=some (.lst zs)∧xs.length + zs.length≤sizeLine∧Q .non (upd H l (.lst (xs++zs)))
theorem r6 : MtM X "list.extend" oG := by
 (try refine ⟨?_⟩); intro pins s σ H x vs v us Q I rx rv h
 obtain ⟨l, b, xs, zs, rfl, rfl, hH, hB, hz, q⟩ := h
 cases rx
 obtain ⟨u, rfl, ru⟩ := rv.one
 cases ru
 obtain ⟨z, its, n, r, hl, e⟩ := I.lstM hH
 obtain ⟨z2, its2, n2, r2, hl2, e2⟩ := I.lstM hB
 have hsz : its.toArray.size + its2.toArray.size≤sizeLine := by rw [List.size_toArray, List.size_toArray]; omega
 have hlong : ¬ (!its.toArray.isEmpty&&Builtin.List.listTooLong (its.toArray.size + its2.toArray.size))=true := by
  rw [nr hsz, Bool.and_false]
  exact Bool.false_ne_true
 refine call_meets F.slot_list_extend ⟨_, e, rfl⟩ F.entry_list_extend (F.args_list_extend_2 _ _)
  (AutoSeq1.list_extend_list_list_0 l its.toArray n b its2.toArray n2 hlong (by rw [List.size_toArray]; omega) (by omega)) ⟨e, e2, ?_⟩
 refine ⟨.non, _, I.lset (its' := its++its2) hH e (by simp) (r.append r2) ?_, rfl, q⟩
 rw [List.length_append]
 omega
def rCat : R2 := fun x y H Q => ∃ l b xs zs, x = .ref l∧y = .ref b∧H l=some (.lst xs)∧H b=some (.lst zs)∧xs.length + zs.length≤sizeLine∧∀ p, H p=none→Q (.ref p) (upd H p (.lst (xs++zs)))
theorem eM : OpR X (binaryOp .Add) rCat := by
 (try refine ⟨?_⟩); intro pins s σ H x y v u Q I rx ry h
 obtain ⟨l, b, xs, zs, rfl, rfl, hH, hB, hz, q⟩ := h
 cases rx
 cases ry
 obtain ⟨z, its, n, r, hl, e⟩ := I.lstM hH
 obtain ⟨z2, its2, n2, r2, hl2, e2⟩ := I.lstM hB
 refine PySem.P.add_list e e2 ?_ (by rw [List.size_toArray, List.size_toArray]; omega)
 have ea : its.toArray++its2.toArray=(its++its2).toArray := by simp
 rw [ea]
 exact ⟨.ref _, _, I.lnew (t' := s.toks) (r.append r2) (by rw [List.length_append]; omega), rfl, q _ I.fresh⟩
end
section
variable {prog : Program} {w : World} {A : Around} {E : Value→Shared→Prop} {s : Shared}
end
section
variable {X : Cx}
end
end L2
namespace Att
open PySem PySem.W PySem.Calls PyProof.Rows
theorem eZ {P : Params} {h : Heap} : ∀ (ns : List Int) (vs : List Value), WellAll P h vs (ns.map WData.int)→IntsAre vs ns := by
 intro ns
 induction ns with
 | nil =>
  intro vs w
  rw [List.map_nil] at w
  cases w
  exact .nil
 | cons n ns ih =>
  intro vs w
  rw [List.map_cons] at w
  cases w with
  | cons a b =>
   cases a
   exact .cons _ _ (ih _ b)
theorem kC {l : OpenLaw} {n : Nat} (hn : l.most=some n) {P : Params} {h : Heap} {args : List WData} {vals : List Value}
 (hpre : l.row.toRowW.claim.pre args=true) (hwl : WellAll P h vals args) :
 ∃ a vs ns, vals=[Value.ref a]∧args=[WData.list (ns.map WData.int)]∧h.get? a=some { cls := .type "list", data := .seq vs.toArray } ∧ IntsAre vs ns∧ns.length≤n := by
 have hsh : WShape.hasAll [] args [.list .int]=true := (pre_splitW hpre).1
 have hc : l.pre.holds [] { args := args } = true := (pre_splitW hpre).2
 obtain ⟨d, r, rfl, h1, h2⟩ := hasAllW_cons hsh
 obtain rfl := hasAllW_nil h2
 obtain ⟨xs, rfl, h3⟩ := hasW_list h1
 obtain ⟨ns, rfl⟩ := items_int h3
 have hlen : ns.length≤n := by
  unfold OpenLaw.pre at hc
  have h4 : (WTm.not (.lt (.lit (.int (n : Int))) (.len (.arg 0)))).holds [] { args := [.list (ns.map .int)] } = true := by
   have h4 := (holds_andW hc).1
   rw [hn] at h4
   exact h4
  have h5 := condW_of h4 (w_not (w_lt w_lit (w_len_list (w_arg rfl))))
  rw [List.length_map] at h5
  refine Nat.le_of_not_lt fun q => ?_
  have q' : (n : Int)<((ns.length : Nat) : Int) := by omega
  first
   | (rw [decide_eq_true q'] at h5; exact absurd h5 (by decide))
   | (simp at h5; omega)
 cases hwl with
 | cons w1 w2 =>
  cases w2
  cases w1 with
  | list ho hall => exact ⟨_, _, ns, rfl, rfl, ho, eZ ns _ hall, hlen⟩
theorem kI (l : OpenLaw) (args : List WData) : l.row.toRowW.claim.post args (.bool true) args=true :=
 postW_of (r := l.row.toRowW) (X := (true == true))
  (show WShape.has [] (.bool true) .bool=true by first | rfl | decide | simp [WShape.has, WShape.arms, WShape.armsAll])
  (show (WTm.eq .res (.lit (.bool true))).value [] { args := args, res := some (.bool true), after := args } = some (.bool (true == true)) from w_eq_bool (w_res rfl) w_lit) rfl
theorem attach_call {l : OpenLaw} {n : Nat} {q : Program} {loose : List Str} {XP : (Str→Option Value)→Heap→Prop} {YP : World→Heap→Prop} {d : DefRec}
 (hn : l.most=some n) (hdf : d.params.defaults=[])
 (call : ∀ (w : World) (s₀ s₁ : Shared) (mg mb : Str→Option Value) (fa : Addr) (o : Obj) (pm cd doc : Value) (a : Addr) (vs : List Value) (ns : List Int),
  Ground q loose [] XP w s₀ mg mb s₁.heap→YP w s₁.heap →
  s₁.heap.get? fa=some o→o.data = .func (docDef d.name d.params d.body d.scope pm cd doc)→s₁.heap.CodeRec cd d.name→mg d.name=some (.ref fa) →
  s₁.heap.get? a=some { cls := .type "list", data := .seq vs.toArray } → IntsAre vs ns→ns.length≤n→s₁.gens = #[] →
  codeAny (model l.prog w) callerA (.call (.ref fa) ⟨[.ref a], []⟩) (fun r s' => r = .ok (.ret (.bool true))∧OldK s₁.heap s'.heap∧s'.os=s₁.os∧AllBare s'.gens) s₁) :
 WalkO q loose XP YP l.row.toRowW d [] (fun f vs => PySem.call f vs) := by
 intro w s₀ s₁ mg mb G Y fa o pm cd doc dV kV ho hd hcd hD hmg hg args vals as hpre hlay hrd hwl hlo
 obtain rfl : dV = .none := Dflts.none hD hdf
 obtain rfl : kV = .none := Dflts.noKw hD
 obtain ⟨a, vs, ns, rfl, rfl, hobj, hints, hlen⟩ := kC hn hpre hwl
 refine enter_call (codeAny_mono (call w s₀ s₁ mg mb fa o pm cd doc a vs ns G Y ho (fd_plain hd) hcd hmg hobj hints hlen hg) fun r s' hq => ?_)
 obtain ⟨rfl, h2, h3, h4⟩ := hq
 exact ⟨.inl ⟨.bool true, .bool true, [], rfl, fun _ => rfl, .bool true, kI l _, fun _ => ⟨List.Pairwise.nil, fun _ hm => (nomatch hm)⟩⟩, h2, h3, h4⟩
section
variable {prog : Program} {w : World} {A : Around} {E : Value→Shared→Prop} {s : Shared} {K : Frag}
end
end Att
namespace L2
open PySem PySem.Spec PyProof.Rows
theorem cZ : ∀ {vs : List Value} {ns : List Int}, IntsAre vs ns→aF (ns.map V.int) vs
 | _, _, .nil => .nil
 | _, _, .cons n t h => .cons ⟨t, rfl⟩ (cZ h)
def Only (H : Hp) : Prop := ∀ b, H b=none∨∃ o xs, H b=some (.frz o (.lst xs))
theorem nH {P : Program} {w : World} {K : PySem.W.Frag} {mg mb : Str→Option Value} {CX : CXT} {k : Nat} {fa a : Addr} {fd : FuncData} {x : Str} {sp : Sp} {s₁ : Shared} {vs : List Value} {ns : List Int}
 (KX : K.In s₁.heap) (hns : s₁.heap.Ns mainGlobals mg) (hb : s₁.heap.Ns builtinsNs mb) (hbb : ∀ x : Str, x ≠ "__name__" → mb x=bootBuiltins x) (hlim : s₁.heap.NoLimit) (hg : s₁.gens = #[])
 (ha : s₁.heap.get? a=some { cls := .type "list", data := .seq vs.toArray }) (hi : IntsAre vs ns) (hl : ns.length≤sizeLine) (hr : Room k callerA)
 (F : ∀ base : Heap, K.In base→base.Ns mainGlobals mg→FnOk P w K mg base CX k fa fd [x] sp) (hbind : ∀ (s : Shared) (u : Value), BindsTo s fd ⟨[u], []⟩ [(x, u)])
 (hsp : ∀ H : Hp, Only H→SqL K H a (ns.map V.int)→sp [.ref a] H (fun v _ => v = .bl true) fun _ _ _ => False)
 (hCX : ∀ H e s', CX [] H s₁ (fun _ _ _ => False) e s'→False) :
 codeAny (model P w) callerA (.call (.ref fa) ⟨[.ref a], []⟩) (fun r s' => r = .ok (.ret (.bool true))∧OldK s₁.heap s'.heap∧s'.os=s₁.os∧AllBare s'.gens) s₁ := by
 have rv := cZ hi
 have lenV := hi.length
 -- from an abstract heap in which nothing but the script may be tracked
 have core : ∀ H : Hp, Only H→SqL K H a (ns.map V.int)→HOk P w H s₁.heap→(∀ b, H b ≠ none→b=a)→(H a ≠ none→K.lookup a=none) →
  codeAny (model P w) callerA (.call (.ref fa) ⟨[.ref a], []⟩) (fun r s' => r = .ok (.ret (.bool true))∧OldK s₁.heap s'.heap∧s'.os=s₁.os∧AllBare s'.gens) s₁ := by
  intro H hO hS hok hA hK
  have base_of : ∀ {b : Addr} {o : Obj}, s₁.heap.get? b=some o→H b=none→(dC s₁.heap H).get? b=some o := fun e n => nh e n
  have noA : ∀ {b : Addr} {o : Obj} {es : Array DictEntry} {ep : Nat}, s₁.heap.get? b=some o→o.data = .dict es ep→H b=none := fun {b o es ep} e d => by
   cases q : H b with
   | none => rfl
   | some u =>
    have e' : b=a := hA b (by rw [q]; simp)
    subst e'
    rw [ha] at e; cases e
    have d' : Data.seq vs.toArray _=Data.dict es ep := d
    cases d'
  have nsK : ∀ {b : Addr} {m : Str→Option Value}, s₁.heap.Ns b m→(dC s₁.heap H).Ns b m := fun {b m} ⟨o, es, ep, e, d, r⟩ => ⟨o, es, ep, base_of e (noA e d), d, r⟩
  have hKb : K.In (dC s₁.heap H) := fun b o e => base_of (KX b o e) (by
   cases q : H b with
   | none => rfl
   | some u =>
    have e' : b=a := hA b (by rw [q]; simp)
    subst e'
    rw [hK (by rw [q]; simp)] at e; cases e)
  have hM : Mod K mg (dC s₁.heap H) := ⟨hKb, nsK hns, ⟨mb, nsK hb, hbb⟩, let ⟨mc, h1, h2⟩ := hlim; ⟨mc, nsK h1, h2⟩⟩
  have e0 : Env0 P w K mg (dC s₁.heap H) callerA [] s₁ H := ⟨rfl, hM, fun b o e => oP e, Nat.le_of_eq (eA _ _), trivial, fun b hb => absurd (show b∈([] : List Addr) from hb) (by simp), hok, .of_eq hg, TbM.hid⟩
  refine codeAny_mono ((F _ hKb (nsK hns)).run callerA [] s₁ H ⟨[.ref a], []⟩ [.ref a] [.ref a] _ _ hr e0 (hbind s₁ (.ref a)) (.cons rfl .nil) (hsp H hO hS)) fun r s' h => ?_
  cases r with
  | error e => exact (hCX H e s' h).elim
  | ok fl =>
   cases fl with
   | next => exact False.elim h
   | brk => exact False.elim h
   | cont => exact False.elim h
   | ret u =>
    obtain ⟨v, H', os, bare, un, hok', r', q⟩ := h
    have q' : v = .bl true := q
    subst q'
    obtain rfl : u=Value.bool true := r'
    refine ⟨rfl, OldK.of_keep fun b o e => ?_, os, bare⟩
    cases q : H b with
    | none => exact un.keep b o e q (by intro z; exact absurd (show b∈([] : List Addr) from z) (by simp)) (by simp)
    | some u =>
     rcases hO b with z | ⟨ob, xs, z⟩
     ·rw [q] at z; cases z
     ·have z2 := un.frzs b ob _ z
      obtain ⟨e1, _⟩ := hok b _ z
      obtain ⟨e2, _⟩ := hok' b _ z2
      rw [e] at e1; cases e1
      exact e2
 cases hk : K.lookup a with
 | some o =>
  -- the script is one of the module's own objects
  have e := KX a o hk
  rw [ha] at e
  cases e
  refine core (fun _ => none) (fun _ => .inl rfl) (.inr ⟨_, vs.toArray, _, hk, rfl, rfl, rfl, by rw [List.size_toArray, lenV]; exact hl, by simpa using rv⟩) (fun b u z => by have z' : (none : Option HO)=some u := z; cases z') (fun b z => absurd rfl z) fun z => absurd rfl z
 | none =>
  refine core (fun b => if b=a then some (.frz { cls := .type "list", data := .seq vs.toArray } (.lst (ns.map V.int))) else none) (fun b => ?_) (.inl (.inr ⟨{ cls := .type "list", data := .seq vs.toArray }, if_pos rfl⟩)) (fun b u z => ?_) (fun b z => ?_) fun _ => hk
  ·by_cases hb : b=a
   ·exact .inr ⟨_, _, if_pos hb⟩
   ·exact .inl (if_neg hb)
  ·by_cases hb : b=a
   ·have z' := (if_pos hb).symm.trans z
    cases z'
    subst hb
    exact ⟨ha, by rw [List.length_map]; exact hl, vs, _, rv, ha⟩
   ·have z' := (if_neg hb).symm.trans z
    cases z'
  ·by_cases hb : b=a
   ·exact hb
   ·exact absurd (if_neg hb) z
theorem oA {l : PySem.W.OpenLaw} {n k : Nat} {q : Program} {loose : List Str} {XP : (Str→Option Value)→Heap→Prop} {YP : World→Heap→Prop} {d : DefRec} {K : Params→PySem.W.Frag} {CX : World→CXT} {sp : World→Sp} {x : Str}
 (hn : l.most=some n) (hn2 : n≤sizeLine) (hdf : d.params.defaults=[]) (hr : Room k callerA)
 (hY : ∀ (w : World) (h : Heap), YP w h→(K w.params).In h)
 (F : ∀ (w : World) (mg : Str→Option Value) (fa : Addr) (h : Heap), (K w.params).In h→h.Ns mainGlobals mg→mg d.name=some (.ref fa) →
  ∃ fd : FuncData, (∀ (s : Shared) (u : Value), BindsTo s fd ⟨[u], []⟩ [(x, u)]) ∧
   ∀ base : Heap, (K w.params).In base→base.Ns mainGlobals mg→FnOk l.prog w (K w.params) mg base (CX w) k fa fd [x] (sp w))
 (hsp : ∀ (w : World) (H : Hp) (a : Addr) (ns : List Int), ns.length≤n→Only H→SqL (K w.params) H a (ns.map V.int)→sp w [.ref a] H (fun v _ => v = .bl true) fun _ _ _ => False)
 (hCX : ∀ (w : World) (H : Hp) (s : Shared) (e : Value) (s' : Shared), CX w [] H s (fun _ _ _ => False) e s'→False) :
 PySem.W.WalkO q loose XP YP l.row.toRowW d [] (fun f vs => PySem.call f vs) := by
 refine Att.attach_call hn hdf fun w s₀ s₁ mg mb fa o pm cd doc a vs ns G Y ho hd hcd hmg hobj hints hlen hg => ?_
 have KX := hY w _ Y
 obtain ⟨fd, hb, hF⟩ := F w mg fa _ KX G.T.g hmg
 exact nH KX G.T.g G.T.b G.T.builtins G.T.nolimit hg hobj hints (Nat.le_trans hlen hn2) hr hF hb (fun H hO hS => hsp w H a ns hlen hO hS) fun H e s' => hCX w H s₁ e s'
end L2
/- THE LAST THEOREM (shape; LID, My.* are yours):
   My.Adr: a structure of the addresses that your layer names (classes, functions); My.Txt K t: a structure (Prop) of the equations over K;
   My.txt_mk : {K} {implicit addresses ..} (e1 : nsIn K mainGlobals "law" = some (some (.ref f))) (e2 : K.lookup f=some ⟨oc, od, .func (fnOf "law" "law" params body scope dV kV doc pm an cdv ct), sl⟩) (e3 : codeIn K cdv "law" = true) .. : ∃ t, My.Txt K t
(the tactic k_is has no namespace: write k_is) -/
namespace L2
open PySem PySem.Spec PyProof.Rows
def cx (s : Stmt) : Arguments := match s with
 | .FunctionDef _ a _ _ _ _ _ _ _ _ => a
 | _ => { posonlyargs := [], args := [], vararg := none, kwonlyargs := [], kw_defaults := [], kwarg := none, defaults := [] }
def bT (s : Stmt) : List Stmt := match s with
 | .FunctionDef _ _ b _ _ _ _ _ _ _ => b
 | _ => []
def ai (s : Stmt) : Scope := match s with
 | .FunctionDef _ _ _ _ _ _ sc _ _ _ => sc
 | _ => { kind := .function, names := [], isGenerator := false, isCoroutine := false }
abbrev CX0 : CXT := fun _ _ _ _ _ _ => False
abbrev E0 : XK := fun _ _ _ => False
theorem pP {X : Cx} : jh CX0 X E0 := fun _ _ _ _ _ _ _ h => h.elim
structure Fun (K : PySem.W.Frag) (x qual : Str) (st : Stmt) (f : Addr) (fd : FuncData) : Prop where
 ex : ∃ (oc : Value) (od : Option Addr) (kV doc pm : Value) (an : Option Addr) (cdv ct : Value) (osl : Array (Option Value)),
  fd=PySem.W.fnOf x qual (cx st) (bT st) (ai st) .none kV doc pm an cdv ct∧K.lookup f=some ⟨oc, od, .func fd, osl⟩∧PySem.W.codeIn K cdv qual=true
 kp : PySem.W.keepIn K (.ref f)=true
section
variable {P : Program} {w : World} {K : PySem.W.Frag} {mg : Str→Option Value} {base : Heap}
theorem Fun.ok {x qual : Str} {st : Stmt} {f : Addr} {fd : FuncData} {N ps : List Str} {k : Nat} {sp : Sp} (F : Fun K x qual st f fd) (S : FnScope N ps (ai st)) (len : ∀ vs H Q E, sp vs H Q E→vs.length=ps.length)
 (hbody : ∀ (cdv : Value) (A : Around) (outer : List Env) (s : Shared) (H : Hp) (vs : List V) (Q : VK) (E : XK), Room k (A.deeper (envOfC qual (ai st) s.heap.objs.size f cdv))→sp vs H Q E →
  ∃ t, PSs (jz CX0 P w K mg base N qual (ai st) f cdv A outer s H E).nox (bT st) t∧t { nx := fun _ H' => Q .non H', rt := Q } (cF N vs) H) : FnOk P w K mg base CX0 (k + 1) f fd ps sp := by
 obtain ⟨oc, od, kV, doc, pm, an, cdv, ct, osl, rfl, lk, hcd⟩ := F.ex
 refine fn_of lk hcd S len fun A outer s H vs Q E hr hsp => ?_
 obtain ⟨t, h, q⟩ := hbody cdv A outer s H vs Q E hr hsp
 exact ⟨t, h.nox, q⟩
theorem Fun.binds {x qual : Str} {st : Stmt} {f : Addr} {fd : FuncData} {ps : List Str} (F : Fun K x qual st f fd)
 (h : ∀ (kV doc pm : Value) (an : Option Addr) (cdv ct : Value) (us : List Value), us.length=ps.length→bindArgs (PySem.W.fnOf x qual (cx st) (bT st) (ai st) .none kV doc pm an cdv ct) ⟨us, []⟩=pure (ps.zip us)) : eY K fd ps [] := by
 obtain ⟨oc, od, kV, doc, pm, an, cdv, ct, osl, rfl, lk, hcd⟩ := F.ex
 exact .all (h kV doc pm an cdv ct)
theorem p9 {x qual : Str} {st : Stmt} {f : Addr} {oc : Value} {od an : Option Addr} {osl : Array (Option Value)} {kV doc pm cdv ct : Value} (l : K.lookup f=some ⟨oc, od, .func (PySem.W.fnOf x qual (cx st) (bT st) (ai st) .none kV doc pm an cdv ct), osl⟩)
 (c : PySem.W.codeIn K cdv qual=true) (k : PySem.W.keepIn K (.ref f)=true) : Fun K x qual st f (PySem.W.fnOf x qual (cx st) (bT st) (ai st) .none kV doc pm an cdv ct) := ⟨⟨oc, od, kV, doc, pm, an, cdv, ct, osl, rfl, l, c⟩, k⟩
end
theorem bC {n : Nat} (h : n≤1000) : n<sizeLine := Nat.lt_of_le_of_lt h (by decide)
section
variable {X : Cx}
end
theorem bI {c A B : Prop} [Decidable c] (h1 : c→A) (h2 : ¬ c→B) : if c then A else B := by
 by_cases h : c
 ·rw [if_pos h]
  exact h1 h
 ·rw [if_neg h]
  exact h2 h
def ay (H H' : Hp) : Prop := ∀ b o, H b=some o→H' b=some o
theorem ay.refl (H : Hp) : ay H H := fun _ _ h => h
theorem ay.trans {H H1 H2 : Hp} (a : ay H H1) (b : ay H1 H2) : ay H H2 := fun c o h => b c o (a c o h)
inductive D where
 | non | bl (b : Bool) | int (i : Int) | str (x : Str) | tup (ds : List D) | lst (ds : List D) | dct | dic (ks : List Key) (ds : List D) | scr (φ : Addr→Prop) (ns : List Int) | ext (φ : Hp→Addr→Prop)
mutual
def Rep (H : Hp) : D→V→Prop
 | .non, v => v = .non
 | .bl b, v => v = .bl b
 | .int i, v => v = .int i
 | .str x, v => v = .str x
 | .tup ds, v => ∃ a xs, v = .ref a∧H a=some (.tup xs)∧Reps H ds xs
 | .lst ds, v => ∃ a xs, v = .ref a∧H a=some (.lst xs)∧Reps H ds xs
 | .dct, v => ∃ a kvs, v = .ref a∧H a=some (.dK kvs)
 | .dic ks ds, v => ∃ a xs, v = .ref a∧H a=some (.dK (ks.zip xs))∧ks.length=ds.length∧Reps H ds xs
 | .scr φ ns, v => ∃ a, v = .ref a∧((∃ o, H a=some (.frz o (.lst (ns.map V.int))))∨φ a)
 | .ext φ, v => ∃ a H0, v = .ref a∧ay H0 H∧φ H0 a
def Reps (H : Hp) : List D→List V→Prop
 | [], xs => xs=[]
 | d :: ds, xs => ∃ v vs, xs=v :: vs∧Rep H d v∧Reps H ds vs
end
theorem Reps.length {H : Hp} : ∀ {ds : List D} {xs : List V}, Reps H ds xs→xs.length=ds.length
 | [], xs, h => by rw [Reps] at h; subst h; rfl
 | d :: ds, xs, h => by
  rw [Reps] at h
  obtain ⟨v, vs, rfl, _, h2⟩ := h
  have := Reps.length h2
  simp [this]
mutual
theorem Rep.mono {H H' : Hp} (e : ay H H') : ∀ (d : D) (v : V), Rep H d v→Rep H' d v
 | .non, v, h => by rw [Rep] at *; exact h
 | .bl b, v, h => by rw [Rep] at *; exact h
 | .int i, v, h => by rw [Rep] at *; exact h
 | .str x, v, h => by rw [Rep] at *; exact h
 | .tup ds, v, h => by
  rw [Rep] at *
  obtain ⟨a, xs, h1, h2, h3⟩ := h
  exact ⟨a, xs, h1, e _ _ h2, Reps.mono e ds xs h3⟩
 | .lst ds, v, h => by
  rw [Rep] at *
  obtain ⟨a, xs, h1, h2, h3⟩ := h
  exact ⟨a, xs, h1, e _ _ h2, Reps.mono e ds xs h3⟩
 | .dct, v, h => by
  rw [Rep] at *
  obtain ⟨a, kvs, h1, h2⟩ := h
  exact ⟨a, kvs, h1, e _ _ h2⟩
 | .dic ks ds, v, h => by
  rw [Rep] at *
  obtain ⟨a, xs, h1, h2, h3, h4⟩ := h
  exact ⟨a, xs, h1, e _ _ h2, h3, Reps.mono e ds xs h4⟩
 | .scr φ ns, v, h => by
  rw [Rep] at *
  obtain ⟨a, h1, h2⟩ := h
  refine ⟨a, h1, ?_⟩
  rcases h2 with ⟨o, h2⟩ | h2
  ·exact .inl ⟨o, e _ _ h2⟩
  ·exact .inr h2
 | .ext φ, v, h => by
  rw [Rep] at *
  obtain ⟨a, H0, h1, h2, h3⟩ := h
  exact ⟨a, H0, h1, fun b o q => e _ _ (h2 b o q), h3⟩
theorem Reps.mono {H H' : Hp} (e : ay H H') : ∀ (ds : List D) (xs : List V), Reps H ds xs→Reps H' ds xs
 | [], xs, h => by rw [Reps] at *; exact h
 | d :: ds, xs, h => by
  rw [Reps] at *
  obtain ⟨v, vs, h1, h2, h3⟩ := h
  exact ⟨v, vs, h1, Rep.mono e d v h2, Reps.mono e ds vs h3⟩
end
def D.ty : D→String
 | .non => "NoneType" | .bl _ => "bool" | .int _ => "int" | .str _ => "str" | .tup _ => "tuple" | .lst _ => "list" | .dct => "dict" | .dic _ _ => "dict" | .scr _ _ => "list" | .ext _ => "object"
def D.isS : D→Bool
 | .scr _ _ => true
 | .ext _ => true
 | _ => false
theorem Rep.ty {K : PySem.W.Frag} {H : Hp} {d : D} {v : V} (h : Rep H d v) (hs : d.isS=false) : TyOf K H v (.type d.ty) := by
 cases d with
 | non => rw [Rep] at h; subst h; exact .non
 | bl b => rw [Rep] at h; subst h; exact .bl b
 | int i => rw [Rep] at h; subst h; exact .int i
 | str x => rw [Rep] at h; subst h; exact .str x
 | tup ds => rw [Rep] at h; obtain ⟨a, xs, rfl, h2, _⟩ := h; exact .tup h2
 | lst ds => rw [Rep] at h; obtain ⟨a, xs, rfl, h2, _⟩ := h; exact .lst h2
 | dct => rw [Rep] at h; obtain ⟨a, kvs, rfl, h2⟩ := h; exact .dK h2
 | dic ks ds => rw [Rep] at h; obtain ⟨a, xs, rfl, h2, _⟩ := h; exact .dK h2
 | scr φ ns => cases hs
 | ext φ => cases hs
theorem h_ {H : Hp} {a : Addr} {xs : List V} {ds : List D} (h : H a=some (.tup xs)) (r : Reps H ds xs) : Rep H (.tup ds) (.ref a) := by rw [Rep]; exact ⟨a, xs, rfl, h, r⟩
theorem fj {H : Hp} {a : Addr} {xs : List V} {ds : List D} (h : H a=some (.lst xs)) (r : Reps H ds xs) : Rep H (.lst ds) (.ref a) := by rw [Rep]; exact ⟨a, xs, rfl, h, r⟩
theorem aV {H : Hp} : Reps H [] [] := by rw [Reps]
theorem aT {H : Hp} {d : D} {v : V} {ds : List D} {vs : List V} (h : Rep H d v) (r : Reps H ds vs) : Reps H (d :: ds) (v :: vs) := by rw [Reps]; exact ⟨v, vs, rfl, h, r⟩
theorem bg {H : Hp} (i : Int) : Rep H (.int i) (.int i) := by rw [Rep]
theorem bh {H : Hp} (i : Bool) : Rep H (.bl i) (.bl i) := by rw [Rep]
theorem gW {H : Hp} (i : Str) : Rep H (.str i) (.str i) := by rw [Rep]
theorem jY {H : Hp} : Rep H .non .non := by rw [Rep]
theorem ni {H : Hp} {p : Addr} (h : H p=none) (o : HO) : ay H (upd H p o) := fun b u q => by rw [ao (aw q h)]; exact q
section
variable {X : Cx}
def kQ (d : D) (T : String) : Option Bool := if d.isS=true then none else if (Value.type d.ty == Value.type T)=true then some true else if PySem.W.kitMeta T=true then (fastBuiltinMro d.ty).map (·.contains (.type T)) else none
theorem lC (K : PySem.W.Frag) (d : D) (T : String) (hs : d.isS=false) : PySem.W.kitOne K (.type d.ty) (.type T)=kQ d T := by
 unfold kQ; rw [hs, if_neg (by decide)]; rfl
def rIsI : List V→Hp→VK→Prop := fun xs H Q => ∃ x T d b, xs=[x, .ty T]∧Rep H d x∧kQ d T=some b∧Q (.bl b) H
theorem iR : bH X (.builtin "isinstance") rIsI := by
 intro pins s σ H xs us Q I r h
 obtain ⟨x, T, d, b, rfl, hd, e, q⟩ := h
 obtain ⟨u, w', rfl, ru, rw'⟩ := j6 r
 cases (show w'=Value.type T from rw')
 have hs : d.isS=false := by
  cases z : d.isS with
  | false => rfl
  | true => unfold kQ at e; rw [z, if_pos rfl] at e; cases e
 rw [← lC X.K d T hs] at e
 exact kB I ru (hd.ty hs) e fun tk => ⟨.bl b, H, I.tok tk, rfl, q⟩
theorem mU : OpR X (compareOp .Is) (fun x y H Q => ∃ b c, x = .bl b∧y = .bl c∧Q (.bl (b == c)) H) := by
 intro pins s σ H x y v u Q I rx ry h
 obtain ⟨b, c, rfl, rfl, q⟩ := h
 cases rx; cases ry
 exact is_bool ⟨.bl _, H, I, rfl, q⟩
theorem kS : OpR X (compareOp .IsNot) (fun x y H Q => ∃ b c, x = .bl b∧y = .bl c∧Q (.bl (b != c)) H) := by
 intro pins s σ H x y v u Q I rx ry h
 obtain ⟨b, c, rfl, rfl, q⟩ := h
 cases rx; cases ry
 exact isnot_bool ⟨.bl _, H, I, rfl, q⟩
def Sm (i : Int) : Prop := i.natAbs<2 ^ 8000
theorem Sm.log {i : Int} (h : Sm i) : i.natAbs.log2<8000 := by
 by_cases h0 : i.natAbs=0
 ·rw [h0]; decide
 ·exact (Nat.log2_lt h0).mpr h
def CDivB (i j : Int) : Prop := 0<j∧Sm j
theorem mm : OpR X (binaryOp .FloorDiv) (rI CDivB fun i j => .int (i / j)) := opI fun i j _ _ _ _ _ hc q => by
 refine floordiv_int (Int.ne_of_gt hc.1) ?_ (.inl (PyProof.noPylong_of_log2 (Nat.lt_of_lt_of_le hc.2.log (by decide))))
 rw [Int.fdiv_eq_ediv_of_nonneg _ (Int.le_of_lt hc.1)]
 exact q
end
theorem aZ : bootBuiltins "len" = some (.builtin "len") := by decide +kernel
theorem gY : bootBuiltins "max" = some (.builtin "max") := by decide +kernel
theorem eN : bootBuiltins "min" = some (.builtin "min") := by decide +kernel
theorem aE : bootBuiltins "isinstance" = some (.builtin "isinstance") := by decide +kernel
theorem gs : bootBuiltins "sorted" = some (.builtin "sorted") := by decide +kernel
theorem qv : bootBuiltins "any" = some (.builtin "any") := by decide +kernel
theorem jL : bootBuiltins "repr" = some (.builtin "repr") := by decide +kernel
theorem mQ : bootBuiltins "range" = some (.type "range") := by decide +kernel
theorem mJ : bootBuiltins "int" = some (.type "int") := by decide +kernel
theorem gX : bootBuiltins "bool" = some (.type "bool") := by decide +kernel
theorem fE : bootBuiltins "tuple" = some (.type "tuple") := by decide +kernel
theorem cW : bootBuiltins "list" = some (.type "list") := by decide +kernel
theorem ic : bootBuiltins "enumerate" = some (.type "enumerate") := by decide +kernel
section
variable {X : Cx} {pins : List (Addr×Obj)} {σ : St} {H : Hp} {s : Shared} {pos : Pos}
theorem Inv.big (I : Inv X pins σ H s) : sysModules<s.heap.objs.size := by
 obtain ⟨o, es, ep, e, _⟩ := I.ok.mod.glob
 have h1 := Heap.lt_size (I.bk _ _ e)
 exact Nat.lt_of_le_of_lt (by decide) h1
theorem lu {P : Program} {w : World} {H : Hp} (h : Heap) (hb : sysModules<h.objs.size) : aS P w H (h.push { cls := .type "dict", data := .dict #[] }) h.objs.size (.dK []) :=
 ⟨Nat.zero_le _, beq_eq_false_iff_ne.mpr (Ne.symm (Nat.ne_of_lt hb)), [], .nil, Heap.DictOf.new h⟩
def re : TE := fun _ H Q => ∀ p, H p=none→Q (.ref p) (upd H p (.dK []))
theorem lm : PE X (.Dict [] [] pos) re := ⟨fun pins s σ H Q I h =>
 wpAny_Dict_empty ⟨.ref s.heap.objs.size, _, I.laid (a := s.heap.objs.size) (o := .dK []) (t' := s.toks) (fun _ _ q => Heap.get?_push_of_some _ q) (Nat.le_refl _) (lu s.heap I.big), rfl, h _ (I.hok.fresh (Nat.le_refl _))⟩⟩
end
end L2
namespace L2
open PySem
theorem bB {i : Int} {n : Nat} (h : i.natAbs≤n) (hn : n<2 ^ 8000) : Sm i := Nat.lt_of_le_of_lt h hn
end L2
namespace L2
open PySem PySem.Spec PyProof.Rows
def CL (env : Env) : List (Str×Addr)→Prop
 | [] => True
 | p :: r => env.cells.lookup p.1=some p.2∧CL env r
theorem CL.get {env : Env} : ∀ {cl : List (Str×Addr)}, CL env cl→∀ {x : Str} {c : Addr}, cl.lookup x=some c→env.cells.lookup x=some c
 | [], _, x, c, h => by simp at h
 | (y, d) :: r, h, x, c, e => by
  rw [List.lookup_cons] at e
  cases hx : x == y with
  | true =>
   rw [hx] at e
   have e1 : x=y := by simpa using hx
   have e2 : d=c := Option.some.inj e
   subst e1 e2
   exact h.1
  | false =>
   rw [hx] at e
   exact CL.get h.2 e
theorem cK {env : Env} : ∀ {names : List (Str×NameKind)} {x : Str} {k : NameKind},
 (names.map fun (n, k) => if (k == NameKind.free&&env.scope.kind == .function&&env.kindOf n == some .cell) then (n, NameKind.cell) else (n, k)).lookup x=some k →
 ∃ k', names.lookup x=some k'∧(k'=k∨(k' = .free∧k = .cell))
 | [], x, k, h => by simp at h
 | (n, kn) :: r, x, k, h => by
  have ih := @cK env r x k
  by_cases hc : (kn == NameKind.free&&env.scope.kind == .function&&env.kindOf n == some .cell)=true
  ·have h' : List.lookup x ((n, NameKind.cell) :: (r.map fun (n, k) => if (k == NameKind.free&&env.scope.kind == .function&&env.kindOf n == some .cell) then (n, NameKind.cell) else (n, k)))=some k := by
    rw [List.map_cons] at h
    simp only [hc, if_true] at h
    exact h
   rw [List.lookup_cons] at h' ⊢
   cases hx : x == n with
   | true =>
    rw [hx] at h'
    have : kn = .free := by
     simp only [Bool.and_eq_true, beq_iff_eq] at hc
     exact hc.1.1
    exact ⟨kn, rfl, .inr ⟨this, (Option.some.inj h').symm⟩⟩
   | false => rw [hx] at h'; exact ih h'
  ·have h' : List.lookup x ((n, kn) :: (r.map fun (n, k) => if (k == NameKind.free&&env.scope.kind == .function&&env.kindOf n == some .cell) then (n, NameKind.cell) else (n, k)))=some k := by
    rw [List.map_cons] at h
    simp only [hc] at h
    exact h
   rw [List.lookup_cons] at h' ⊢
   cases hx : x == n with
   | true => rw [hx] at h'; exact ⟨kn, rfl, .inl (Option.some.inj h')⟩
   | false => rw [hx] at h'; exact ih h'
def a_ (X : Cx) (scope : Scope) (cl : List (Str×Addr)) (N : List Str) (C : Addr) (s₀ : Shared) (H₀ : Hp) (ex : List Addr) : Cx where
 prog := X.prog
 w := X.w
 K := X.K
 mg := X.mg
 base := X.base
 A := X.A
 N := N
 s₀ := s₀
 H₀ := H₀
 env := compEnvC scope cl C X.env
 outer := X.stack
 stack := X.stack
 ex := ex
 fn := fun _ => false
 calm := X.calm
 pn := []
 xe := fun _ _ => False
def okJ (X : Cx) (scope : Scope) (j : Nat) : Bool := match X.N[j]? with
 | some x => (match X.env.scope.names.lookup x with | some .cell => true | _ => false)&&(match scope.names.lookup x with | some .free => true | _ => false)
 | none => false
def bi (own : List Str) (js : List Nat) (σ : St) : St := own.map (fun _ => none)++js.map fun j => (σ[j]?).getD none
def bY (X : Cx) (own : List Str) (js : List Nat) : List Str := own++js.map fun j => (X.N[j]?).getD (Str.ofString "")
structure CompOk (X : Cx) (scope : Scope) (cl : List (Str×Addr)) (own : List Str) (js : List Nat) : Prop where
 clos : closureFor scope X.env=pure cl
 kind : scope.kind = .function
 names : ∀ x∈scope.names, x.2 = .local→scope.names.lookup x.1=some .local
 ncell : (scope.names.all fun y => match y.2 with | .cell => false | _ => true)=true
 has : (scope.names.all fun y => match y.2 with | .free => (cl.lookup y.1).isSome | _ => true)=true
 cells : CL X.env cl
 js : js.all (okJ X scope)=true
theorem CompOk.nc {X : Cx} {scope : Scope} {cl : List (Str×Addr)} {own : List Str} {js : List Nat} (c : CompOk X scope cl own js) : ∀ y∈scope.names, y.2 ≠ .cell := fun y hy e => by
 have := List.all_eq_true.mp c.ncell y hy
 rw [e] at this
 cases this
theorem CompOk.fr {X : Cx} {scope : Scope} {cl : List (Str×Addr)} {own : List Str} {js : List Nat} (c : CompOk X scope cl own js) {x : Str} (h : scope.names.lookup x=some .free) : ∃ d, cl.lookup x=some d := by
 have := List.all_eq_true.mp c.has (x, .free) (PySem.mem_of_lookup h)
 exact Option.isSome_iff_exists.mp this
section
variable {X : Cx} {pins : List (Addr×Obj)} {σ : St} {H : Hp} {s : Shared} {scope : Scope} {cl : List (Str×Addr)} {own : List Str} {js : List Nat}
theorem jf {h1 : Heap} {C : Addr} {fp : List Addr} {t' : Nat} (c : CompOk X scope cl own js) (I : Inv X pins σ H s) (hf : ∀ b∈fp, hX X pins H b) (hlt : ∀ b∈fp, b<s.heap.objs.size)
 (hC : s.heap.objs.size≤C) (hk : ∀ b o, s.heap.get? b=some o→h1.get? b=some o) (hn : h1.Ns C fun _ => none) :
 Inv (a_ X scope cl (bY X own js) C s H fp) [] (bi own js σ) H { s with heap := h1, toks := t' } := by
 have kindOfY : ∀ x k, (a_ X scope cl (bY X own js) C s H fp).env.kindOf x=some k→∃ k', scope.names.lookup x=some k'∧(k'=k∨(k' = .free∧k = .cell)) := fun x k e => cK (env := X.env) (names := scope.names) e
 refine ⟨⟨I.ok.mod, c.kind, I.ok.glob, I.ok.blt, hC, fun x y d h1 h2 => I.ok.inj x y d (c.cells.get h1) (c.cells.get h2), fun x hx => ?_, fun x d h => (by cases h), I.ok.hd, I.ok.frames, .inl rfl, fun b hb => ⟨?_, fun x d e => (hf b hb).2.2.2.2.1 x d (c.cells.get e)⟩,
  fun b o e => I.bs b o e, Nat.le_trans I.ok.bsz I.sz, fun b o e hb => ?_, fun b hb z => ?_, I.stack, I.stkFree, I.ok.tb.un I.base⟩, rfl, I.bare, Un.kept hk, ⟨_, hn, fun i x v e1 e2 e3 => ?_⟩, fun x d e => ?_, I.hok.fresh hC, fun x d e => I.freeC x d (c.cells.get e), fun p hp => (by cases hp), I.hok.kept hk, ?_⟩
 ·rcases hx with hx | hx
  ·obtain ⟨k', e1, e2⟩ := kindOfY x _ hx
   rcases e2 with e2 | ⟨e2, _⟩
   ·exact absurd e2 (c.nc _ (PySem.mem_of_lookup e1))
   ·subst e2; exact c.fr e1
  ·obtain ⟨k', e1, e2⟩ := kindOfY x _ hx
   rcases e2 with e2 | ⟨_, e2⟩
   ·subst e2; exact c.fr e1
   ·cases e2
 ·exact Nat.ne_of_lt (Nat.lt_of_lt_of_le (hlt b hb) hC)
 ·rcases (hf b hb).2.2.2.1 with z | z
  ·exact I.ok.noex b o e z
  ·exact absurd (Nat.lt_of_lt_of_le (Heap.lt_size e) (Nat.le_trans I.ok.bsz z)) (Nat.lt_irrefl _)
 ·rcases List.mem_cons.mp (I.stkSub b z) with q | q
  ·exact (hf b hb).2.1 q
  ·exact (hf b hb).2.2.1 q
 ·-- a name taken from the frame
  have e1 : (bY X own js)[i]? = some x := e1
  unfold bY at e1
  unfold bi at e2
  by_cases hi : i<own.length
  ·rw [List.getElem?_append_left (by simpa using hi), List.getElem?_map, List.getElem?_eq_getElem hi] at e2
   cases e2
  ·rw [List.getElem?_append_right (by simpa using Nat.not_lt.mp hi), List.getElem?_map, List.length_map] at e2
   rw [List.getElem?_append_right (Nat.not_lt.mp hi), List.getElem?_map] at e1
   cases ej : js[i - own.length]? with
   | none => rw [ej] at e2; cases e2
   | some j =>
    rw [ej] at e1 e2
    have hj := List.all_eq_true.mp c.js j (List.mem_of_getElem? ej)
    unfold okJ at hj
    have e1' : (X.N[j]?).getD (Str.ofString "")=x := Option.some.inj e1
    have e2' : (σ[j]?).getD none=some v := Option.some.inj e2
    cases en : X.N[j]? with
    | none => rw [en] at hj; cases hj
    | some y =>
     rw [en] at hj e1'
     have e1'' : y=x := e1'
     subst e1''
     have hv : σ[j]? = some (some v) := by
      cases es : σ[j]? with
      | none => rw [es] at e2'; cases e2'
      | some ov => rw [es] at e2'; rw [show ov=some v from e2']
     dsimp only at hj
     rw [Bool.and_eq_true] at hj
     have k1 : X.env.scope.names.lookup y=some .cell := by
      have := hj.1
      split at this
      ·assumption
      ·cases this
     have k2 : scope.names.lookup y=some .free := by
      have := hj.2
      split at this
      ·assumption
      ·cases this
     obtain ⟨m, _, hl⟩ := I.loc
     obtain ⟨u, ru, l⟩ := hl j y v en hv (.inr (.inl k1))
     refine ⟨u, ru, ?_⟩
     rcases l with ⟨l, _⟩ | ⟨_, d, ed, z⟩
     ·rw [show X.env.kindOf y=some .cell from k1] at l; cases l
     ·obtain ⟨d', ed'⟩ := c.fr k2
      have := c.cells.get ed'
      rw [ed] at this
      cases this
      obtain ⟨o, ho, hd⟩ := z
      refine .inr ⟨?_, d, ed', ⟨o, hk _ _ ho, hd⟩⟩
      have e3 : (a_ X scope cl (bY X own js) C s H fp).env.scope.names.lookup y=some .local∨(a_ X scope cl (bY X own js) C s H fp).env.scope.names.lookup y=some .cell∨(a_ X scope cl (bY X own js) C s H fp).env.scope.names.lookup y=some .free := e3
      rcases e3 with e3 | e3 | e3
      ·obtain ⟨k', q1, q2⟩ := kindOfY y _ e3
       rw [k2] at q1
       cases q1
       rcases q2 with q2 | ⟨_, q2⟩ <;> cases q2
      ·exact .inl e3
      ·exact .inr e3
 ·obtain ⟨v, o, ho, hd⟩ := I.cell x d (c.cells.get e)
  exact ⟨v, o, hk _ _ ho, hd⟩
 ·show (bi own js σ).length=(bY X own js).length
  unfold bi bY
  simp
structure PIf (X : Cx) (ifs : List Expr) (t : TT) : Prop where
 go : ∀ (pins : List (Addr×Obj)) (s : Shared) (σ : St) (H : Hp) (Q : Bool→Hp→Prop), Inv X pins σ H s→t σ H Q →
  wpAny (model X.prog X.w) X.A (forIn ifs true fun c r => if r=true then do let ok ← isTrue c X.env (eval c X.env); pure (ForInStep.yield ok) else pure (ForInStep.yield r)) (TP X pins σ Q) X.xe s
def tYes : TT := fun _ H Q => Q true H
theorem nX : PIf X [] tYes := ⟨fun pins s σ H Q I h => wpAny_tests_nil ⟨H, I, h⟩⟩
theorem oT {c : Expr} {t : TT} (h : PT X c t) : PIf X [c] t := ⟨fun pins s σ H Q I q => wpAny_tests_one (h.go pins s σ H Q I q)⟩
theorem dn {prog : Program} {w : World} {A : Around} {R : Result→Shared→Prop} {s : Shared} {elt target iter : Expr} {ifs : List Expr} {scope : Scope} {pos : Pos} {it acc : Value} {env : Env} (I : Nat→Shared→Prop)
 (turn : ∀ n s, I n s→wpAny (model prog w) A (pyNext it) (fun r s₁ => match r with
  | none => R (.ok .next) s₁
  | some v => wpAny (model prog w) A (letOwnedTupleGo target it v) (fun _ s₁ => wpAny (model prog w) A (assign target env v) (fun _ s₂ =>
   wpAny (model prog w) A (forIn ifs true fun c r => if r=true then do let ok ← isTrue c env (eval c env); pure (ForInStep.yield ok) else pure (ForInStep.yield r)) (fun ok s₃ =>
    if ok=true then wpAny (model prog w) A (eval elt env) (fun x s₄ =>
     wpAny (model prog w) A (call (.builtin "list.append") [acc, x]) (fun _ s₅ => ∃ m, m<n∧I m s₅) (fun _ _ => False) s₄) (fun _ _ => False) s₃
    else ∃ m, m<n∧I m s₃) (fun _ _ => False) s₂) (fun _ _ => False) s₁) (fun _ _ => False) s₁) (fun _ _ => False) s)
 (n : Nat) (h : I n s) :
 codeAny (model prog w) A (.compLoop (.ListComp elt [⟨target, iter, ifs, 0⟩] scope pos) 0 it acc env) R s := by
 refine codeAny_loop rfl I (fun n s hI => ?_) n h
 show wpAny _ A ((compTurn (.ListComp elt [⟨target, iter, ifs, 0⟩] scope pos) 0 it acc env).onRaise (fun x => do noteFrame x env; theTreesLotGoes x)) _ _ s
 refine wpAny_noted ?_
 rw [compTurn_list]
 refine wpAny_bind (wpAny_standAt (wpAny_bind (wpAny_mono (turn n s hI) (fun r s₁ h₁ => ?_) fun _ _ h' => h'.elim)))
 cases r with
 | none => exact wpAny_pure h₁
 | some v =>
  refine wpAny_bind (wpAny_mono h₁ (fun _ s₁ h₁ => ?_) fun _ _ h' => h'.elim)
  refine wpAny_bind (wpAny_mono h₁ (fun _ s₂ h₂ => wpAny_bind (wpAny_mono h₂ (fun ok s₃ h₃ => ?_) fun _ _ h' => h'.elim)) fun _ _ h' => h'.elim)
  cases ok with
  | false => exact wpAny_pure ⟨rfl, h₃⟩
  | true =>
   exact wpAny_bind (wpAny_bind (wpAny_mono h₃ (fun x s₄ h₄ => wpAny_bind (wpAny_mono h₄ (fun _ s₅ h₅ => wpAny_pure (wpAny_pure ⟨rfl, h₅⟩)) fun _ _ h' => h'.elim)) fun _ _ h' => h'.elim))
def kept : St→St→Prop
 | [], [] => True
 | none :: r, _ :: r' => kept r r'
 | some v :: r, y :: r' => y=some v∧kept r r'
 | [], _ :: _ => False
 | _ :: _, [] => False
theorem dX : ∀ {a b : St}, kept a b→a.length=b.length
 | [], [], _ => rfl
 | none :: r, _ :: r', h => congrArg (· + 1) (dX (a := r) (b := r') h)
 | some v :: r, y :: r', h => congrArg (· + 1) (dX (a := r) (b := r') h.2)
 | [], _ :: _, h => False.elim h
 | none :: _, [], h => False.elim h
 | some _ :: _, [], h => False.elim h
theorem cU : ∀ {a b : St}, kept a b→∀ (i : Nat) (v : V), a[i]? = some (some v)→b[i]? = some (some v)
 | [], [], _, i, v, e => by simp at e
 | none :: r, _ :: r', h, 0, v, e => by simp at e
 | none :: r, _ :: r', h, i + 1, v, e => by simpa using cU (a := r) (b := r') h i v (by simpa using e)
 | some w :: r, y :: r', h, 0, v, e => by simp at e; subst e; simp [h.1]
 | some w :: r, y :: r', h, i + 1, v, e => by simpa using cU (a := r) (b := r') h.2 i v (by simpa using e)
 | [], _ :: _, h, _, _, _ => False.elim h
 | none :: _, [], h, _, _, _ => False.elim h
 | some _ :: _, [], h, _, _, _ => False.elim h
def j8 (J : It) (g : TG) (tt : TT) (te : TE) (σ0 : St) (H : Hp) (Z : List V→Hp→Prop) : Prop :=
 ∃ W : Nat→Nat→List V→Hp→Prop, (∃ m, W 0 m [] H)∧∀ i m acc H, W i m acc H →
  (J.stop i H∧acc.length≤sizeLine∧Z acc H)∨(J.go i H∧acc.length<sizeLine∧∃ N : List V→Hp→Prop, (∀ acc' H', N acc' H'→∃ m', m'<m∧W (i + 1) m' acc' H') ∧
   ∀ x H', J.yld i H x H'→g x σ0 H' fun σ2 H2 => kept σ0 σ2∧tt σ2 H2 fun b H3 => if b=true then te σ2 H3 fun v H4 => N (acc++[v]) H4 else N acc H3)
theorem HOk.adopt {P : Program} {w : World} {H : Hp} {h : Heap} {a : Addr} {o : HO} (x : HOk P w H h) (hn : H a=none) (new : aS P w (upd H a o) h a o) : HOk P w (upd H a o) h := fun b u e => by
 by_cases hb : b=a
 ·subst hb; rw [aA] at e; cases e; exact new
 ·rw [ao hb] at e
  exact (x b u e).stay (fun c v _ q => q) (fun c q => by rw [ao (aw q hn)]; exact q) (fun c xs q => by rw [ao (aw q hn)]; exact q) fun c ob u q => by rw [ao (aw q hn)]; exact q
theorem gu {elt tg iter : Expr} {ifs : List Expr} {pos : Pos} {J : It} {fp : List Addr} {it : Addr} {tn : Nat→Heap→Prop} {g : TG} {tt : TT} {te : TE} {Z : List V→Hp→Prop} {E : Value→Shared→Prop}
 {RR : Value→Addr→Result→Shared→Prop} (c : CompOk X scope cl own js) (hc : X.calm=true) (I : Inv X pins σ H s) (T : Turn X.prog X.w X.K tg J fp it tn) (t0 : tn 0 s.heap) (hf : ∀ b∈fp, hX X pins H b)
 (inner : ∀ (C : Addr) (s₀ : Shared) (H₀ : Hp) (ex : List Addr), PG (a_ X scope cl (bY X own js) C s₀ H₀ ex) tg g∧PIf (a_ X scope cl (bY X own js) C s₀ H₀ ex) ifs tt∧PE (a_ X scope cl (bY X own js) C s₀ H₀ ex) elt te)
 (hW : j8 J g tt te (bi own js σ) H Z)
 (hRR : ∀ (D C : Addr) (s' : Shared) (acc : List V) (H' : Hp), (∃ m, s'.heap.Ns C m)→H' D=none→Z acc H'→s.heap.objs.size≤C→C ≠ X.env.locals→(upd H' D (.lst acc)) C=none→(∀ h', Heap.SameBut C s'.heap h'→Inv X pins σ (upd H' D (.lst acc)) { s' with heap := h' })→RR (.ref D) C (.ok .next) s') :
 wpAny (model X.prog X.w) X.A (newList []) (fun acc s₃ => wpAny (model X.prog X.w) X.A (newFunctionEnv scope X.env.globals cl [] X.env.qual none .none (some X.env)) (fun cenv s₄ =>
  codeAny (model X.prog X.w) X.A (.compStart (.ListComp elt [⟨tg, iter, ifs, 0⟩] scope pos) 0 (.ref it) acc { cenv with scope := relabel scope X.env }) (RR acc cenv.locals) s₄) E s₃) E s := by
 refine wpAny_newObj_type (wpAny_newFunctionEnv c.nc (by intro y hy; simp at hy) (fun h₁ hns₁ hsb₁ => ?_) c.kind)
 dsimp only at hns₁ hsb₁ ⊢
 generalize hH2 : s.heap.push { cls := .type "list", dict := none, data := .seq ([] : List Value).toArray } = H2 at hns₁ hsb₁ ⊢
 have hCs : H2.objs.size=s.heap.objs.size + 1 := by rw [← hH2, Heap.size_push]
 have hns₁ : h₁.Ns H2.objs.size (fun _ => none) := hns₁
 have hCle : s.heap.objs.size≤H2.objs.size := by rw [hCs]; exact Nat.le_succ _
 have hDC : s.heap.objs.size ≠ H2.objs.size := by rw [hCs]; exact Nat.ne_of_lt (Nat.lt_succ_self _)
 have below : ∀ b, b<s.heap.objs.size→b ≠ H2.objs.size∧b ≠ s.heap.objs.size := fun b hb => ⟨by rw [hCs]; exact Nat.ne_of_lt (Nat.lt_succ_of_lt hb), Nat.ne_of_lt hb⟩
 have old : ∀ b o, s.heap.get? b=some o→h₁.get? b=some o := fun b o e => hsb₁.extBut b o (below b (Heap.lt_size e)).1 (Heap.get?_push_of_some _ (hH2 ▸ Heap.get?_push_of_some _ e))
 have hD1 : h₁.get? s.heap.objs.size=some { cls := .type "list", data := .seq ([] : List Value).toArray } := hsb₁.extBut _ _ hDC (Heap.get?_push_of_some _ (hH2 ▸ Heap.get?_push_size _ rfl))
 have hlt : ∀ b∈fp, b<s.heap.objs.size := fun b hb => by
  obtain ⟨o, e, _⟩ := T.obj 0 _ t0 b hb
  exact Heap.lt_size e
 have hCL : H2.objs.size ≠ X.env.locals := fun z => absurd (Nat.lt_of_lt_of_le I.lt (by rw [← z]; exact hCle)) (Nat.lt_irrefl _)
 have hDfs : s.heap.objs.size ∉ frs X.stack := fun z => by
  rcases List.mem_cons.mp (I.stkSub _ z) with q | q
  ·exact absurd I.lt (by rw [← q]; exact Nat.lt_irrefl _)
  ·exact I.nofs (Nat.le_refl _) q
 have hfs : ∀ b∈fp, b ∉ frs X.stack := fun b hb z => by
  rcases List.mem_cons.mp (I.stkSub b z) with q | q
  ·exact (hf b hb).2.1 q
  ·exact (hf b hb).2.2.1 q
 have hDcell : ∀ x d, cl.lookup x=some d→d ≠ s.heap.objs.size := fun x d e => by
  obtain ⟨v, q⟩ := I.cell x d (c.cells.get e)
  exact Nat.ne_of_lt q.lt
 have fresh : H s.heap.objs.size=none := I.hok.fresh (Nat.le_refl _)
 obtain ⟨W, ⟨m0, w0⟩, turn⟩ := hW
 have loop : ∀ s₃ : Shared, s₃ = { s with heap := h₁, toks := s.toks + ([] : List (Str×Value)).length } →
  codeAny (model X.prog X.w) X.A (.compLoop (.ListComp elt [⟨tg, iter, ifs, 0⟩] scope pos) 0 (.ref it) (.ref s.heap.objs.size) (compEnvC scope cl H2.objs.size X.env)) (RR (.ref s.heap.objs.size) H2.objs.size) s₃ := by
  rintro s₃ rfl
  have I0 := jf (t' := s.toks + ([] : List (Str×Value)).length) c I hf hlt hCle old hns₁
  obtain ⟨hg, hi, he⟩ := inner H2.objs.size s H fp
  generalize hY : a_ X scope cl (bY X own js) H2.objs.size s H fp=Y at I0 hg hi he
  have Yp : Y.prog=X.prog := by rw [← hY]; rfl
  have Yw : Y.w=X.w := by rw [← hY]; rfl
  have YK : Y.K=X.K := by rw [← hY]; rfl
  have YA : Y.A=X.A := by rw [← hY]; rfl
  have Ye : Y.env=compEnvC scope cl H2.objs.size X.env := by rw [← hY]; rfl
  have Yl : Y.env.locals=H2.objs.size := by rw [← hY]; rfl
  have Yc : Y.env.cells=cl := by rw [← hY]; rfl
  have Yf : Y.fs=frs X.stack := by rw [← hY]; rfl
  have Yx : Y.ex=fp := by rw [← hY]; rfl
  have Ys : Y.s₀=s := by rw [← hY]; rfl
  have YH : Y.H₀=H := by rw [← hY]; rfl
  have Yn : Y.pn=[] := by rw [← hY]; rfl
  have Yo : Y.calm=true := by rw [← hY]; exact hc
  have YE : Y.xe=fun _ _ => False := by rw [← hY]; rfl
  have fpY : ∀ {H' : Hp} (pn : List (Addr×Obj)), (∀ b∈fp, H' b=none)→(∀ b∈fp, ∀ p∈pn, p.1 ≠ b)→∀ b∈fp, hX Y pn H' b := fun pn hn hp b hb =>
   ⟨hn b hb, by rw [Yl]; exact (below b (hlt b hb)).1, by rw [Yf]; exact hfs b hb, .inl (by rw [Yx]; exact hb), fun x d e => (hf b hb).2.2.2.2.1 x d (c.cells.get (by rw [← Yc]; exact e)), fun p hp' => hp b hb p (by rw [Yn] at hp'; exact hp')⟩
  refine dn (fun n s' => ∃ i acc its k H', Inv Y [] (bi own js σ) H' s'∧tn i s'.heap∧(∀ b∈fp, H' b=none)∧W i n acc H'∧H' s.heap.objs.size=none∧s'.heap.get? s.heap.objs.size=some { cls := .type "list", data := .seq (its : List Value).toArray k } ∧ aF acc its) ?_ m0
   ⟨0, [], [], 0, H, I0, T.keep 0 _ _ t0 (fun b hb o e => old b o e), fun b hb => (hf b hb).1, w0, fresh, hD1, .nil⟩
  rintro n s' ⟨i, acc, its, k, H', I', tn', fr', w', hD', oD', hv'⟩
  have hpinD : ∀ b∈fp, ∀ p∈[(s.heap.objs.size, ({ cls := .type "list", data := .seq its.toArray k } : Obj))], p.1 ≠ b := fun b hb p hp => by
   rw [List.mem_singleton] at hp
   subst hp
   exact fun z => (below b (hlt b hb)).2 z.symm
  have ID : Inv Y [(s.heap.objs.size, ({ cls := .type "list", data := .seq its.toArray k } : Obj))] (bi own js σ) H' s' := I'.pins_of fun p hp => by
   rw [List.mem_singleton] at hp
   subst hp
   exact ⟨oD', hD', by rw [Yl]; exact hDC, by rw [Yf]; exact hDfs, fun v z => by cases z⟩
  rcases turn i n acc H' w' with ⟨stop, hlen, hz⟩ | ⟨go, hlen, N, hN, step⟩
  ·have hd := T.done Y Yp Yw YK Yo i _ s' (bi own js σ) H' (fun _ _ => False) ID (fpY _ fr' hpinD) tn' stop
   rw [YA] at hd
   refine thn hd fun r s1 ⟨hr, I1⟩ => ?_
   subst hr
   obtain ⟨oD1, _⟩ := I1.pin _ (List.mem_append_right _ (List.mem_singleton.mpr rfl))
   have hC0 : H' H2.objs.size=none := by have := I1.free; rw [Yl] at this; exact this
   have B1 : Un (frs X.stack) fp H H' s.heap s1.heap := by have := I1.base; rw [Yf, Yx, YH, Ys] at this; exact this
   refine hRR s.heap.objs.size H2.objs.size s1 acc H' (by obtain ⟨m, hn, _⟩ := I1.loc; rw [Yl] at hn; exact ⟨m, hn⟩) hD' hz hCle hCL (by rw [ao (Ne.symm hDC)]; exact hC0) fun h' hsb => ?_
   have at' : ∀ b o, b ≠ H2.objs.size→s1.heap.get? b=some o→h'.get? b=some o := fun b o hb e => by rw [hsb.2 b hb]; exact e
   refine I.call' (s' := { s1 with heap := h' }) (ch := fp) (by have := I1.os; rw [Ys] at this; exact this) ⟨fun b o q nn hb hx => ?_, fun b o q nn hb hx => ?_, fun b o q nn hx => ?_, fun b o q hx => ?_, fun b xs q => ?_, fun b o u q => ?_, fun b ps q0 q => ?_⟩ ?_ I1.bare fun b hb => ⟨(hf b hb).2.2.2.1, (hf b hb).2.1, (hf b hb).2.2.2.2.1, (hf b hb).2.2.2.2.2⟩
   ·exact at' b o (below b (Heap.lt_size q)).1 (B1.keep b o q nn hb hx)
   ·obtain ⟨sl, e⟩ := B1.slot b o q nn hb hx
    exact ⟨sl, at' b _ (below b (Heap.lt_size q)).1 e⟩
   ·rw [ao (below b (Heap.lt_size q)).2]; exact B1.free b o q nn hx
   ·obtain ⟨o', e⟩ := B1.there b o q hx
    exact ⟨o', at' b _ (below b (Heap.lt_size q)).1 e⟩
   ·have q' := B1.tups b xs q
    rw [ao (aw q' hD')]; exact q'
   ·have q' := B1.frzs b o u q
    rw [ao (aw q' hD')]; exact q'
   ·obtain ⟨more, q'⟩ := B1.tbls b ps _ q
    exact ⟨more, by rw [ao (aw q' hD')]; exact q'⟩
   ·have hok1 : HOk X.prog X.w H' h' := fun a o e => by
     have hok := I1.hok
     rw [Yp, Yw] at hok
     refine (hok a o e).stay (fun b u hb q => at' b u ?_ q) (fun _ q => q) (fun _ _ q => q) fun _ _ _ q => q
     rcases hb with rfl | hb
     ·exact aw e hC0
     ·exact aw hb hC0
    exact hok1.adopt hD' ⟨hlen, its, k, hv', at' _ _ hDC oD1⟩
  ·have hd := T.item Y Yp Yw YK Yo i _ s' (bi own js σ) H' (fun _ _ => False) ID (fpY _ fr' hpinD) tn' go
   rw [YA] at hd
   refine thn hd fun r s1 ⟨u, hr, h4⟩ => ?_
   subst hr
   have h4 := h4
   refine thn h4 fun _ s2 ⟨x, H5, I5, r5, y5, tn5, fr5⟩ => ?_
   have I5' := I5.pinned (fpY _ fr5 hpinD) (T.obj _ _ tn5)
   have hg' := hg.go _ s2 _ H5 x u _ I5' r5 (step x H5 y5)
   rw [Yp, Yw, YA, Ye, YE] at hg'
   refine thn hg' fun _ s3 ⟨σ6, H6, I6, kp6, q6⟩ => ?_
   have hi' := hi.go _ s3 σ6 H6 _ I6 q6
   rw [Yp, Yw, YA, Ye, YE] at hi'
   refine thn hi' fun ok s4 ⟨H7, I7, q7⟩ => ?_
   cases ok with
   | false =>
    rw [if_neg Bool.false_ne_true] at q7 ⊢
    obtain ⟨m', hm, w7⟩ := hN _ _ q7
    obtain ⟨oD7, hD7, _⟩ := I7.pin _ (List.mem_append_right _ (List.mem_append_left _ (List.mem_singleton.mpr rfl)))
    refine ⟨m', hm, i + 1, acc, its, k, H7, (I7.pins_of (pins' := []) fun p hp => (by cases hp)).weak (dX kp6) (cU kp6), T.keep _ _ _ tn5 fun b hb o e => (I7.pin (b, o) (List.mem_append_right _ (List.mem_append_right _ (bF hb e)))).1, fun b hb => ?_, w7, hD7, oD7, hv'⟩
    obtain ⟨o, e, _⟩ := T.obj _ _ tn5 b hb
    exact (I7.pin (b, o) (List.mem_append_right _ (List.mem_append_right _ (bF hb e)))).2.1
   | true =>
    rw [if_pos rfl] at q7 ⊢
    have he' := he.go _ s4 σ6 H7 _ I7 q7
    rw [Yp, Yw, YA, Ye, YE] at he'
    refine thn he' fun v s5 ⟨xv, H8, I8, r8, n8⟩ => ?_
    obtain ⟨m', hm, w8⟩ := hN _ _ n8
    obtain ⟨oD8, hD8, _⟩ := I8.pin _ (List.mem_append_right _ (List.mem_append_left _ (List.mem_singleton.mpr rfl)))
    have hsz : its.toArray.size<sizeLine := by rw [List.size_toArray, ← hv'.length]; exact hlen
    refine call_meets F.slot_list_append ⟨_, oD8, rfl⟩ F.entry_list_append (F.args_list_append_2 _ _) (PySem.list_append s.heap.objs.size its.toArray k v (Nat.le_of_lt hsz)) ⟨oD8, ?_⟩
    have q := PySem.IsL.update oD8 (fun a => a.push v)
    have J8 : Inv Y (fO fp s2.heap) σ6 H8 s5 := I8.pins_of fun p hp => I8.pin p (List.mem_append_right _ (List.mem_append_right _ hp))
    have ne8 : ∀ b, b∈fp→b ≠ s.heap.objs.size := fun b hb => (below b (hlt b hb)).2
    have J9 := J8.turned (t' := s5.toks) (h' := s5.heap.update s.heap.objs.size (Obj.mapSeq fun a => a.push v)) (it := s.heap.objs.size) (fun b o hb e => (Heap.get?_update_other s5.heap _ (Ne.symm hb)).trans e) hD8 (by rw [Yl]; exact hDC) (.inr (by rw [Ys]; exact Nat.le_refl _)) (fun x d e => hDcell x d (by rw [← Yc]; exact e))
     (fun p hp => by
      rw [Yn, List.nil_append] at hp
      obtain ⟨hb, _⟩ := gC hp
      exact ne8 _ hb)
    have keep9 : ∀ b o, b∈fp→s2.heap.get? b=some o→(s5.heap.update s.heap.objs.size (Obj.mapSeq fun a => a.push v)).get? b=some o := fun b o hb e => (J9.pin (b, o) (List.mem_append_right _ (bF hb e))).1
    refine ⟨m', hm, i + 1, acc++[xv], its++[v], (if ((its++[v]).toArray.size == its.toArray.size)=true then k else k + 1), H8, (J9.pins_of (pins' := []) fun p hp => (by cases hp)).weak (dX kp6) (cU kp6), T.keep _ _ _ tn5 fun b hb o e => keep9 b o hb e, fun b hb => ?_, w8, hD8, ?_, hv'.append (.cons r8 .nil)⟩
    ·obtain ⟨o, e, _⟩ := T.obj _ _ tn5 b hb
     exact (J9.pin (b, o) (List.mem_append_right _ (bF hb e))).2.1
    ·have q' := q
     simp only [List.push_toArray] at q'
     exact q'
 exact codeAny_compStart_list (loop _ rfl) (T.self _ 0 _ _ _ (T.keep 0 _ _ t0 (fun b hb o e => old b o e)) (loop _ rfl))
def kd (wi : TI) (g : TG) (tt : TT) (te : TE) (own : List Str) (js : List Nat) : TE := fun σ H Q => wi σ H fun J H1 => j8 J g tt te (bi own js σ) H1 fun acc H2 => ∀ p, H2 p=none→Q (.ref p) (upd H2 p (.lst acc))
theorem j7 {elt tg iter : Expr} {ifs : List Expr} {pos : Pos} {wi : TI} {g : TG} {tt : TT} {te : TE} (own : List Str) (js : List Nat) (c : CompOk X scope cl own js) (hc : X.calm=true) (hi : PI X tg iter wi)
 (inner : ∀ (C : Addr) (s₀ : Shared) (H₀ : Hp) (ex : List Addr), PG (a_ X scope cl (bY X own js) C s₀ H₀ ex) tg g∧PIf (a_ X scope cl (bY X own js) C s₀ H₀ ex) ifs tt∧PE (a_ X scope cl (bY X own js) C s₀ H₀ ex) elt te)
 (hs : ∀ x, foldedSetIterable iter X.env x=pure x := by intro _; rfl) : PE X (.ListComp elt [⟨tg, iter, ifs, 0⟩] scope pos) (kd wi g tt te own js) := by
 refine ⟨fun pins s σ H Q I h => ?_⟩
 rw [eval_ListComp]
 refine wpAny_comprehension_free (use := none) rfl hs c.clos c.kind c.names (thn (hi.go pins s σ H _ I h) fun v s1 h1 => thn h1 fun itv s2 h2 => ?_)
 obtain ⟨it, fp, tn, J, H2, e, I2, T, st2, f2, hW⟩ := h2
 subst e
 refine gu (RR := fun acc C => compPost (model X.prog X.w) X.A X.xe none (EP X pins σ Q) acc C) c hc I2 T st2 f2 inner hW ?_
 intro D C s' acc H' hn hD hz hDC hCL hUC hI
 exact ⟨hn.choose, hn.choose_spec, fun h' hsb => ⟨.ref D, _, hI h' hsb, rfl, hz D hD⟩⟩
theorem fZ {elt tg iter : Expr} {ifs : List Expr} {pos spos py : Pos} {wi : TI} {g : TG} {tt : TT} {te : TE} {i : Nat} {y : Str} (own : List Str) (js : List Nat) (c : CompOk X scope cl own js) (hc : X.calm=true) (hN : X.N.Nodup) (hy : X.N[i]? = some y) (hx : Loc X.env.scope y) (hi : PI X tg iter wi)
 (inner : ∀ (C : Addr) (s₀ : Shared) (H₀ : Hp) (ex : List Addr), PG (a_ X scope cl (bY X own js) C s₀ H₀ ex) tg g∧PIf (a_ X scope cl (bY X own js) C s₀ H₀ ex) ifs tt∧PE (a_ X scope cl (bY X own js) C s₀ H₀ ex) elt te)
 (hsw : swapsWith (.ListComp elt [⟨tg, iter, ifs, 0⟩] scope pos) (some (.Name y py)) spos.line X.env=pure true := by rfl)
 (hs : ∀ x, foldedSetIterable iter X.env x=pure x := by intro _; rfl) (hf : X.fn y=true∨X.env.scope.names.lookup y=some .local := by first | exact .inl rfl | exact .inr rfl | assumption) :
 PS X (.Assign [.Name y py] (.ListComp elt [⟨tg, iter, ifs, 0⟩] scope pos) spos) (my (kd wi g tt te own js) (fN i)) := by
 refine ⟨fun pins s σ H D I h => ?_⟩
 rw [exec_Assign_Name_used _ _ _ _ hsw]
 refine wpAny_bind (wpAny_standAt (wpAny_bind ?_))
 show wpAny _ X.A (do let _ ← comprehension (.ListComp elt [⟨tg, iter, ifs, 0⟩] scope pos) scope X.env _ (newList []) false (eval iter X.env) (some (assign (.Name y py) X.env))) _ _ s
 refine wpAny_bind (wpAny_mono (wpAny_comprehension_free (use := some (assign (.Name y py) X.env)) (Q := fun _ s' => SP X pins D .next s') rfl hs c.clos c.kind c.names
  (thn (hi.go pins s σ H _ I h) fun v s1 h1 => thn h1 fun itv s2 h2 => ?_)) (fun _ s' hq => wpAny_pure (wpAny_pure hq)) fun _ _ e => e)
 obtain ⟨it, fp, tn, J, H2, e, I2, T, st2, f2, hW⟩ := h2
 subst e
 refine gu (RR := fun acc C => compPost (model X.prog X.w) X.A X.xe (some (assign (.Name y py) X.env)) (fun _ s' => SP X pins D .next s') acc C) c hc I2 T st2 f2 inner hW ?_
 intro D' C s' acc H' hn hD hz hDC hCL hUC hI
 show wpAny _ X.A (assign (.Name y py) X.env (.ref D')) _ _ _
 have I9 := hI s'.heap (Heap.SameBut.refl _ _)
 obtain ⟨m, hm⟩ := hn
 refine wpAny_assign_Name (gw (v := .ref D') I9 hN hy hx rfl (fun s'' I'' ⟨a, sb, ha⟩ => ?_) hf)
 have aC : C ≠ a := by
  rcases ha with ha | ha
  ·rw [ha]; exact hCL
  ·intro z
   subst z
   obtain ⟨v, q⟩ := I2.cell y C ha
   exact absurd (Nat.lt_of_lt_of_le q.lt hDC) (Nat.lt_irrefl _)
 refine ⟨m, hm.sameBut sb aC, fun h' hsb => ?_⟩
 refine ⟨σ.set i (some (.ref D')), upd H' D' (.lst acc), I''.turned (t' := s''.toks) (it := C) (fun b o hb e => by rw [hsb.2 b hb]; exact e) ?_ hCL (.inr (Nat.le_trans I2.sz hDC)) (fun x d e z => ?_) (fun p hp z => ?_), hz D' hD⟩
 ·exact hUC
 ·obtain ⟨v, q⟩ := I2.cell x d e
  rw [z] at q
  exact absurd (Nat.lt_of_lt_of_le q.lt hDC) (Nat.lt_irrefl _)
 ·have q := Heap.lt_size (I2.pin p hp).1
  rw [z] at q
  exact absurd (Nat.lt_of_lt_of_le q hDC) (Nat.lt_irrefl _)
end
def Ite (a : Addr) : It :=
 ⟨fun i H => ∃ xs x, H a=some (.lst xs)∧xs[i]? = some x, fun i H v H' => ∃ p x, H p=none∧v = .ref p∧H'=upd H p (.tup [.int i, x])∧∀ xs, H a=some (.lst xs)→xs[i]? = some x, fun i H => ∃ xs, H a=some (.lst xs)∧xs.length≤i⟩
theorem kU {P : Program} {w : World} {K : PySem.W.Frag} {es : List Expr} {k : Nat} {pos : Pos} (a e it : Addr) (hne : e ≠ it) :
 Turn P w K (.Tuple es k pos) (Ite a) [e, it] e (fun i h => (∃ old, IsEnum h e it i old)∧h.IsListIter it a i) where
 mem := by simp
 obj := fun i h st b hb => by
  rw [List.mem_cons, List.mem_singleton] at hb
  rcases hb with rfl | rfl
  ·obtain ⟨⟨old, q⟩, _⟩ := st
   exact ⟨_, q, fun v z => by cases z⟩
  ·obtain ⟨_, o, q, c, d⟩ := st
   exact ⟨o, q, fun v z => by rw [d] at z; cases z⟩
 keep := fun i h h' st kp => ⟨by obtain ⟨old, q⟩ := st.1; exact ⟨old, kp e (by simp) _ q⟩, st.2.at fun o q => kp it (by simp) o q⟩
 item := by
  intro X hP hw hK hc i pins s σ H E I hf st hg
  subst hP hw hK
  obtain ⟨xs, x, hq, hx⟩ := hg
  obtain ⟨⟨old, he⟩, hit⟩ := st
  obtain ⟨its, rv, p, hz⟩ := I.list (SqL.of hq)
  obtain ⟨u, hu, ru⟩ := rv.get hx
  obtain ⟨f0, f1, f2, f3, f4, f5⟩ := hf e (by simp)
  obtain ⟨g0, g1, g2, g3, g4, g5⟩ := hf it (by simp)
  refine wpAny_pyNext_enum_item he hit p.isList (x := u) (by simpa using hu) hne fun h' eo it' ht hsz hk => ?_
  refine ⟨.ref s.heap.objs.size, rfl, ?_⟩
  refine wpAny_letOwnedTupleGo_enum eo fun h2 he2 hs2 => ?_
  have fr : H s.heap.objs.size=none := I.hok.fresh (Nat.le_refl _)
  have ne2 : ∀ b, b<s.heap.objs.size→b ≠ s.heap.objs.size := fun b hb => Nat.ne_of_lt hb
  have ee : e<s.heap.objs.size := Heap.lt_size he
  have k2 : ∀ b o, b ≠ e→b ≠ it→s.heap.get? b=some o→h2.get? b=some o := fun b o h1 h2' q => (hs2.2 b h1).trans (hk b o h1 h2' q)
  have ht2 : h2.get? s.heap.objs.size=some { cls := .type "tuple", data := .seq #[.int i s.toks, u] } := (hs2.2 _ (Nat.ne_of_gt ee)).trans ht
  have trk : ∀ b v, H b=some v→b ≠ e∧b ≠ it := fun b v q => ⟨aw q f0, aw q g0⟩
  have hok0 : HOk X.prog X.w H h2 := fun b o q => (I.hok b o q).stay (fun c v hc q' => by
   rcases hc with rfl | hc
   ·exact k2 c v (trk c _ q).1 (trk c _ q).2 q'
   ·exact k2 c v (trk c _ hc).1 (trk c _ hc).2 q') (fun _ z => z) (fun _ _ z => z) fun _ _ _ z => z
  have I1 : Inv X pins σ (upd H s.heap.objs.size (.tup [.int i, x])) { s with heap := h2, toks := s.toks + 1 } := by
   refine I.step (g' := s.gens) (d' := s.drawn) (ch := [e, it]) (fun b hb => ?_) (fun b o _ _ hc q _ => k2 b o (fun z => hc (by simp [z])) (fun z => hc (by simp [z])) q) (fun b o _ _ hc q _ => ⟨o.slots, k2 b o (fun z => hc (by simp [z])) (fun z => hc (by simp [z])) q⟩)
    (fun b o _ q n => by rw [ao (ne2 b (Heap.lt_size q))]; exact n) (fun b o hc q => ⟨o, k2 b o (fun z => hc (by simp [z])) (fun z => hc (by simp [z])) q⟩) (fun b ys q => by rw [ao (aw q fr)]; exact q) (fun b o v q => by rw [ao (aw q fr)]; exact q)
    (fun b ps _ q => ⟨#[], by rw [ao (aw q fr), q]; simp⟩) (fun m hm => ?_) ?_ I.bare
   ·rw [List.mem_cons, List.mem_singleton] at hb
    rcases hb with rfl | rfl
    ·exact ⟨f3, f1, f4, f5⟩
    ·exact ⟨g3, g1, g4, g5⟩
   ·obtain ⟨o, es', ep, ho, r⟩ := hm
    exact ⟨o, es', ep, k2 _ o (Ne.symm f1) (Ne.symm g1) ho, r⟩
   ·exact hok0.adopt fr ⟨by show 2≤sizeLine; decide, [.int i s.toks, u], .cons ⟨_, rfl⟩ (.cons ru .nil), ⟨_, ht2, rfl, _, rfl⟩⟩
  refine ⟨.ref s.heap.objs.size, _, I1, rfl, ⟨_, x, fr, rfl, rfl, fun ys hy => by rw [hq] at hy; cases hy; exact hx⟩, ⟨⟨_, by simpa using he2⟩, it'.extBut hs2.extBut (Ne.symm hne)⟩, fun b hb => ?_⟩
  have : H b=none := (hf b hb).1
  have hb' : b<s.heap.objs.size := by
   rw [List.mem_cons, List.mem_singleton] at hb
   rcases hb with rfl | rfl
   ·exact ee
   ·obtain ⟨o, q, _⟩ := hit; exact Heap.lt_size q
  rw [ao (ne2 b hb')]
  exact this
 done := by
  intro X hP hw hK hc i pins s σ H E I hf st hg
  subst hP hw hK
  obtain ⟨xs, hq, hx⟩ := hg
  obtain ⟨⟨old, he⟩, hit⟩ := st
  obtain ⟨its, rv, p, hz⟩ := I.list (SqL.of hq)
  obtain ⟨g0, g1, g2, g3, g4, g5⟩ := hf it (by simp)
  have hl := rv.length
  exact wpAny_pyNext_enum_end (I.ok.hd hc) he hit p.isList (by simp; omega) fun h' eb => ⟨rfl, I.turned (t' := s.toks) (fun b o hb e => eb b o hb e) g0 g1 g3 g4 g5⟩
 self := fun _ _ _ _ _ st h => by
  obtain ⟨⟨old, he⟩, _⟩ := st
  exact wpAny_pyIter_enum he h
section
variable {X : Cx} {es : List Expr} {k : Nat} {tpos : Pos}
def iEnum (ta : TA) : TI := fun σ H R => ta σ H fun vs H1 => ∃ a, vs=[.ref a]∧(∃ xs, H1 a=some (.lst xs))∧R (Ite a) H1
theorem oe {l : Expr} {ta : TA} {p pos : Pos} (hg : Gl X "enumerate") (hm : X.mg "enumerate" = none) (ha : PA X [l] ta) (hs : starEach [l] X.env=[(false, eval l X.env)] := by rfl) : PI X (.Tuple es k tpos) (.Call (.Name "enumerate" p) [l] [] pos) (iEnum ta) := by
 refine ⟨fun pins s σ H R I h => ?_⟩
 refine wpAny_Call_Name_kw (eD I hg hm ic ?_)
 refine PyProof.Rows.callWith_type1 (thn (ha pos pins s σ H _ I h) fun us s1 ⟨vs, H1, I1, r1, a, e, ⟨xs, hx⟩, q⟩ => ?_) hs rfl
 subst e
 obtain ⟨u, rfl, ru⟩ := du r1
 cases ru
 obtain ⟨_, its, n, rv, ho⟩ := (show aS X.prog X.w H1 s1.heap a (.lst xs) from I1.hok a _ hx)
 refine call_enumerate_1 ho fun h' he hit hsz hk => ?_
 have I2 : Inv X pins σ H1 { s1 with heap := h' } := I1.kept (t' := s1.toks) hk
 refine wpAny_pyIter_enum he ⟨s1.heap.objs.size + 1, [s1.heap.objs.size + 1, s1.heap.objs.size], _, Ite a, H1, rfl, I2, kU a (s1.heap.objs.size + 1) s1.heap.objs.size (Nat.succ_ne_self _), ⟨⟨_, he⟩, hit⟩, fun b hb => ?_, q⟩
 have hb' : s1.heap.objs.size≤b := by
  rw [List.mem_cons, List.mem_singleton] at hb
  rcases hb with rfl | rfl <;> omega
 have z := I1.fpOk (H' := H1) hb' (I1.hok.fresh hb')
 exact z
end
mutual
def toP : D→PyData
 | .non => .none
 | .bl b => .bool b
 | .int i => .int i
 | .str x => .str x
 | .tup ds => .tuple (toPs ds)
 | .lst ds => .list (toPs ds)
 | .dct => .dict []
 | .dic _ _ => .dict []
 | .scr _ _ => .dict []
 | .ext _ => .dict []
def toPs : List D→List PyData
 | [] => []
 | d :: ds => toP d :: toPs ds
end
mutual
theorem bW {X : Cx} {pins : List (Addr×Obj)} {σ : St} {H : Hp} {s : Shared} (I : Inv X pins σ H s) : ∀ (d : D) (v : V) (u : Value), Rep H d v→aN v u→(toP d).canLay0=true→∃ as, Reads s.heap u (toP d) as
 | .non, v, u, h, r, _ => by rw [Rep] at h; subst h; cases r; rw [toP]; exact ⟨_, .none⟩
 | .bl b, v, u, h, r, _ => by rw [Rep] at h; subst h; cases r; rw [toP]; exact ⟨_, .bool b⟩
 | .int i, v, u, h, r, _ => by rw [Rep] at h; subst h; obtain ⟨t, rfl⟩ := r; rw [toP]; exact ⟨_, .int i t⟩
 | .str x, v, u, h, r, _ => by rw [Rep] at h; subst h; obtain ⟨t, rfl⟩ := r; rw [toP]; exact ⟨_, .str x t⟩
 | .tup ds, v, u, h, r, c => by
  rw [Rep] at h
  obtain ⟨a, xs, rfl, ha, hx⟩ := h
  cases r
  rw [toP] at c ⊢
  obtain ⟨_, its, rv, o, e1, e2, n, e3⟩ := (show aS X.prog X.w H s.heap a (.tup xs) from I.hok a _ ha)
  obtain ⟨as, q⟩ := reps_reads I ds xs its hx rv (by rw [PyData.canLay0] at c; exact c)
  exact ⟨_, reads_tuple_at e1 e2 e3 (by simpa using q)⟩
 | .lst ds, v, u, h, r, c => by
  rw [Rep] at h
  obtain ⟨a, xs, rfl, ha, hx⟩ := h
  cases r
  rw [toP] at c ⊢
  obtain ⟨_, its, n, rv, e1⟩ := (show aS X.prog X.w H s.heap a (.lst xs) from I.hok a _ ha)
  obtain ⟨as, q⟩ := reps_reads I ds xs its hx rv (by rw [PyData.canLay0] at c; exact c)
  exact ⟨_, reads_list_at e1 rfl rfl (by simpa using q)⟩
 | .dct, v, u, h, r, c => by rw [toP, PyData.canLay0] at c; cases c
 | .dic _ _, v, u, h, r, c => by rw [toP, PyData.canLay0] at c; cases c
 | .scr _ _, v, u, h, r, c => by rw [toP, PyData.canLay0] at c; cases c
 | .ext _, v, u, h, r, c => by rw [toP, PyData.canLay0] at c; cases c
theorem reps_reads {X : Cx} {pins : List (Addr×Obj)} {σ : St} {H : Hp} {s : Shared} (I : Inv X pins σ H s) : ∀ (ds : List D) (vs : List V) (us : List Value), Reps H ds vs→aF vs us→PyData.canLayAll0 (toPs ds)=true→∃ as, ReadsAll s.heap us (toPs ds) as
 | [], vs, us, h, r, _ => by rw [Reps] at h; subst h; cases r; rw [toPs]; exact ⟨_, .nil⟩
 | d :: ds, vs, us, h, r, c => by
  rw [Reps] at h
  obtain ⟨v, vs', rfl, h1, h2⟩ := h
  rw [toPs] at c ⊢
  rw [PyData.canLayAll0, Bool.and_eq_true] at c
  cases r with
  | cons r1 r2 =>
   obtain ⟨as, q1⟩ := bW I d v _ h1 r1 c.1
   obtain ⟨bs, q2⟩ := reps_reads I ds vs' _ h2 r2 c.2
   exact ⟨_, .cons q1 q2⟩
end
section
variable {X : Cx}
def rEqD : R2 := fun x y H Q => ∃ d e, Rep H d x∧Rep H e y∧SeqAt.shaped (toP d)=true∧SeqAt.shaped (toP e)=true∧Q (.bl (PyData.eqv (toP d) (toP e))) H
def rNeD : R2 := fun x y H Q => ∃ d e, Rep H d x∧Rep H e y∧SeqAt.shaped (toP d)=true∧SeqAt.shaped (toP e)=true∧Q (.bl (!PyData.eqv (toP d) (toP e))) H
theorem cq (hu : X.A.units + 64<cLine) : OpR X (compareOp .Eq) rEqD := by
 intro pins s σ H x y v u Q I rx ry h
 obtain ⟨d, e, h1, h2, c1, c2, q⟩ := h
 obtain ⟨as, r1⟩ := bW I d x v h1 rx (SeqAt.canLay_of_shaped c1)
 obtain ⟨bs, r2⟩ := bW I e y u h2 ry (SeqAt.canLay_of_shaped c2)
 exact eq_dataH r1 r2 c1 c2 hu ⟨.bl _, H, I, rfl, q⟩
theorem fW (hu : X.A.units + 64<cLine) : OpR X (compareOp .NotEq) rNeD := by
 intro pins s σ H x y v u Q I rx ry h
 obtain ⟨d, e, h1, h2, c1, c2, q⟩ := h
 obtain ⟨as, r1⟩ := bW I d x v h1 rx (SeqAt.canLay_of_shaped c1)
 obtain ⟨bs, r2⟩ := bW I e y u h2 ry (SeqAt.canLay_of_shaped c2)
 exact ne_dataH r1 r2 c1 c2 hu ⟨.bl _, H, I, rfl, q⟩
end
def ak (ns : List Int) : D := .lst (ns.map .int)
theorem eF (ns : List Int) : toPs (ns.map .int)=ns.map .int := by
 induction ns with
 | nil => rw [List.map_nil, toPs]; rfl
 | cons n r ih => rw [List.map_cons, toPs, ih, toP]; rfl
theorem mN (ns : List Int) : PyData.canLayAll0 (ns.map .int)=true∧PyData.depthAll (ns.map .int)≤1 := by
 induction ns with
 | nil => simp [PyData.canLayAll0, PyData.depthAll]
 | cons n r ih => simp only [List.map_cons, PyData.canLayAll0, PyData.canLay0, PyData.depthAll, PyData.depth, ih.1, Bool.and_self, true_and]; have := ih.2; omega
theorem lh (ns ms : List Int) : PyData.eqvAll (ns.map .int) (ms.map .int)=decide (ns=ms) := by
 induction ns generalizing ms with
 | nil => cases ms <;> simp [PyData.eqvAll]
 | cons n r ih =>
  cases ms with
  | nil => simp [PyData.eqvAll]
  | cons m q =>
   rw [List.map_cons, List.map_cons, PyData.eqvAll, PyData.eqv, ih]
   by_cases h : n=m
   ·subst h; simp
   ·simp [h]
theorem iV (ns : List Int) : SeqAt.shaped (toP (ak ns))=true := by
 have h := mN ns
 unfold SeqAt.shaped ak
 rw [toP, eF, PyData.canLay0, PyData.depth, h.1, Bool.true_and]
 exact decide_eq_true (by have := h.2; omega)
theorem mL (ns ms : List Int) : PyData.eqv (toP (ak ns)) (toP (ak ms))=decide (ns=ms) := by
 unfold ak
 rw [toP, toP, eF, eF, PyData.eqv, lh]
theorem c0 {H : Hp} : ∀ ns : List Int, Reps H (ns.map .int) (ns.map V.int)
 | [] => aV
 | n :: r => aT (bg n) (c0 r)
def aO (ns ms : List Int) : D := .tup [ak ns, ak ms]
section
variable {X : Cx}
def ji (lo : Int) (n : Nat) : List Int := (List.range n).map fun (i : Nat) => lo + i
theorem eR : ∀ {xs : List V} {us : List Value}, xs.length=us.length→(∀ (i : Nat) x u, xs[i]? = some x→us[i]? = some u→aN x u)→aF xs us
 | [], [], _, _ => .nil
 | x :: xs, u :: us, hl, h => .cons (h 0 x u rfl rfl) (eR (by simpa using hl) fun i x' u' e1 e2 => h (i + 1) x' u' (by simpa using e1) (by simpa using e2))
 | [], _ :: _, hl, _ => by simp at hl
 | _ :: _, [], hl, _ => by simp at hl
end
abbrev DSt := List (Option D)
abbrev Own := Addr→Option (Nat×List Nat)
mutual
def Sep (G H : Hp) (O : Own) (i : Nat) : D→List Nat→V→Prop
 | .non, _, v => v = .non
 | .bl b, _, v => v = .bl b
 | .int n, _, v => v = .int n
 | .str x, _, v => v = .str x
 | .tup ds, π, v => ∃ a xs, v = .ref a∧G a=some (.tup xs)∧Seps G H O i ds 0 π xs
 | .lst ds, π, v => ∃ a xs, v = .ref a∧O a=some (i, π)∧H a=some (.lst xs)∧Seps G H O i ds 0 π xs
 | .dct, _, _ => False
 | .dic ks ds, π, v => ∃ a xs, v = .ref a∧O a=some (i, π)∧H a=some (.dK (ks.zip xs))∧ks.length=ds.length∧Seps G H O i ds 0 π xs
 | .scr _ _, _, _ => False
 | .ext _, _, _ => False
def Seps (G H : Hp) (O : Own) (i : Nat) : List D→Nat→List Nat→List V→Prop
 | [], _, _, xs => xs=[]
 | d :: ds, k, π, xs => ∃ v vs, xs=v :: vs∧Sep G H O i d (k :: π) v∧Seps G H O i ds (k + 1) π vs
end
def bP (G G' : Hp) : Prop := ∀ a xs, G a=some (.tup xs)→G' a=some (.tup xs)
theorem ay.ts {G G' : Hp} (h : ay G G') : bP G G' := fun a xs e => h a _ e
mutual
theorem Sep.map {G H G' H' : Hp} {O O' : Own} {i i' : Nat} {f : List Nat→List Nat} (hG : bP G G') (hf : ∀ k π, f (k :: π)=k :: f π) :
 ∀ (d : D) (π : List Nat) (v : V), (∀ a τ, O a=some (i, τ++π)→O' a=some (i', f (τ++π))∧H' a=H a)→Sep G H O i d π v→Sep G' H' O' i' d (f π) v
 | .non, _, _, _, h => by rw [Sep] at *; exact h
 | .bl b, _, _, _, h => by rw [Sep] at *; exact h
 | .int n, _, _, _, h => by rw [Sep] at *; exact h
 | .str x, _, _, _, h => by rw [Sep] at *; exact h
 | .tup ds, π, v, hO, h => by
  rw [Sep] at *
  obtain ⟨a, xs, h1, h2, h3⟩ := h
  exact ⟨a, xs, h1, hG _ _ h2, Seps.map hG hf ds 0 π xs (fun a τ _ => hO a τ) h3⟩
 | .lst ds, π, v, hO, h => by
  rw [Sep] at *
  obtain ⟨a, xs, h1, h2, h3, h4⟩ := h
  have q := hO a [] h2
  exact ⟨a, xs, h1, q.1, q.2.trans h3, Seps.map hG hf ds 0 π xs (fun a τ _ => hO a τ) h4⟩
 | .dic ks ds, π, v, hO, h => by
  rw [Sep] at *
  obtain ⟨a, xs, h1, h2, h3, h5, h4⟩ := h
  have q := hO a [] h2
  exact ⟨a, xs, h1, q.1, q.2.trans h3, h5, Seps.map hG hf ds 0 π xs (fun a τ _ => hO a τ) h4⟩
 | .dct, _, _, _, h => by rw [Sep] at h; exact h.elim
 | .scr _ _, _, _, _, h => by rw [Sep] at h; exact h.elim
 | .ext _, _, _, _, h => by rw [Sep] at h; exact h.elim
theorem Seps.map {G H G' H' : Hp} {O O' : Own} {i i' : Nat} {f : List Nat→List Nat} (hG : bP G G') (hf : ∀ k π, f (k :: π)=k :: f π) :
 ∀ (ds : List D) (k : Nat) (π : List Nat) (xs : List V), (∀ a τ, τ ≠ []→O a=some (i, τ++π)→O' a=some (i', f (τ++π))∧H' a=H a)→Seps G H O i ds k π xs→Seps G' H' O' i' ds k (f π) xs
 | [], _, _, _, _, h => by rw [Seps] at *; exact h
 | d :: ds, k, π, xs, hO, h => by
  rw [Seps] at *
  obtain ⟨v, vs, h1, h2, h3⟩ := h
  refine ⟨v, vs, h1, ?_, Seps.map hG hf ds (k + 1) π vs hO h3⟩
  rw [← hf]
  refine Sep.map hG hf d (k :: π) v (fun a τ e => ?_) h2
  have e' : τ++k :: π=(τ++[k])++π := by simp
  rw [e'] at e ⊢
  exact hO a (τ++[k]) (by simp) e
end
theorem Sep.keep {G H G' H' : Hp} {O O' : Own} {i i' : Nat} {d : D} {π : List Nat} {v : V} (hG : bP G G') (hO : ∀ a τ, O a=some (i, τ++π)→O' a=some (i', τ++π)∧H' a=H a) (h : Sep G H O i d π v) : Sep G' H' O' i' d π v :=
 Sep.map (f := id) hG (fun _ _ => rfl) d π v hO h
theorem Seps.keep {G H G' H' : Hp} {O O' : Own} {i i' : Nat} {ds : List D} {k : Nat} {π : List Nat} {xs : List V} (hG : bP G G') (hO : ∀ a τ, τ ≠ []→O a=some (i, τ++π)→O' a=some (i', τ++π)∧H' a=H a) (h : Seps G H O i ds k π xs) : Seps G' H' O' i' ds k π xs :=
 Seps.map (f := id) hG (fun _ _ => rfl) ds k π xs hO h
mutual
theorem Sep.rep {G H G' : Hp} {O : Own} {i : Nat} (hG : bP G G') : ∀ (d : D) (π : List Nat) (v : V), (∀ a τ (o : HO), O a=some (i, τ++π)→H a=some o→G' a=some o)→Sep G H O i d π v→Rep G' d v
 | .non, _, _, _, h => by rw [Sep] at h; rw [Rep]; exact h
 | .bl b, _, _, _, h => by rw [Sep] at h; rw [Rep]; exact h
 | .int n, _, _, _, h => by rw [Sep] at h; rw [Rep]; exact h
 | .str x, _, _, _, h => by rw [Sep] at h; rw [Rep]; exact h
 | .tup ds, π, v, hO, h => by
  rw [Sep] at h; rw [Rep]
  obtain ⟨a, xs, h1, h2, h3⟩ := h
  exact ⟨a, xs, h1, hG _ _ h2, Seps.rep hG ds 0 π xs (fun a τ ys _ => hO a τ ys) h3⟩
 | .lst ds, π, v, hO, h => by
  rw [Sep] at h; rw [Rep]
  obtain ⟨a, xs, h1, h2, h3, h4⟩ := h
  exact ⟨a, xs, h1, hO a [] _ h2 h3, Seps.rep hG ds 0 π xs (fun a τ ys _ => hO a τ ys) h4⟩
 | .dic ks ds, π, v, hO, h => by
  rw [Sep] at h; rw [Rep]
  obtain ⟨a, xs, h1, h2, h3, h5, h4⟩ := h
  exact ⟨a, xs, h1, hO a [] _ h2 h3, h5, Seps.rep hG ds 0 π xs (fun a τ ys _ => hO a τ ys) h4⟩
 | .dct, _, _, _, h => by rw [Sep] at h; exact h.elim
 | .scr _ _, _, _, _, h => by rw [Sep] at h; exact h.elim
 | .ext _, _, _, _, h => by rw [Sep] at h; exact h.elim
theorem Seps.rep {G H G' : Hp} {O : Own} {i : Nat} (hG : bP G G') : ∀ (ds : List D) (k : Nat) (π : List Nat) (xs : List V), (∀ a τ (o : HO), τ ≠ []→O a=some (i, τ++π)→H a=some o→G' a=some o)→Seps G H O i ds k π xs→Reps G' ds xs
 | [], _, _, _, _, h => by rw [Seps] at h; rw [Reps]; exact h
 | d :: ds, k, π, xs, hO, h => by
  rw [Seps] at h; rw [Reps]
  obtain ⟨v, vs, h1, h2, h3⟩ := h
  refine ⟨v, vs, h1, Sep.rep hG d (k :: π) v (fun a τ ys e q => ?_) h2, Seps.rep hG ds (k + 1) π vs hO h3⟩
  have e' : τ++k :: π=(τ++[k])++π := by simp
  rw [e'] at e
  exact hO a (τ++[k]) ys (by simp) e q
end
mutual
def imm : D→Bool
 | .tup ds => imms ds
 | .lst _ => false
 | .dct => false
 | .dic _ _ => false
 | .scr _ _ => false
 | .ext _ => false
 | _ => true
def imms : List D→Bool
 | [] => true
 | d :: ds => imm d&&imms ds
end
mutual
theorem Rep.sep {G H : Hp} {O : Own} {i : Nat} : ∀ (d : D) (π : List Nat) (v : V), imm d=true→Rep G d v→Sep G H O i d π v
 | .non, _, _, _, h => by rw [Rep] at h; rw [Sep]; exact h
 | .bl b, _, _, _, h => by rw [Rep] at h; rw [Sep]; exact h
 | .int n, _, _, _, h => by rw [Rep] at h; rw [Sep]; exact h
 | .str x, _, _, _, h => by rw [Rep] at h; rw [Sep]; exact h
 | .tup ds, π, v, hi, h => by
  rw [Rep] at h; rw [Sep]
  obtain ⟨a, xs, h1, h2, h3⟩ := h
  exact ⟨a, xs, h1, h2, Reps.sep ds 0 π xs (by rw [imm] at hi; exact hi) h3⟩
 | .lst ds, _, _, hi, _ => by rw [imm] at hi; cases hi
 | .dct, _, _, hi, _ => by rw [imm] at hi; cases hi
 | .dic _ _, _, _, hi, _ => by rw [imm] at hi; cases hi
 | .scr _ _, _, _, hi, _ => by rw [imm] at hi; cases hi
 | .ext _, _, _, hi, _ => by rw [imm] at hi; cases hi
theorem Reps.sep {G H : Hp} {O : Own} {i : Nat} : ∀ (ds : List D) (k : Nat) (π : List Nat) (xs : List V), imms ds=true→Reps G ds xs→Seps G H O i ds k π xs
 | [], _, _, _, _, h => by rw [Reps] at h; rw [Seps]; exact h
 | d :: ds, k, π, xs, hi, h => by
  rw [Reps] at h; rw [Seps]
  rw [imms, Bool.and_eq_true] at hi
  obtain ⟨v, vs, h1, h2, h3⟩ := h
  exact ⟨v, vs, h1, Rep.sep d (k :: π) v hi.1 h2, Reps.sep ds (k + 1) π vs hi.2 h3⟩
end
mutual
theorem Sep.imm {G H : Hp} {O : Own} {i : Nat} : ∀ (d : D) (π : List Nat) (v : V), L2.imm d=true→Sep G H O i d π v→Rep G d v
 | .non, _, _, _, h => by rw [Sep] at h; rw [Rep]; exact h
 | .bl b, _, _, _, h => by rw [Sep] at h; rw [Rep]; exact h
 | .int n, _, _, _, h => by rw [Sep] at h; rw [Rep]; exact h
 | .str x, _, _, _, h => by rw [Sep] at h; rw [Rep]; exact h
 | .tup ds, π, v, hi, h => by
  rw [Sep] at h; rw [Rep]
  obtain ⟨a, xs, h1, h2, h3⟩ := h
  exact ⟨a, xs, h1, h2, Seps.imm ds 0 π xs (by rw [L2.imm] at hi; exact hi) h3⟩
 | .lst ds, _, _, hi, _ => by rw [L2.imm] at hi; cases hi
 | .dct, _, _, hi, _ => by rw [L2.imm] at hi; cases hi
 | .dic _ _, _, _, hi, _ => by rw [L2.imm] at hi; cases hi
 | .scr _ _, _, _, hi, _ => by rw [L2.imm] at hi; cases hi
 | .ext _, _, _, hi, _ => by rw [L2.imm] at hi; cases hi
theorem Seps.imm {G H : Hp} {O : Own} {i : Nat} : ∀ (ds : List D) (k : Nat) (π : List Nat) (xs : List V), imms ds=true→Seps G H O i ds k π xs→Reps G ds xs
 | [], _, _, _, _, h => by rw [Seps] at h; rw [Reps]; exact h
 | d :: ds, k, π, xs, hi, h => by
  rw [Seps] at h; rw [Reps]
  rw [imms, Bool.and_eq_true] at hi
  obtain ⟨v, vs, h1, h2, h3⟩ := h
  exact ⟨v, vs, h1, Sep.imm d (k :: π) v hi.1 h2, Seps.imm ds (k + 1) π vs hi.2 h3⟩
end
mutual
theorem Rep.imms {G G' : Hp} (hG : bP G G') : ∀ (d : D) (v : V), L2.imm d=true→Rep G d v→Rep G' d v
 | .non, _, _, h => by rw [Rep] at *; exact h
 | .bl b, _, _, h => by rw [Rep] at *; exact h
 | .int n, _, _, h => by rw [Rep] at *; exact h
 | .str x, _, _, h => by rw [Rep] at *; exact h
 | .tup ds, v, hi, h => by
  rw [Rep] at *
  obtain ⟨a, xs, h1, h2, h3⟩ := h
  exact ⟨a, xs, h1, hG _ _ h2, Reps.imms hG ds xs (by rw [L2.imm] at hi; exact hi) h3⟩
 | .lst ds, _, hi, _ => by rw [L2.imm] at hi; cases hi
 | .dct, _, hi, _ => by rw [L2.imm] at hi; cases hi
 | .dic _ _, _, hi, _ => by rw [L2.imm] at hi; cases hi
 | .scr _ _, _, hi, _ => by rw [L2.imm] at hi; cases hi
 | .ext _, _, hi, _ => by rw [L2.imm] at hi; cases hi
theorem Reps.imms {G G' : Hp} (hG : bP G G') : ∀ (ds : List D) (xs : List V), L2.imms ds=true→Reps G ds xs→Reps G' ds xs
 | [], _, _, h => by rw [Reps] at *; exact h
 | d :: ds, xs, hi, h => by
  rw [Reps] at *
  rw [L2.imms, Bool.and_eq_true] at hi
  obtain ⟨v, vs, h1, h2, h3⟩ := h
  exact ⟨v, vs, h1, Rep.imms hG d v hi.1 h2, Reps.imms hG ds vs hi.2 h3⟩
end
theorem Seps.length {G H : Hp} {O : Own} {i : Nat} : ∀ {ds : List D} {k : Nat} {π : List Nat} {xs : List V}, Seps G H O i ds k π xs→xs.length=ds.length
 | [], _, _, _, h => by rw [Seps] at h; subst h; rfl
 | d :: ds, k, π, xs, h => by
  rw [Seps] at h
  obtain ⟨v, vs, rfl, _, h3⟩ := h
  simp [Seps.length h3]
abbrev WrO := List V ⊕ List (Key×V)
def WrO.ho : WrO→HO
 | .inl xs => .lst xs
 | .inr kvs => .dK kvs
theorem WrO.ne {m : WrO} {xs : List V} (h : m.ho = .tup xs) : False := by cases m <;> cases h
structure Ctx where
 G : Hp
 H : Hp
 O : Own
 mu : List (Option V)
 np : Nat
def bA (G H : Hp) (O : Own) : List (D×V)→Prop
 | [] => True
 | (d, v) :: r => Sep G H O (2 * r.length + 1) d [] v∧bA G H O r
def Nw (C : Ctx) (a : Addr) (l : Nat) : Prop := C.H a=none∨∃ π, C.O a=some (l, π)
def NT (o : HO) : Prop := ∀ ps q, o ≠ .tbl ps q
theorem WrO.nt (x : WrO) : NT x.ho := by cases x <;> (intro _ _ z; cases z)
structure RO (C : Ctx) (ow : List Bool) (G : Hp) (ρ : DSt) (σ : St) (H : Hp) (pd : List (D×V)) (O : Own) : Prop where
 len : ρ.length=σ.length
 gh : ay G H
 g0 : ay C.G G
 gn : ∀ a o, G a=some o→C.G a=some o∨C.H a=none
 og : ∀ a l, O a=some l→G a=none∧(∃ xs : WrO, H a=some xs.ho)∧Nw C a l.1
 cok : ∀ a l π, C.O a=some (l, π)→(∃ (i : Nat) (v : V), l=2 * i∧C.mu[i]? = some (some v))∨∃ j, l=2 * j + 1∧j<C.np
 fr : ∀ a o, C.H a=some o→C.O a=none→NT o→H a=some o
 ft : ∀ a ps q, H a=some (.tbl ps q)→G a=none
 al : ∀ a, H a=none→C.H a=none
 mp : ∀ (i : Nat) v, C.mu[i]? = some (some v)→σ[i]? = some (some v)
 sl : ∀ (i : Nat) d, ρ[i]? = some (some d)→∃ v, σ[i]? = some (some v)∧if ow[i]? = some true then Sep G H O (2 * i) d [] v else Rep G d v
 pn : bA G H O pd
 np : C.np≤pd.length
def R (C : Ctx) (ow : List Bool) (G : Hp) (ρ : DSt) (σ : St) (H : Hp) (pd : List (D×V)) : Prop := ∃ O, RO C ow G ρ σ H pd O
theorem bA.keep {G H G' H' : Hp} {O O' : Own} (hG : bP G G') : ∀ {pd : List (D×V)}, (∀ a j π, j<pd.length→O a=some (2 * j + 1, π)→O' a=some (2 * j + 1, π)∧H' a=H a)→bA G H O pd→bA G' H' O' pd
 | [], _, _ => trivial
 | (d, v) :: r, hO, ⟨h1, h2⟩ => ⟨h1.keep hG fun a τ e => hO a r.length _ (by simp) e, bA.keep hG (fun a j π hj => hO a j π (by simp; omega)) h2⟩
section
variable {C : Ctx} {ow : List Bool} {G : Hp} {ρ : DSt} {σ : St} {H : Hp} {pd : List (D×V)} {O : Own}
theorem RO.new (h : RO C ow G ρ σ H pd O) {p : Addr} (hp : H p=none) (o : HO) (nt : NT o := by intro _ _ z; cases z) : RO C ow (upd G p o) ρ σ (upd H p o) pd O∧ay G (upd G p o) := by
 have gp : G p=none := by
  cases e : G p with
  | none => rfl
  | some z => rw [h.gh _ _ e] at hp; cases hp
 have sG := ni gp o
 have ne : ∀ a l, O a=some l→a ≠ p := fun a l e z => by
  obtain ⟨_, ⟨xs, q⟩, _⟩ := h.og a l e
  rw [z, hp] at q; cases q
 refine ⟨⟨h.len, ?_, fun a u e => sG _ _ (h.g0 a u e), ?_, ?_, h.cok, ?_, ?_, ?_, h.mp, ?_, ?_, h.np⟩, sG⟩
 ·intro a u e
  by_cases z : a=p
  ·subst z; rw [aA] at e ⊢; exact e
  ·rw [ao z] at e ⊢; exact h.gh _ _ e
 ·intro a u e
  by_cases z : a=p
  ·subst z; exact .inr (h.al _ hp)
  ·rw [ao z] at e; exact h.gn a u e
 ·intro a l e
  have z := ne a l e
  rw [ao z, ao z]
  exact h.og a l e
 ·intro a u e n t
  rw [ao (aw (h.fr a u e n t) hp)]
  exact h.fr a u e n t
 ·intro a ps q e
  by_cases z : a=p
  ·subst z; rw [aA] at e; cases e; exact absurd rfl (nt ps q)
  ·rw [ao z] at e ⊢; exact h.ft a ps q e
 ·intro a e
  by_cases z : a=p
  ·subst z; rw [aA] at e; cases e
  ·rw [ao z] at e; exact h.al a e
 ·intro i d e
  obtain ⟨v, h1, h2⟩ := h.sl i d e
  refine ⟨v, h1, ?_⟩
  split at h2
  ·rename_i c; rw [if_pos c]; exact h2.keep sG.ts fun a τ q => ⟨q, ao (ne a _ q)⟩
  ·rename_i c; rw [if_neg c]; exact h2.mono sG
 ·exact bA.keep sG.ts (fun a j π _ q => ⟨q, ao (ne a _ q)⟩) h.pn
theorem RO.newL (h : RO C ow G ρ σ H pd O) {p : Addr} (hp : H p=none) {xs : List V} {ds : List D} (hi : imms ds=true) (hr : Reps G ds xs) :
 R C ow G ρ σ (upd H p (.lst xs)) ((.lst ds, .ref p) :: pd) := by
 have gp : G p=none := by
  cases e : G p with
  | none => rfl
  | some z => rw [h.gh _ _ e] at hp; cases hp
 have ne : ∀ a l, O a=some l→a ≠ p := fun a l e z => by
  obtain ⟨_, ⟨xs, q⟩, _⟩ := h.og a l e
  rw [z, hp] at q; cases q
 let O' : Own := fun a => if a=p then some (2 * pd.length + 1, []) else O a
 have old : ∀ a l, O a=some l→O' a=some l := fun a l e => by
  show (if a=p then _ else _)=_
  rw [if_neg (ne a _ e), e]
 refine ⟨O', h.len, ?_, h.g0, h.gn, ?_, h.cok, ?_, ?_, ?_, h.mp, ?_, ⟨?_, ?_⟩, Nat.le_succ_of_le h.np⟩
 ·intro a u e
  rw [ao (fun z => by rw [z, gp] at e; cases e)]
  exact h.gh _ _ e
 ·intro a l e
  by_cases z : a=p
  ·subst z; exact ⟨gp, ⟨.inl xs, aA⟩, .inl (h.al _ hp)⟩
  ·rw [ao z]
   change (if a=p then _ else _)=_ at e
   rw [if_neg z] at e
   exact h.og a _ e
 ·intro a u e n t
  rw [ao (aw (h.fr a u e n t) hp)]
  exact h.fr a u e n t
 ·intro a ps q e
  by_cases z : a=p
  ·subst z; rw [aA] at e; cases e
  ·rw [ao z] at e; exact h.ft a ps q e
 ·intro a e
  by_cases z : a=p
  ·subst z; rw [aA] at e; cases e
  ·rw [ao z] at e; exact h.al a e
 ·intro i d e
  obtain ⟨v, h1, h2⟩ := h.sl i d e
  refine ⟨v, h1, ?_⟩
  split at h2
  ·rename_i c; rw [if_pos c]; exact h2.keep (fun _ _ z => z) fun a τ q => ⟨old a _ q, ao (ne a _ q)⟩
  ·rename_i c; rw [if_neg c]; exact h2
 ·rw [Sep]
  exact ⟨p, xs, rfl, by show (if p=p then _ else _)=_; rw [if_pos rfl], aA, hr.sep ds 0 [] xs hi⟩
 ·exact bA.keep (fun _ _ z => z) (fun a j π hj q => ⟨old a _ q, ao (ne a _ q)⟩) h.pn
end
theorem Seps.snoc {G H : Hp} {O : Own} {i : Nat} {d : D} {v : V} : ∀ {ds : List D} {k : Nat} {π : List Nat} {xs : List V}, Seps G H O i ds k π xs→Sep G H O i d ((k + ds.length) :: π) v→Seps G H O i (ds++[d]) k π (xs++[v])
 | [], k, π, xs, h, hd => by rw [Seps] at h; subst h; show Seps _ _ _ _ [d] _ _ [v]; rw [Seps]; exact ⟨v, [], rfl, by simpa using hd, by rw [Seps]⟩
 | e :: ds, k, π, xs, h, hd => by
  rw [Seps] at h
  obtain ⟨u, us, rfl, h2, h3⟩ := h
  show Seps _ _ _ _ (e :: (ds++[d])) _ _ (u :: (us++[v]))
  rw [Seps]
  refine ⟨u, us++[v], rfl, h2, Seps.snoc h3 ?_⟩
  have : k + 1 + ds.length=k + (e :: ds).length := by simp; omega
  rw [this]; exact hd
theorem Seps.set {G H : Hp} {O : Own} {i : Nat} {d : D} {v : V} : ∀ {ds : List D} {k : Nat} {π : List Nat} {xs : List V} {j : Nat}, Seps G H O i ds k π xs→Sep G H O i d ((k + j) :: π) v→Seps G H O i (ds.set j d) k π (xs.set j v)
 | [], k, π, xs, j, h, hd => by rw [Seps] at h; subst h; simp; rw [Seps]
 | e :: ds, k, π, xs, 0, h, hd => by
  rw [Seps] at h
  obtain ⟨u, us, rfl, h2, h3⟩ := h
  simp only [List.set_cons_zero]; rw [Seps]
  exact ⟨v, us, rfl, by simpa using hd, h3⟩
 | e :: ds, k, π, xs, j + 1, h, hd => by
  rw [Seps] at h
  obtain ⟨u, us, rfl, h2, h3⟩ := h
  simp only [List.set_cons_succ]; rw [Seps]
  refine ⟨u, _, rfl, h2, Seps.set h3 ?_⟩
  have : k + 1 + j=k + (j + 1) := by omega
  rw [this]; exact hd
section
variable {C : Ctx} {ow : List Bool} {G : Hp} {ρ : DSt} {σ : St} {H : Hp} {pd : List (D×V)} {O : Own}
theorem cH {α : Type} {l : List (Option α)} {i j : Nat} {x : Option α} {d : α} (h : (l.set i x)[j]? = some (some d)) : (j=i∧x=some d)∨(j ≠ i∧l[j]? = some (some d)) := by
 rw [List.getElem?_set] at h
 by_cases e : i=j
 ·rw [if_pos e] at h
  split at h
  ·exact .inl ⟨e.symm, Option.some.inj h⟩
  ·cases h
 ·rw [if_neg e] at h; exact .inr ⟨fun z => e z.symm, h⟩
theorem cw {α : Type} {l : List (Option α)} {i : Nat} {x : Option α} (h : l[i]? = some x) : i<l.length := (List.getElem?_eq_some_iff.mp h).1
theorem RO.setS (h : RO C ow G ρ σ H pd O) {i : Nat} {d : D} {v : V} (hi : ow[i]? ≠ some true) (hm : ∀ v, C.mu[i]? ≠ some (some v)) (r : Rep G d v) : RO C ow G (ρ.set i (some d)) (σ.set i (some v)) H pd O := by
 refine ⟨by simp [h.len], h.gh, h.g0, h.gn, h.og, h.cok, h.fr, h.ft, h.al, ?_, ?_, h.pn, h.np⟩
 ·intro j u e
  have : i ≠ j := fun z => hm u (z ▸ e)
  rw [List.getElem?_set_ne this]
  exact h.mp j u e
 ·intro j e q
  rcases cH q with ⟨rfl, z⟩ | ⟨z, q'⟩
  ·cases z
   have hl : j<σ.length := by have := cw q; rw [List.length_set, h.len] at this; exact this
   exact ⟨v, by rw [List.getElem?_set_self hl], by rw [if_neg hi]; exact r⟩
  ·obtain ⟨u, h1, h2⟩ := h.sl j e q'
   exact ⟨u, by rw [List.getElem?_set_ne (Ne.symm z)]; exact h1, h2⟩
def lab (f : Nat→List Nat→Nat×List Nat) (O : Own) : Own := fun a => (O a).map fun l => f l.1 l.2
theorem bp {f : Nat→List Nat→Nat×List Nat} {a : Addr} {l : Nat} {π : List Nat} (h : O a=some (l, π)) : lab f O a=some (f l π) := by unfold lab; rw [h]; rfl
theorem fK {f : Nat→List Nat→Nat×List Nat} {a : Addr} {m : Nat×List Nat} (h : lab f O a=some m) : ∃ l π, O a=some (l, π)∧m=f l π := by
 unfold lab at h
 cases e : O a with
 | none => rw [e] at h; cases h
 | some l => rw [e] at h; exact ⟨l.1, l.2, rfl, (Option.some.inj h).symm⟩
theorem bS {i j : Nat} : 2 * i ≠ 2 * j + 1 := by omega
theorem RO.setO {d : D} {v : V} (h : RO C ow G ρ σ H ((d, v) :: pd) O) {i : Nat} (hi : ow[i]? = some true) (hm : ∀ v, C.mu[i]? ≠ some (some v)) (hn : C.np≤pd.length) :
 R C ow G (ρ.set i (some d)) (σ.set i (some v)) H pd := by
 refine ⟨lab (fun l π => if l=2 * pd.length + 1 then (2 * i, π) else (l, π)) O, by simp [h.len], h.gh, h.g0, h.gn, ?_, h.cok, h.fr, h.ft, h.al, ?_, ?_, ?_, hn⟩
 ·intro a m e
  obtain ⟨l, π, e1, rfl⟩ := fK e
  obtain ⟨q1, q2, q3⟩ := h.og a _ e1
  refine ⟨q1, q2, ?_⟩
  try dsimp only
  split
  ·rename_i z
   rcases q3 with q3 | ⟨_, q3⟩
   ·exact .inl q3
   ·rcases h.cok _ _ _ q3 with ⟨k, _, q4, _⟩ | ⟨k, q4, q5⟩
    ·exact absurd (q4.symm.trans z) bS
    ·omega
  ·exact q3
 ·intro j u e
  have : i ≠ j := fun z => hm u (z ▸ e)
  rw [List.getElem?_set_ne this]
  exact h.mp j u e
 ·intro j e q
  rcases cH q with ⟨rfl, z⟩ | ⟨z, q'⟩
  ·cases z
   have hl : j<σ.length := by have := cw q; rw [List.length_set, h.len] at this; exact this
   refine ⟨v, by rw [List.getElem?_set_self hl], ?_⟩
   rw [if_pos hi]
   exact h.pn.1.keep (fun _ _ z => z) fun a τ q => ⟨by rw [bp q, if_pos rfl], rfl⟩
  ·obtain ⟨u, h1, h2⟩ := h.sl j e q'
   refine ⟨u, by rw [List.getElem?_set_ne (Ne.symm z)]; exact h1, ?_⟩
   split at h2
   ·rename_i c; rw [if_pos c]; exact h2.keep (fun _ _ z => z) fun a τ q => ⟨by rw [bp q, if_neg bS], rfl⟩
   ·rename_i c; rw [if_neg c]; exact h2
 ·exact bA.keep (fun _ _ z => z) (fun a j π hj q => ⟨by rw [bp q, if_neg (by omega)], rfl⟩) h.pn.2
theorem RO.move (h : RO C ow G ρ σ H pd O) {i : Nat} {d : D} (e : ρ[i]? = some (some d)) (hi : ow[i]? = some true) (hm : ∀ v, C.mu[i]? ≠ some (some v)) :
 ∃ v, σ[i]? = some (some v)∧R C ow G (ρ.set i none) σ H ((d, v) :: pd) := by
 obtain ⟨v, hv, s⟩ := h.sl i d e
 rw [if_pos hi] at s
 refine ⟨v, hv, lab (fun l π => if l=2 * i then (2 * pd.length + 1, π) else (l, π)) O, by simp [h.len], h.gh, h.g0, h.gn, ?_, h.cok, h.fr, h.ft, h.al, h.mp, ?_, ⟨?_, ?_⟩, Nat.le_succ_of_le h.np⟩
 ·intro a m e
  obtain ⟨l, π, e1, rfl⟩ := fK e
  obtain ⟨q1, q2, q3⟩ := h.og a _ e1
  refine ⟨q1, q2, ?_⟩
  try dsimp only
  split
  ·rename_i z
   rcases q3 with q3 | ⟨_, q3⟩
   ·exact .inl q3
   ·rcases h.cok _ _ _ q3 with ⟨k, u, q4, q5⟩ | ⟨k, q4, _⟩
    ·have : k=i := by have := q4.symm.trans z; omega
     exact absurd (this ▸ q5) (hm u)
    ·omega
  ·exact q3
 ·intro j e q
  rcases cH q with ⟨rfl, z⟩ | ⟨z, q'⟩
  ·cases z
  ·obtain ⟨u, h1, h2⟩ := h.sl j e q'
   refine ⟨u, h1, ?_⟩
   split at h2
   ·rename_i c; rw [if_pos c]; exact h2.keep (fun _ _ z => z) fun a τ q => ⟨by rw [bp q, if_neg (by omega)], rfl⟩
   ·rename_i c; rw [if_neg c]; exact h2
 ·exact s.keep (fun _ _ z => z) fun a τ q => ⟨by rw [bp q, if_pos rfl], rfl⟩
 ·exact bA.keep (fun _ _ z => z) (fun a j π hj q => ⟨by rw [bp q, if_neg (fun z => bS z.symm)], rfl⟩) h.pn
def hasL (O : Own) (l : Nat) (a : Addr) : Bool := match O a with
 | some m => m.1 == l
 | none => false
theorem cG {l : Nat} {a : Addr} : hasL O l a=true↔∃ π, O a=some (l, π) := by
 unfold hasL
 cases e : O a with
 | none => simp
 | some m => obtain ⟨m1, m2⟩ := m; simp
theorem RO.share {d : D} {v : V} (h : RO C ow G ρ σ H ((d, v) :: pd) O) (hn : C.np≤pd.length) : ∃ G', ay G G'∧R C ow G' ρ σ H pd∧Rep G' d v := by
 let l₀ := 2 * pd.length + 1
 let G' : Hp := fun a => if hasL O l₀ a=true then H a else G a
 have sG : ay G G' := fun a o e => by
  show (if _ then _ else _)=_
  split
  ·exact h.gh _ _ e
  ·exact e
 have inH : ∀ a τ (o : HO), O a=some (l₀, τ)→H a=some o→G' a=some o := fun a τ xs q e => by
  show (if _ then _ else _)=_
  rw [if_pos (cG.mpr ⟨_, q⟩)]; exact e
 refine ⟨G', sG, ⟨fun a => if hasL O l₀ a=true then none else O a, h.len, ?_, fun a o e => sG _ _ (h.g0 _ _ e), ?_, ?_, h.cok, h.fr, (fun a ps q e => by
  show (if _ then _ else _)=_
  split
  ·rename_i c
   obtain ⟨τ, c⟩ := cG.mp c
   obtain ⟨_, ⟨xs, z⟩, _⟩ := h.og a _ c
   rw [z] at e; exact absurd (Option.some.inj e) (WrO.nt xs _ _)
  ·exact h.ft a ps q e), h.al, h.mp, ?_, ?_, hn⟩, h.pn.1.rep sG.ts d [] v (fun a τ xs q e => inH a _ xs q e)⟩
 ·intro a o e
  change (if _ then _ else _)=_ at e
  split at e
  ·exact e
  ·exact h.gh _ _ e
 ·intro a o e
  change (if _ then _ else _)=_ at e
  split at e
  ·rename_i c
   obtain ⟨π, q⟩ := cG.mp c
   obtain ⟨_, _, q3⟩ := h.og a _ q
   rcases q3 with q3 | ⟨_, q3⟩
   ·exact .inr q3
   ·rcases h.cok _ _ _ q3 with ⟨k, _, q4, _⟩ | ⟨k, q4, q5⟩
    ·exact absurd q4.symm bS
    ·have q4' : 2 * pd.length + 1=2 * k + 1 := q4
     omega
  ·exact h.gn a o e
 ·intro a l e
  try dsimp only at e
  split at e
  ·cases e
  ·rename_i c
   obtain ⟨q1, q2, q3⟩ := h.og a l e
   exact ⟨by show (if _ then _ else _)=_; rw [if_neg c]; exact q1, q2, q3⟩
 ·intro j e q
  obtain ⟨u, h1, h2⟩ := h.sl j e q
  refine ⟨u, h1, ?_⟩
  split at h2
  ·rename_i c; rw [if_pos c]
   refine h2.keep sG.ts fun a τ q => ⟨?_, rfl⟩
   rw [if_neg, q]
   intro z
   obtain ⟨π, z⟩ := cG.mp z
   rw [q] at z
   have := (Prod.mk.inj (Option.some.inj z)).1
   omega
  ·rename_i c; rw [if_neg c]; exact h2.mono sG
 ·refine bA.keep sG.ts (fun a j π hj q => ⟨?_, rfl⟩) h.pn.2
  rw [if_neg, q]
  intro z
  obtain ⟨π, z⟩ := cG.mp z
  rw [q] at z
  have := (Prod.mk.inj (Option.some.inj z)).1
  omega
theorem RO.write (h : RO C ow G ρ σ H pd O) {i : Nat} {ds : List D} (e : ρ[i]? = some (some (.lst ds))) (hi : ow[i]? = some true) :
 ∃ a xs, σ[i]? = some (some (.ref a))∧H a=some (.lst xs)∧Seps G H O (2 * i) ds 0 [] xs ∧
  ∀ ds' xs', Seps G H O (2 * i) ds' 0 [] xs'→RO C ow G (ρ.set i (some (.lst ds'))) σ (upd H a (.lst xs')) pd O := by
 obtain ⟨v, hv, s⟩ := h.sl i _ e
 rw [if_pos hi, Sep] at s
 obtain ⟨a, xs, rfl, hO, hH, hs⟩ := s
 refine ⟨a, xs, hv, hH, hs, fun ds' xs' hs' => ?_⟩
 obtain ⟨g0, _, nw⟩ := h.og a _ hO
 have ne : ∀ b l π, O b=some (l, π)→(l ≠ 2 * i∨π ≠ [])→b ≠ a := fun b l π q n z => by
  subst z
  rw [hO] at q
  obtain ⟨q1, q2⟩ := Prod.mk.inj (Option.some.inj q)
  rcases n with n | n
  ·exact n q1.symm
  ·exact n q2.symm
 refine ⟨by simp [h.len], ?_, h.g0, h.gn, ?_, h.cok, ?_, ?_, ?_, h.mp, ?_, ?_, h.np⟩
 ·intro b o q
  rw [ao (fun z => by rw [z, g0] at q; cases q)]; exact h.gh _ _ q
 ·intro b l q
  obtain ⟨q1, ⟨ys, q2⟩, q3⟩ := h.og b l q
  refine ⟨q1, ?_, q3⟩
  by_cases z : b=a
  ·subst z; exact ⟨.inl _, aA⟩
  ·rw [ao z]; exact ⟨ys, q2⟩
 ·intro b o q n t
  by_cases z : b=a
  ·subst z
   rcases nw with nw | ⟨_, nw⟩
   ·rw [nw] at q; cases q
   ·rw [nw] at n; cases n
  ·rw [ao z]; exact h.fr b o q n t
 ·intro b ps q e
  by_cases z : b=a
  ·subst z; rw [aA] at e; cases e
  ·rw [ao z] at e; exact h.ft b ps q e
 ·intro b q
  by_cases z : b=a
  ·subst z; rw [aA] at q; cases q
  ·rw [ao z] at q; exact h.al b q
 ·intro j u q
  rcases cH q with ⟨rfl, z⟩ | ⟨z, q'⟩
  ·cases z
   refine ⟨_, hv, ?_⟩
   rw [if_pos hi, Sep]
   exact ⟨a, xs', rfl, hO, aA, hs'.keep (fun _ _ z => z) fun b τ hτ q => ⟨q, ao (ne b _ _ q (.inr (by simpa using hτ)))⟩⟩
  ·obtain ⟨w, h1, h2⟩ := h.sl j u q'
   refine ⟨w, h1, ?_⟩
   split at h2
   ·rename_i c; rw [if_pos c]; exact h2.keep (fun _ _ z => z) fun b τ q => ⟨q, ao (ne b _ _ q (.inl (by omega)))⟩
   ·rename_i c; rw [if_neg c]; exact h2
 ·exact bA.keep (fun _ _ z => z) (fun b j π hj q => ⟨q, ao (ne b _ _ q (.inl (fun z => bS z.symm)))⟩) h.pn
theorem RO.join {d : D} {v : V} (h : RO C ow G ρ σ H ((d, v) :: pd) O) (i n : Nat) (hn : C.np≤pd.length) :
 ∃ O', RO C ow G ρ σ H pd O'∧Sep G H O' (2 * i) d [n] v∧∀ (l : Nat) ds k π xs, l ≠ 2 * pd.length + 1→Seps G H O l ds k π xs→Seps G H O' l ds k π xs := by
 refine ⟨lab (fun l π => if l=2 * pd.length + 1 then (2 * i, π++[n]) else (l, π)) O, ⟨h.len, h.gh, h.g0, h.gn, ?_, h.cok, h.fr, h.ft, h.al, h.mp, ?_, ?_, hn⟩, ?_, ?_⟩
 ·intro a m e
  obtain ⟨l, π, e1, rfl⟩ := fK e
  obtain ⟨q1, q2, q3⟩ := h.og a _ e1
  refine ⟨q1, q2, ?_⟩
  try dsimp only
  split
  ·rename_i z
   rcases q3 with q3 | ⟨_, q3⟩
   ·exact .inl q3
   ·rcases h.cok _ _ _ q3 with ⟨k, _, q4, _⟩ | ⟨k, q4, q5⟩
    ·exact absurd (q4.symm.trans z) bS
    ·omega
  ·exact q3
 ·intro j e q
  obtain ⟨u, h1, h2⟩ := h.sl j e q
  refine ⟨u, h1, ?_⟩
  split at h2
  ·rename_i c; rw [if_pos c]; exact h2.keep (fun _ _ z => z) fun a τ q => ⟨by rw [bp q, if_neg bS], rfl⟩
  ·rename_i c; rw [if_neg c]; exact h2
 ·exact bA.keep (fun _ _ z => z) (fun a j π hj q => ⟨by rw [bp q, if_neg (by omega)], rfl⟩) h.pn.2
 ·exact Sep.map (f := fun π => π++[n]) (fun _ _ z => z) (fun _ _ => rfl) d [] v (fun a τ q => ⟨by rw [bp q, if_pos rfl], rfl⟩) h.pn.1
 ·intro l ds k π xs hl hs
  exact hs.keep (fun _ _ z => z) fun a τ _ q => ⟨by rw [bp q, if_neg hl], rfl⟩
end
def bor (js : List Nat) (ow : List Bool) : List Bool := ow.mapIdx fun j b => b && !js.contains j
theorem cX {js : List Nat} {ow : List Bool} {j : Nat} : (bor js ow)[j]? = some true↔ow[j]? = some true∧js.contains j=false := by
 unfold bor
 rw [List.getElem?_mapIdx]
 cases e : ow[j]? with
 | none => simp
 | some b => cases b <;> simp
def jq (ρ : DSt) (js : List Nat) (n l : Nat) : Bool := if l % 2=0 then (match ρ[l / 2]? with | some (some _) => !js.contains (l / 2) | _ => false) else decide (l / 2<n)
def ge (js : List Nat) (l : Nat) : Bool := decide (l % 2=0)&&js.contains (l / 2)
def b2 (f : Nat→Bool) (O : Own) : Own := fun a => match O a with
 | some m => if f m.1=true then some m else none
 | none => none
theorem d5 {f : Nat→Bool} {O : Own} {a : Addr} {m : Nat×List Nat} (h : O a=some m) (hf : f m.1=true) : b2 f O a=some m := by unfold b2; rw [h]; show (if _ then _ else _)=_; rw [if_pos hf]
theorem b4 {f : Nat→Bool} {O : Own} {a : Addr} {m : Nat×List Nat} (h : b2 f O a=some m) : O a=some m∧f m.1=true := by
 unfold b2 at h
 cases e : O a with
 | none => rw [e] at h; cases h
 | some n =>
  rw [e] at h
  change (if _ then _ else _)=_ at h
  split at h
  ·rename_i c; cases h; exact ⟨rfl, c⟩
  ·cases h
def isSm {α : Type} : Option α→Bool
 | some _ => true
 | none => false
section
variable {C : Ctx} {ow : List Bool} {G : Hp} {ρ : DSt} {σ : St} {H : Hp} {pd : List (D×V)} {O : Own}
def gBor (js : List Nat) (G H : Hp) (O : Own) : Hp := fun a => if isSm (b2 (ge js) O a)=true then H a else G a
def cBor (js : List Nat) (G H : Hp) (O : Own) (ρ : DSt) (σ : St) (n : Nat) : Ctx := ⟨gBor js G H O, H, b2 (jq ρ js n) O, σ, n⟩
theorem gz (h : RO C ow G ρ σ H pd O) (js : List Nat) : ay G (gBor js G H O) := fun a o e => by
 show (if _ then _ else _)=_
 split
 ·exact h.gh _ _ e
 ·exact e
theorem fk {α : Type} {o : Option α} (h : isSm o=true) : ∃ x, o=some x := by cases o with | none => cases h | some x => exact ⟨x, rfl⟩
theorem RO.enter (h : RO C ow G ρ σ H pd O) (js : List Nat) : RO (cBor js G H O ρ σ pd.length) (bor js ow) (gBor js G H O) ρ σ H pd (b2 (jq ρ js pd.length) O) := by
 have sG := gz h js
 refine ⟨h.len, ?_, fun _ _ e => e, fun _ _ e => .inl e, ?_, ?_, fun _ _ e _ _ => e, (fun a ps q e => by
  show (if _ then _ else _)=_
  split
  ·rename_i c
   obtain ⟨m, c⟩ := fk c
   obtain ⟨_, ⟨xs, z⟩, _⟩ := h.og a m (b4 c).1
   rw [z] at e; exact absurd (Option.some.inj e) (WrO.nt xs _ _)
  ·exact h.ft a ps q e), fun _ e => e, fun _ _ e => e, ?_, ?_, Nat.le_refl _⟩
 ·intro a o e
  change (if _ then _ else _)=_ at e
  split at e
  ·exact e
  ·exact h.gh _ _ e
 ·intro a l e
  obtain ⟨e1, e2⟩ := b4 e
  obtain ⟨q1, q2, q3⟩ := h.og a l e1
  refine ⟨?_, q2, .inr ⟨l.2, e⟩⟩
  ·show (if _ then _ else _)=_
   rw [if_neg]; exact q1
   intro z
   obtain ⟨m, z⟩ := fk z
   obtain ⟨z1, z2⟩ := b4 z
   rw [e1] at z1; cases z1
   unfold ge at z2; unfold jq at e2
   simp only [Bool.and_eq_true, decide_eq_true_eq] at z2
   rw [if_pos z2.1] at e2
   split at e2
   ·rw [z2.2] at e2; cases e2
   ·cases e2
 ·intro a l π e
  obtain ⟨e1, e2⟩ := b4 e
  unfold jq at e2
  split at e2
  ·rename_i c
   split at e2
   ·rename_i d hd
    obtain ⟨v, hv, _⟩ := h.sl _ _ hd
    exact .inl ⟨l / 2, v, by omega, hv⟩
   ·cases e2
  ·exact .inr ⟨l / 2, by omega, of_decide_eq_true e2⟩
 ·intro j d e
  obtain ⟨v, h1, h2⟩ := h.sl j d e
  refine ⟨v, h1, ?_⟩
  by_cases c : ow[j]? = some true
  ·rw [if_pos c] at h2
   by_cases c2 : js.contains j=true
   ·rw [if_neg (fun z => by rw [cX] at z; rw [c2] at z; exact absurd z.2 (by decide))]
    refine h2.rep sG.ts d [] v fun a τ xs q e => ?_
    show (if _ then _ else _)=_
    rw [if_pos]; exact e
    rw [d5 q]; rfl
    unfold ge
    simp only [Bool.and_eq_true, decide_eq_true_eq]
    exact ⟨by omega, by rw [show 2 * j / 2=j by omega]; exact c2⟩
   ·rw [if_pos (cX.mpr ⟨c, by simpa using c2⟩)]
    refine h2.keep sG.ts fun a τ q => ⟨d5 q ?_, rfl⟩
    unfold jq
    show (if 2 * j % 2=0 then _ else _)=_
    rw [if_pos (by omega), show 2 * j / 2=j by omega, e]
    simp at c2 ⊢; exact c2
  ·rw [if_neg c] at h2
   rw [if_neg (fun z => c (cX.mp z).1)]
   exact h2.mono sG
 ·refine bA.keep sG.ts (fun a j π hj q => ⟨d5 q ?_, rfl⟩) h.pn
  unfold jq
  show (if (2 * j + 1) % 2=0 then _ else _)=_
  rw [if_neg (by omega), show (2 * j + 1) / 2=j by omega]
  simpa using hj
def Kp (ow : List Bool) (ρ ρ' : DSt) : Prop := ∀ (j : Nat), ow[j]? ≠ some true→ρ'[j]? = ρ[j]?
def iX (js : List Nat) (O : Own) (G2 : Hp) : Hp := fun a => if isSm (b2 (ge js) O a)=true then none else G2 a
def pN (js : List Nat) (O O2 : Own) : Own := fun a => match O2 a with
 | some l => some l
 | none => b2 (ge js) O a
theorem RO.leave (h : RO C ow G ρ σ H pd O) {js : List Nat} {G2 : Hp} {ρ2 : DSt} {H2 : Hp} {pd2 : List (D×V)} {O2 : Own}
 (h2 : RO (cBor js G H O ρ σ pd.length) (bor js ow) G2 ρ2 σ H2 pd2 O2) (kp : Kp (bor js ow) ρ ρ2) :
 RO C ow (iX js O G2) ρ2 σ H2 pd2 (pN js O O2)∧ay G (iX js O G2)∧bP G2 (iX js O G2) := by
 have sG := gz h js
 have dm : ∀ a m, b2 (ge js) O a=some m→O a=some m∧G a=none∧∃ xs : WrO, H a=some xs.ho∧G2 a=some xs.ho := fun a m e => by
  obtain ⟨e1, e2⟩ := b4 e
  obtain ⟨q1, ⟨xs, q2⟩, q3⟩ := h.og a m e1
  refine ⟨e1, q1, xs, q2, h2.g0 a _ ?_⟩
  show (if _ then _ else _)=_
  rw [if_pos (by rw [e]; rfl)]; exact q2
 have nd : ∀ a, G a ≠ none→¬ isSm (b2 (ge js) O a)=true := fun a g z => by
  obtain ⟨m, z⟩ := fk z
  exact g (dm a m z).2.1
 have sG3 : ay G (iX js O G2) := fun a o e => by
  show (if _ then _ else _)=_
  rw [if_neg (nd a (by rw [e]; simp))]
  exact h2.g0 a o (sG a o e)
 have ts : bP G2 (iX js O G2) := fun a xs e => by
  show (if _ then _ else _)=_
  rw [if_neg]; exact e
  intro z
  obtain ⟨m, z⟩ := fk z
  obtain ⟨_, _, ys, _, q⟩ := dm a m z
  rw [e] at q; exact (WrO.ne (Option.some.inj q).symm).elim
 have o2 : ∀ a l, O2 a=some l→pN js O O2 a=some l := fun a l e => by show (match O2 a with | some l => some l | none => _)=_; rw [e]
 refine ⟨⟨h2.len, ?_, fun a o e => sG3 _ _ (h.g0 _ _ e), ?_, ?_, h.cok, ?_, (fun a ps q e => by show (if _ then _ else _)=_; split <;> first | rfl | exact h2.ft a ps q e), fun a e => h.al a (h2.al a e), h.mp, ?_, ?_, Nat.le_trans h.np h2.np⟩, sG3, ts⟩
 ·intro a o e
  change (if _ then _ else _)=_ at e
  split at e
  ·cases e
  ·exact h2.gh _ _ e
 ·intro a o e
  change (if _ then _ else _)=_ at e
  split at e
  ·cases e
  ·rename_i c
   rcases h2.gn a o e with q | q
   ·change (if _ then _ else _)=_ at q
    rw [if_neg c] at q
    exact h.gn a o q
   ·exact .inr (h.al a q)
 ·intro a l e
  change (match O2 a with | some l => some l | none => _)=_ at e
  cases q : O2 a with
  | some l' =>
   rw [q] at e; cases e
   obtain ⟨q1, q2, q3⟩ := h2.og a l q
   refine ⟨by show (if _ then _ else _)=_; split <;> first | rfl | exact q1, q2, ?_⟩
   rcases q3 with q3 | ⟨q3, q4⟩
   ·exact .inl (h.al a q3)
   ·exact (h.og a _ (b4 q4).1).2.2
  | none =>
   rw [q] at e
   change b2 (ge js) O a=some l at e
   obtain ⟨e1, q1, xs, q2, q3⟩ := dm a l e
   refine ⟨by show (if _ then _ else _)=_; rw [if_pos (by rw [e]; rfl)], ⟨xs, h2.gh _ _ q3⟩, (h.og a l e1).2.2⟩
 ·intro a o e n t
  have q := h.fr a o e n t
  refine h2.fr a o q ?_ t
  show b2 _ O a=none
  cases z : b2 (jq ρ js pd.length) O a with
  | none => rfl
  | some m =>
   obtain ⟨z1, _⟩ := b4 z
   obtain ⟨_, _, z3⟩ := h.og a m z1
   rcases z3 with z3 | ⟨_, z3⟩
   ·rw [z3] at e; cases e
   ·rw [z3] at n; cases n
 ·intro j d e
  by_cases c : (bor js ow)[j]? = some true
  ·obtain ⟨v, q1, q2⟩ := h2.sl j d e
   rw [if_pos c] at q2
   refine ⟨v, q1, ?_⟩
   rw [if_pos (cX.mp c).1]
   exact q2.keep ts fun a τ q => ⟨o2 _ _ q, rfl⟩
  ·rw [kp j c] at e
   obtain ⟨v, q1, q2⟩ := h.sl j d e
   refine ⟨v, q1, ?_⟩
   by_cases c2 : ow[j]? = some true
   ·rw [if_pos c2] at q2 ⊢
    have hj : js.contains j=true := by
     cases z : js.contains j with
     | true => rfl
     | false => exact absurd (cX.mpr ⟨c2, z⟩) c
    refine q2.keep sG3.ts fun a τ q => ?_
    have dd : b2 (ge js) O a=some (2 * j, τ++[]) := d5 q (by
     unfold ge
     simp only [Bool.and_eq_true, decide_eq_true_eq]
     exact ⟨by omega, by rw [show 2 * j / 2=j by omega]; exact hj⟩)
    obtain ⟨_, _, xs, q4, q5⟩ := dm a _ dd
    refine ⟨?_, by rw [q4]; exact h2.gh _ _ q5⟩
    show (match O2 a with | some l => some l | none => _)=_
    cases z : O2 a with
    | some l => have := (h2.og a l z).1; rw [q5] at this; cases this
    | none => exact dd
   ·rw [if_neg c2] at q2 ⊢
    exact q2.mono sG3
 ·exact bA.keep ts (fun a j π hj q => ⟨o2 _ _ q, rfl⟩) h2.pn
end
abbrev ME := DSt→(D→DSt→Prop)→Prop
abbrev MT := DSt→(Bool→DSt→Prop)→Prop
abbrev MA := DSt→(List D→DSt→Prop)→Prop
def SE (ow : List Bool) (t : TE) (m : ME) : Prop := ∀ (C : Ctx) (G : Hp) (ρ : DSt) (σ : St) (H : Hp) (pd : List (D×V)) (q : D→DSt→Prop) (Q : VK), R C ow G ρ σ H pd→m ρ q →
 (∀ d ρ' v G' H', q d ρ'→ay G G'→Kp ow ρ ρ'→R C ow G' ρ' σ H' pd→Rep G' d v→Q v H')→t σ H Q
def SF (ow : List Bool) (t : TE) (m : ME) : Prop := ∀ (C : Ctx) (G : Hp) (ρ : DSt) (σ : St) (H : Hp) (pd : List (D×V)) (q : D→DSt→Prop) (Q : VK), R C ow G ρ σ H pd→m ρ q →
 (∀ d ρ' v G' H', q d ρ'→ay G G'→Kp ow ρ ρ'→R C ow G' ρ' σ H' ((d, v) :: pd)→Q v H')→t σ H Q
def STe (ow : List Bool) (t : TT) (m : MT) : Prop := ∀ (C : Ctx) (G : Hp) (ρ : DSt) (σ : St) (H : Hp) (pd : List (D×V)) (q : Bool→DSt→Prop) (Q : Bool→Hp→Prop), R C ow G ρ σ H pd→m ρ q →
 (∀ b ρ' G' H', q b ρ'→ay G G'→Kp ow ρ ρ'→R C ow G' ρ' σ H' pd→Q b H')→t σ H Q
def SA (ow : List Bool) (n : Nat) (t : TA) (m : MA) : Prop := ∀ (C : Ctx) (G : Hp) (ρ : DSt) (σ : St) (H : Hp) (pd : List (D×V)) (q : List D→DSt→Prop) (Q : List V→Hp→Prop), R C ow G ρ σ H pd→m ρ q →
 (∀ ds ρ' vs G' H', q ds ρ'→ay G G'→Kp ow ρ ρ'→R C ow G' ρ' σ H' pd→Reps G' ds vs→vs.length=n→Q vs H')→t σ H Q
structure QE (X : Cx) (ow : List Bool) (e : Expr) (m : ME) : Prop where
 ex : ∃ t, PE X e t∧SE ow t m
structure QF (X : Cx) (ow : List Bool) (e : Expr) (m : ME) : Prop where
 ex : ∃ t, PE X e t∧SF ow t m
structure QT (X : Cx) (ow : List Bool) (e : Expr) (m : MT) : Prop where
 ex : ∃ t, PT X e t∧STe ow t m
structure QW (X : Cx) (ow : List Bool) (e : Expr) (m : MT) : Prop where
 ex : ∃ t, PW X e t∧STe ow t m
structure QA (X : Cx) (ow : List Bool) (es : List Expr) (m : MA) : Prop where
 ex : ∃ t, PA X es t∧SA ow es.length t m
theorem Kp.refl {ow : List Bool} {ρ : DSt} : Kp ow ρ ρ := fun _ _ => rfl
theorem Kp.trans {ow : List Bool} {ρ ρ1 ρ2 : DSt} (a : Kp ow ρ ρ1) (b : Kp ow ρ1 ρ2) : Kp ow ρ ρ2 := fun j h => (b j h).trans (a j h)
theorem R.gh {C : Ctx} {ow : List Bool} {G : Hp} {ρ : DSt} {σ : St} {H : Hp} {pd : List (D×V)} (h : R C ow G ρ σ H pd) : ay G H := let ⟨_, h⟩ := h; h.gh
theorem R.np {C : Ctx} {ow : List Bool} {G : Hp} {ρ : DSt} {σ : St} {H : Hp} {pd : List (D×V)} (h : R C ow G ρ σ H pd) : C.np≤pd.length := let ⟨_, h⟩ := h; h.np
section
variable {X : Cx} {ow : List Bool} {a b c e : Expr} {ma mb mc : ME} {pos : Pos}
def mVar (i : Nat) : ME := fun ρ q => match ρ[i]? with
 | some (some d) => q d ρ
 | _ => False
theorem aa (i : Nat) {x : Str} (hs : ow[i]? ≠ some true := by decide) (hN : X.N[i]? = some x := by rfl) (hv : Vis X.env.scope x := by first | exact Or.inl rfl | exact Or.inr (Or.inl rfl) | exact Or.inr (Or.inr rfl)) (hd : (x == ("__debug__" : Str))=false := by decide)
 (hcd : (x == ("__classdict__" : Str))=false := by decide) : QE X ow (.Name x pos) (mVar i) := ⟨_, eC hN hv hd hcd, fun C G ρ σ H pd q Q r h k => by
 unfold mVar at h
 split at h
 ·rename_i d e
  obtain ⟨O, ro⟩ := r
  obtain ⟨v, h1, h2⟩ := ro.sl i d e
  rw [if_neg hs] at h2
  exact ⟨v, h1, k d ρ v G H h (ay.refl _) Kp.refl ⟨O, ro⟩ h2⟩
 ·exact h.elim⟩
def mC (d : D) : ME := fun ρ q => q d ρ
theorem nF {v : V} {d : D} (h : PE X e (tC v)) (hr : ∀ G, Rep G d v) : QE X ow e (mC d) := ⟨_, h, fun C G ρ σ H pd q Q r h k => k d ρ v G H h (ay.refl _) Kp.refl r (hr G)⟩
theorem ad {i j} : QE X ow (.Constant (.int i) j pos) (mC (.int i)) := nF nR fun _ => bg _
theorem bN {i j} : QE X ow (.Constant (.bool i) j pos) (mC (.bl i)) := nF pe_bl fun _ => bh _
theorem jr {j} : QE X ow (.Constant .none j pos) (mC .non) := nF ql fun _ => jY
theorem rM {i j} : QE X ow (.Constant (.str i) j pos) (mC (.str i)) := nF qM fun _ => gW _
theorem cO {x : Str} {i : Int} (hg : Gl X x) (hm : ∃ t, X.mg x=some (.int i t)) (hd : (x == ("__debug__" : Str))=false := by decide) : QE X ow (.Name x pos) (mC (.int i)) := by
 obtain ⟨t, hm⟩ := hm
 exact nF (o9 (v := .int i) hg hm ⟨t, rfl⟩ hd) fun _ => bg _
theorem gU {ta tb : TE} (ha : SE ow ta ma) (hb : SE ow tb mb) {C : Ctx} {G : Hp} {ρ : DSt} {σ : St} {H : Hp} {pd : List (D×V)} {f : D→D→DSt→Prop} {Q : V→V→Hp→Prop}
 (r : R C ow G ρ σ H pd) (h : ma ρ fun x ρ1 => mb ρ1 fun y ρ2 => f x y ρ2)
 (k : ∀ dx dy ρ' x y G' H', f dx dy ρ'→ay G G'→Kp ow ρ ρ'→R C ow G' ρ' σ H' pd→Rep G' dx x→Rep G' dy y→Q x y H') : ta σ H fun x H1 => tb σ H1 fun y H2 => Q x y H2 := by
 refine ha C G ρ σ H pd _ _ r h fun dx ρ1 x G1 H1 h1 s1 k1 r1 p1 => ?_
 refine hb C G1 ρ1 σ H1 pd _ _ r1 h1 fun dy ρ2 y G2 H2 h2 s2 k2 r2 p2 => ?_
 exact k dx dy ρ2 x y G2 H2 h2 (s1.trans s2) (k1.trans k2) r2 (Rep.mono s2 _ _ p1) p2
def DOp (r : R2) (f : D→D→(D→Prop)→Prop) : Prop := ∀ (G H : Hp) (x y : V) (dx dy : D) (q : D→Prop) (Q : VK), ay G H→Rep G dx x→Rep G dy y→f dx dy q→(∀ d v, q d→Rep G d v→Q v H)→r x y H Q
def mOp (f : D→D→(D→Prop)→Prop) (ma mb : ME) : ME := fun ρ q => ma ρ fun x ρ1 => mb ρ1 fun y ρ2 => f x y fun d => q d ρ2
theorem jT {r : R2} {f : D→D→(D→Prop)→Prop} {ta tb : TE} (hd : DOp r f) (ha : SE ow ta ma) (hb : SE ow tb mb) : SE ow (tOp r ta tb) (mOp f ma mb) := fun C G ρ σ H pd q Q hr h k => by
 refine gU ha hb hr h fun dx dy ρ' x y G' H' hf s kp r' p1 p2 => ?_
 exact hd G' H' x y dx dy _ _ r'.gh p1 p2 hf fun d v hq p => k d ρ' v G' H' hq s kp r' p
theorem ax {op : Operator} {r : R2} {f : D→D→(D→Prop)→Prop} (ho : OpR X (binaryOp op) r) (hd : DOp r f) (ha : QE X ow a ma) (hb : QE X ow b mb) : QE X ow (.BinOp a op b pos) (mOp f ma mb) := by
 obtain ⟨ta, pa, sa⟩ := ha; obtain ⟨tb, pb, sb⟩ := hb
 exact ⟨_, pQ ho pa pb, jT hd sa sb⟩
theorem dz {op : CmpOp} {r : R2} {f : D→D→(D→Prop)→Prop} (ho : OpR X (compareOp op) r) (hd : DOp r f) (ha : QE X ow a ma) (hb : QE X ow b mb) (hm : behindInMarks op b=false) : QE X ow (.Compare a [op] [b] pos) (mOp f ma mb) := by
 obtain ⟨ta, pa, sa⟩ := ha; obtain ⟨tb, pb, sb⟩ := hb
 exact ⟨_, nZ ho pa pb hm, jT hd sa sb⟩
theorem a6 {r : R2} {f : D→D→(D→Prop)→Prop} (ho : IxR X r) (hd : DOp r f) (ha : QE X ow a ma) (hb : QE X ow b mb) (hs : jD b) : QE X ow (.Subscript a b pos) (mOp f ma mb) := by
 obtain ⟨ta, pa, sa⟩ := ha; obtain ⟨tb, pb, sb⟩ := hb
 exact ⟨_, pe_ix ho pa pb hs, jT hd sa sb⟩
def mB (m : ME) : MT := fun ρ q => m ρ fun d ρ' => match d with
 | .bl b => q b ρ'
 | _ => False
theorem bc {G : Hp} {b : Bool} {v : V} (h : Rep G (.bl b) v) : v = .bl b := by rw [Rep] at h; exact h
theorem au {G : Hp} {b : Int} {v : V} (h : Rep G (.int b) v) : v = .int b := by rw [Rep] at h; exact h
theorem ny {t : TE} {m : ME} (h : SE ow t m) : STe ow (ls t) (mB m) := fun C G ρ σ H pd q Q r hm k => by
 refine h C G ρ σ H pd _ _ r hm fun d ρ' v G' H' hq s kp r' p => ?_
 cases d with
 | bl b => exact ⟨b, bc p, k b ρ' G' H' hq s kp r'⟩
 | _ => exact hq.elim
theorem aL {op : CmpOp} {r : R2} {f : D→D→(D→Prop)→Prop} (ho : OpR X (compareOp op) r) (hd : DOp r f) (ha : QE X ow a ma) (hb : QE X ow b mb) (hm : behindInMarks op b=false) : QT X ow (.Compare a [op] [b] pos) (mB (mOp f ma mb)) := by
 obtain ⟨ta, pa, sa⟩ := ha; obtain ⟨tb, pb, sb⟩ := hb
 exact ⟨_, oI ho pa pb hm, ny (jT hd sa sb)⟩
theorem bd (h : QE X ow e ma) (he : ∀ whole, isTrue e X.env whole=(do let v ← whole; standAt e.pos; holding [v] (truthy v)) := by intro _; rfl) : QT X ow e (mB ma) := by
 obtain ⟨ta, pa, sa⟩ := h
 exact ⟨_, rR pa he, ny sa⟩
def mIf {α : Type} (m : MT) (x y : DSt→(α→DSt→Prop)→Prop) : DSt→(α→DSt→Prop)→Prop := fun ρ q => m ρ fun b ρ1 => if b=true then x ρ1 q else y ρ1 q
def lW (b : Bool) : MT := fun ρ q => q b ρ
theorem pF {t t1 t2 : TT} {m m1 m2 : MT} (h : STe ow t m) (h1 : STe ow t1 m1) (h2 : STe ow t2 m2) : STe ow (fun σ H Q => t σ H fun c H1 => if c=true then t1 σ H1 Q else t2 σ H1 Q) (mIf m m1 m2) := fun C G ρ σ H pd q Q r hm k => by
 refine h C G ρ σ H pd _ _ r hm fun b ρ' G' H' hq s kp r' => ?_
 cases b with
 | true => rw [if_pos rfl] at hq ⊢; exact h1 C G' ρ' σ H' pd _ _ r' hq fun b ρ2 G2 H2 hq2 s2 kp2 r2 => k b ρ2 G2 H2 hq2 (s.trans s2) (kp.trans kp2) r2
 | false => rw [if_neg (by decide)] at hq ⊢; exact h2 C G' ρ' σ H' pd _ _ r' hq fun b ρ2 G2 H2 hq2 s2 kp2 r2 => k b ρ2 G2 H2 hq2 (s.trans s2) (kp.trans kp2) r2
theorem i5 (b : Bool) : STe ow (fun _ H Q => Q b H) (lW b) := fun C G ρ σ H pd q Q r hm k => k b ρ G H hm (ay.refl _) Kp.refl r
variable {mt mu mv : MT} {rest : List Expr}
theorem kc (h : QT X ow a mt) : QW X ow (.BoolOp .And [a] pos) mt := by obtain ⟨t, p, s⟩ := h; exact ⟨_, ot p, s⟩
theorem eE (h : QT X ow a mt) : QW X ow (.BoolOp .Or [a] pos) mt := by obtain ⟨t, p, s⟩ := h; exact ⟨_, rT p, s⟩
theorem lj (h : QT X ow a mt) (h2 : QW X ow (.BoolOp .And (b :: rest) pos) mu) : QW X ow (.BoolOp .And (a :: b :: rest) pos) (mIf mt mu (lW false)) := by
 obtain ⟨t, p, s⟩ := h; obtain ⟨t2, p2, s2⟩ := h2; exact ⟨_, rp p p2, pF s s2 (i5 false)⟩
theorem fJ (h : QT X ow a mt) (h2 : QW X ow (.BoolOp .Or (b :: rest) pos) mu) : QW X ow (.BoolOp .Or (a :: b :: rest) pos) (mIf mt (lW true) mu) := by
 obtain ⟨t, p, s⟩ := h; obtain ⟨t2, p2, s2⟩ := h2; exact ⟨_, pw_or p p2, pF s (i5 true) s2⟩
theorem QW.qt (h : QW X ow e mt) : QT X ow e mt := by obtain ⟨t, p, s⟩ := h; exact ⟨_, p.pt, s⟩
def mNot (m : MT) : MT := fun ρ q => m ρ fun b ρ' => q (!b) ρ'
theorem bf (h : QT X ow a mt) : QT X ow (.UnaryOp .Not a pos) (mNot mt) := by
 obtain ⟨t, p, s⟩ := h
 exact ⟨_, qu p, fun C G ρ σ H pd q Q r hm k => s C G ρ σ H pd _ _ r hm fun b ρ' G' H' hq s kp r' => k _ ρ' G' H' hq s kp r'⟩
def mV (m : MT) : ME := fun ρ q => m ρ fun b ρ' => q (.bl b) ρ'
theorem dG {op} (h : QE X ow a ma) : QE X ow (.BoolOp op [a] pos) ma := by obtain ⟨t, p, s⟩ := h; exact ⟨_, rq p, s⟩
theorem rW (h : QE X ow a ma) : QE X ow (.UnaryOp .Not a pos) (mV (mNot (mB ma))) := by
 obtain ⟨t, p, s⟩ := h
 refine ⟨_, p5 p, fun C G ρ σ H pd q Q r hm k => ?_⟩
 refine s C G ρ σ H pd _ _ r hm fun d ρ' v G' H' hq s kp r' p => ?_
 cases d with
 | bl b => exact ⟨b, bc p, k _ ρ' _ G' H' hq s kp r' (bh _)⟩
 | _ => exact hq.elim
theorem cB (h : QE X ow a ma) (h2 : QE X ow (.BoolOp .And (b :: rest) pos) mb) : QE X ow (.BoolOp .And (a :: b :: rest) pos) (mIf (mB ma) mb (mC (.bl false))) := by
 obtain ⟨t, p, s⟩ := h; obtain ⟨t2, p2, s2⟩ := h2
 refine ⟨_, qc p p2, fun C G ρ σ H pd q Q r hm k => ?_⟩
 refine s C G ρ σ H pd _ _ r hm fun d ρ' v G' H' hq s kp r' p => ?_
 cases d with
 | bl b =>
  refine ⟨b, bc p, ?_⟩
  change (if b=true then _ else _) at hq
  cases b with
  | true => rw [if_pos rfl] at hq ⊢; exact s2 C G' ρ' σ H' pd _ _ r' hq fun d ρ2 v G2 H2 hq2 z2 kp2 r2 p2 => k d ρ2 v G2 H2 hq2 (s.trans z2) (kp.trans kp2) r2 p2
  | false => rw [if_neg (by decide)] at hq ⊢; exact k _ ρ' _ G' H' hq s kp r' (bh _)
 | _ => exact hq.elim
theorem QF.qe (h : QF X ow e ma) : QE X ow e ma := by
 obtain ⟨t, p, s⟩ := h
 refine ⟨_, p, fun C G ρ σ H pd q Q r hm k => s C G ρ σ H pd _ _ r hm fun d ρ' v G' H' hq s kp r' => ?_⟩
 obtain ⟨O, r'⟩ := r'
 obtain ⟨G2, s2, r2, p2⟩ := r'.share r.np
 exact k d ρ' v G2 H' hq (s.trans s2) kp r2 p2
def mImm (m : ME) : ME := fun ρ q => m ρ fun d ρ' => imm d=true∧q d ρ'
theorem QE.qf (h : QE X ow e ma) : QF X ow e (mImm ma) := by
 obtain ⟨t, p, s⟩ := h
 refine ⟨_, p, fun C G ρ σ H pd q Q r hm k => s C G ρ σ H pd _ _ r hm fun d ρ' v G' H' hq s kp r' p => ?_⟩
 obtain ⟨O, r'⟩ := r'
 exact k d ρ' v G' H' hq.2 s kp ⟨O, r'.len, r'.gh, r'.g0, r'.gn, r'.og, r'.cok, r'.fr, r'.ft, r'.al, r'.mp, r'.sl, ⟨p.sep d [] v hq.1, r'.pn⟩, Nat.le_succ_of_le r'.np⟩
theorem ju {js : List Nat} {ρ ρ' : DSt} (h : Kp (bor js ow) ρ ρ') : Kp ow ρ ρ' := fun j n => h j fun z => n (cX.mp z).1
theorem QE.bor (js : List Nat) (h : QE X (bor js ow) e ma) : QE X ow e (mImm ma) := by
 obtain ⟨t, p, s⟩ := h
 refine ⟨_, p, fun C G ρ σ H pd q Q r hm k => ?_⟩
 obtain ⟨O, r⟩ := r
 refine s _ _ ρ σ H pd _ _ ⟨_, r.enter js⟩ hm fun d ρ' v G' H' hq s kp r' p => ?_
 obtain ⟨O', r'⟩ := r'
 obtain ⟨r2, s2, ts⟩ := r.leave r' kp
 exact k d ρ' v _ H' hq.2 s2 (ju kp) ⟨_, r2⟩ (p.imms ts d v hq.1)
theorem QF.bor (js : List Nat) (h : QF X (bor js ow) e ma) : QF X ow e ma := by
 obtain ⟨t, p, s⟩ := h
 refine ⟨_, p, fun C G ρ σ H pd q Q r hm k => ?_⟩
 obtain ⟨O, r⟩ := r
 refine s _ _ ρ σ H pd _ _ ⟨_, r.enter js⟩ hm fun d ρ' v G' H' hq s kp r' => ?_
 obtain ⟨O', r'⟩ := r'
 obtain ⟨r2, s2, ts⟩ := r.leave r' kp
 exact k d ρ' v _ H' hq s2 (ju kp) ⟨_, r2⟩
theorem QT.bor (js : List Nat) (h : QT X (bor js ow) e mt) : QT X ow e mt := by
 obtain ⟨t, p, s⟩ := h
 refine ⟨_, p, fun C G ρ σ H pd q Q r hm k => ?_⟩
 obtain ⟨O, r⟩ := r
 refine s _ _ ρ σ H pd _ _ ⟨_, r.enter js⟩ hm fun d ρ' G' H' hq s kp r' => ?_
 obtain ⟨O', r'⟩ := r'
 obtain ⟨r2, s2, ts⟩ := r.leave r' kp
 exact k d ρ' _ H' hq s2 (ju kp) ⟨_, r2⟩
def nG : MA := fun ρ q => q [] ρ
def eS (m : ME) (r : MA) : MA := fun ρ q => m ρ fun d ρ1 => r ρ1 fun ds ρ2 => q (d :: ds) ρ2
variable {mr : MA} {es : List Expr}
theorem ah : QA X ow [] nG := ⟨_, b3, fun C G ρ σ H pd q Q r h k => k [] ρ [] G H h (ay.refl _) Kp.refl r aV rfl⟩
theorem ac (ha : QE X ow e ma) (hr : QA X ow es mr) (hs : starEach (e :: es) X.env=(false, eval e X.env) :: starEach es X.env := by rfl) : QA X ow (e :: es) (eS ma mr) := by
 obtain ⟨t, p, s⟩ := ha; obtain ⟨t2, p2, s2⟩ := hr
 refine ⟨_, ba p p2 hs, fun C G ρ σ H pd q Q r hm k => ?_⟩
 refine s C G ρ σ H pd _ _ r hm fun d ρ' v G' H' hq z kp r' p => ?_
 refine s2 C G' ρ' σ H' pd _ _ r' hq fun ds ρ2 vs G2 H2 hq2 z2 kp2 r2 p2 hl => ?_
 exact k (d :: ds) ρ2 (v :: vs) G2 H2 hq2 (z.trans z2) (kp.trans kp2) r2 (aT (Rep.mono z2 _ _ p) p2) (by simp [hl])
def mTup (m : MA) : ME := fun ρ q => m ρ fun ds ρ' => q (.tup ds) ρ'
def mLst (m : MA) : ME := fun ρ q => m ρ fun ds ρ' => q (.lst ds) ρ'
def mLstI (m : MA) : ME := fun ρ q => m ρ fun ds ρ' => imms ds=true∧q (.lst ds) ρ'
theorem cA {n : Nat} (h : n≤1000) : n≤sizeLine := Nat.le_of_lt (bC h)
theorem fF {x1} (h : QA X ow es mr) (hl : es.length≤1000 := by decide) : QE X ow (.Tuple es x1 pos) (mTup mr) := by
 obtain ⟨t, p, s⟩ := h
 refine ⟨_, lE p, fun C G ρ σ H pd q Q r hm k => s C G ρ σ H pd _ _ r hm fun ds ρ' vs G' H' hq z kp r' p hn => ⟨cA (by omega), fun a ha => ?_⟩⟩
 obtain ⟨O, r'⟩ := r'
 obtain ⟨r2, s2⟩ := r'.new ha (.tup vs)
 exact k _ ρ' _ _ _ hq (z.trans s2) kp ⟨O, r2⟩ (h_ aA (Reps.mono s2 _ _ p))
theorem a8 (h : QA X ow es mr) (hl : es.length≤1000 := by decide) : QE X ow (.List es pos) (mLst mr) := by
 obtain ⟨t, p, s⟩ := h
 refine ⟨_, nJ p, fun C G ρ σ H pd q Q r hm k => s C G ρ σ H pd _ _ r hm fun ds ρ' vs G' H' hq z kp r' p hn => ⟨cA (by omega), fun a ha => ?_⟩⟩
 obtain ⟨O, r'⟩ := r'
 obtain ⟨r2, s2⟩ := r'.new ha (.lst vs)
 exact k _ ρ' _ _ _ hq (z.trans s2) kp ⟨O, r2⟩ (fj aA (Reps.mono s2 _ _ p))
theorem hU (h : QA X ow es mr) (hl : es.length≤1000 := by decide) : QF X ow (.List es pos) (mLstI mr) := by
 obtain ⟨t, p, s⟩ := h
 refine ⟨_, nJ p, fun C G ρ σ H pd q Q r hm k => s C G ρ σ H pd _ _ r hm fun ds ρ' vs G' H' hq z kp r' p hn => ⟨cA (by omega), fun a ha => ?_⟩⟩
 obtain ⟨O, r'⟩ := r'
 exact k _ ρ' _ _ _ hq.2 z kp (r'.newL ha hq.1 p)
def eV (r : List V→Hp→VK→Prop) (f : List D→(D→Prop)→Prop) : Prop := ∀ (G H : Hp) (xs : List V) (ds : List D) (q : D→Prop) (Q : VK), ay G H→Reps G ds xs→f ds q→(∀ d v, q d→Rep G d v→Q v H)→r xs H Q
def mCB (f : List D→(D→Prop)→Prop) (m : MA) : ME := fun ρ q => m ρ fun ds ρ' => f ds fun d => q d ρ'
theorem se_cb {r : List V→Hp→VK→Prop} {f : List D→(D→Prop)→Prop} {t : TA} {n : Nat} (hd : eV r f) (s : SA ow n t mr) : SE ow (tCB r t) (mCB f mr) := fun C G ρ σ H pd q Q hr hm k =>
 s C G ρ σ H pd _ _ hr hm fun ds ρ' vs G' H' hq z kp r' p hn => hd G' H' vs ds _ _ r'.gh p hq fun d v hq p => k d ρ' v G' H' hq z kp r' p
variable {x : Str} {p' : Pos}
theorem ap {id : String} {r : List V→Hp→VK→Prop} {f : List D→(D→Prop)→Prop} (hc : bH X (.builtin id) r) (hd : eV r f) (hg : Gl X x) (hm : X.mg x=none) (hv : bootBuiltins x=some (.builtin id)) (ha : QA X ow (e :: es) mr) (hn : x ≠ "__name__" := by decide) (hdb : (x == ("__debug__" : Str))=false := by decide)
 (he : starEach (e :: es) X.env=(false, eval e X.env) :: starEach es X.env := by rfl) (hpl : (backTo pos (starEach es X.env)).any (·.1)=false := by rfl) : QE X ow (.Call (.Name x p') (e :: es) [] pos) (mCB f mr) := by
 obtain ⟨t, p, s⟩ := ha
 exact ⟨_, dL hc hg hm hv p hn hdb he hpl, se_cb hd s⟩
end
def fI (g : Int→Int→Int) : D→D→(D→Prop)→Prop := fun a b q => match a, b with
 | .int i, .int j => q (.int (g i j))
 | _, _ => False
def fIC (C : Int→Int→Prop) (g : Int→Int→Int) : D→D→(D→Prop)→Prop := fun a b q => match a, b with
 | .int i, .int j => C i j∧q (.int (g i j))
 | _, _ => False
def fB (g : Int→Int→Bool) : D→D→(D→Prop)→Prop := fun a b q => match a, b with
 | .int i, .int j => q (.bl (g i j))
 | _, _ => False
theorem dI {g : Int→Int→Int} : DOp (rI0 fun i j => .int (g i j)) (fI g) := fun G H x y dx dy q Q s p1 p2 hf k => by
 unfold fI at hf
 split at hf
 ·exact ⟨_, _, au p1, au p2, k _ _ hf (bg _)⟩
 ·exact hf.elim
theorem dIC {C : Int→Int→Prop} {g : Int→Int→Int} : DOp (rI C fun i j => .int (g i j)) (fIC C g) := fun G H x y dx dy q Q s p1 p2 hf k => by
 unfold fIC at hf
 split at hf
 ·exact ⟨_, _, au p1, au p2, hf.1, k _ _ hf.2 (bg _)⟩
 ·exact hf.elim
theorem dB {g : Int→Int→Bool} : DOp (rI0 fun i j => .bl (g i j)) (fB g) := fun G H x y dx dy q Q s p1 p2 hf k => by
 unfold fB at hf
 split at hf
 ·exact ⟨_, _, au p1, au p2, k _ _ hf (bh _)⟩
 ·exact hf.elim
def eqD (a b : D) : Bool := PyData.eqv (toP a) (toP b)
def okD (a : D) : Bool := SeqAt.shaped (toP a)
def fEq : D→D→(D→Prop)→Prop := fun a b q => match a, b with
 | .int i, .int j => q (.bl (decide (i=j)))
 | a, b => okD a=true∧okD b=true∧q (.bl (eqD a b))
def fNe : D→D→(D→Prop)→Prop := fun a b q => match a, b with
 | .int i, .int j => q (.bl (!decide (i=j)))
 | a, b => okD a=true∧okD b=true∧q (.bl (!eqD a b))
theorem jI (i j : Int) : eqD (.int i) (.int j)=decide (i=j) := by
 unfold eqD; rw [toP, toP, PyData.eqv]; first | rfl | (rw [Bool.beq_eq_decide_eq])
theorem fg (i : Int) : okD (.int i)=true := by unfold okD; rw [toP]; rfl
theorem dEq : DOp rEqD fEq := fun G H x y dx dy q Q s p1 p2 hf k => by
 have main : okD dx=true∧okD dy=true∧q (.bl (eqD dx dy)) := by
  unfold fEq at hf
  split at hf
  ·exact ⟨fg _, fg _, by rw [jI]; exact hf⟩
  ·exact hf
 exact ⟨dx, dy, Rep.mono s _ _ p1, Rep.mono s _ _ p2, main.1, main.2.1, k _ _ main.2.2 (bh _)⟩
theorem dNe : DOp rNeD fNe := fun G H x y dx dy q Q s p1 p2 hf k => by
 have main : okD dx=true∧okD dy=true∧q (.bl (!eqD dx dy)) := by
  unfold fNe at hf
  split at hf
  ·exact ⟨fg _, fg _, by rw [jI]; exact hf⟩
  ·exact hf
 exact ⟨dx, dy, Rep.mono s _ _ p1, Rep.mono s _ _ p2, main.1, main.2.1, k _ _ main.2.2 (bh _)⟩
def isNon : D→Bool
 | .non => true
 | _ => false
def fIsB : D→D→(D→Prop)→Prop := fun a b q => match a, b with
 | .bl x, .bl y => q (.bl (x == y))
 | _, _ => False
def pM : D→D→(D→Prop)→Prop := fun a b q => match a, b with
 | .bl x, .bl y => q (.bl (x != y))
 | _, _ => False
theorem dIsB : DOp (fun x y H Q => ∃ b c, x = .bl b∧y = .bl c∧Q (.bl (b == c)) H) fIsB := fun G H x y dx dy q Q s p1 p2 hf k => by
 unfold fIsB at hf
 split at hf
 ·exact ⟨_, _, bc p1, bc p2, k _ _ hf (bh _)⟩
 ·exact hf.elim
theorem dIsNB : DOp (fun x y H Q => ∃ b c, x = .bl b∧y = .bl c∧Q (.bl (b != c)) H) pM := fun G H x y dx dy q Q s p1 p2 hf k => by
 unfold pM at hf
 split at hf
 ·exact ⟨_, _, bc p1, bc p2, k _ _ hf (bh _)⟩
 ·exact hf.elim
def ck : D→Bool
 | .non => true
 | .bl _ => true
 | .int _ => true
 | .str _ => true
 | _ => false
def eqF : D→D→Bool
 | .non, .non => true
 | .bl a, .bl b => a == b
 | .bl a, .int b => (if a then 1 else 0) == b
 | .int a, .bl b => a == (if b then 1 else 0)
 | .int a, .int b => a == b
 | .str a, .str b => a == b
 | _, _ => false
def toV : D→V
 | .non => .non
 | .bl b => .bl b
 | .int i => .int i
 | .str x => .str x
 | _ => .non
theorem cS {G : Hp} {d : D} {v : V} (h : Rep G d v) (f : ck d=true) : v=toV d := by
 cases d <;> first | (rw [Rep] at h; exact h) | cases f
theorem n4 : ∀ {a b : D}, ck a=true→ck b=true→eqV (toV a) (toV b)=eqF a b := by
 intro a b f g
 cases a <;> cases b <;> first | rfl | exact absurd f Bool.false_ne_true | exact absurd g Bool.false_ne_true
theorem eJ {d : D} (f : ck d=true) : dt (toV d)=true := by
 cases d <;> first | rfl | cases f
theorem cb {G : Hp} : ∀ {ds : List D} {xs : List V}, Reps G ds xs→ds.all ck=true→xs=ds.map toV
 | [], xs, h, _ => by rw [Reps] at h; subst h; rfl
 | d :: ds, xs, h, f => by
  rw [Reps] at h
  obtain ⟨v, vs, rfl, h1, h2⟩ := h
  rw [List.all_cons, Bool.and_eq_true] at f
  rw [cS h1 f.1, cb h2 f.2]; rfl
def inD (a : D) (ds : List D) : Bool := ds.any fun y => eqF y a
theorem g8 {a : D} (f : ck a=true) : ∀ {ds : List D}, ds.all ck=true→inV (toV a) (ds.map toV)=inD a ds
 | [], _ => rfl
 | d :: ds, g => by
  rw [List.all_cons, Bool.and_eq_true] at g
  have := g8 f g.2
  unfold inV inD at *
  rw [List.map_cons, List.any_cons, List.any_cons, n4 g.1 f, this]
theorem f_ : ∀ {ds : List D}, ds.all ck=true→(ds.map toV).all dt=true
 | [], _ => rfl
 | d :: ds, g => by
  rw [List.all_cons, Bool.and_eq_true] at g
  rw [List.map_cons, List.all_cons, eJ g.1, f_ g.2]; rfl
def fIn (neg : Bool) : D→D→(D→Prop)→Prop := fun a b q => match b with
 | .lst ds => ck a=true∧ds.all ck=true∧q (.bl (if neg then !inD a ds else inD a ds))
 | .tup ds => ck a=true∧ds.all ck=true∧q (.bl (if neg then !inD a ds else inD a ds))
 | _ => False
theorem dIn {K : PySem.W.Frag} {neg : Bool} : DOp (rIn K neg) (fIn neg) := fun G H x y dx dy q Q s p1 p2 hf k => by
 unfold fIn at hf
 split at hf
 ·rw [Rep] at p2
  obtain ⟨a, xs, rfl, h1, h2⟩ := p2
  obtain ⟨f1, f2, hq⟩ := hf
  refine ⟨a, xs, rfl, .inl (SqL.of (s _ _ h1)), ?_, ?_, ?_⟩
  ·rw [cS p1 f1]; exact eJ f1
  ·rw [cb h2 f2]; exact f_ f2
  ·rw [cS p1 f1, cb h2 f2, g8 f1 f2]; exact k _ _ hq (bh _)
 ·rw [Rep] at p2
  obtain ⟨a, xs, rfl, h1, h2⟩ := p2
  obtain ⟨f1, f2, hq⟩ := hf
  refine ⟨a, xs, rfl, .inr (SqT.of (s _ _ h1)), ?_, ?_, ?_⟩
  ·rw [cS p1 f1]; exact eJ f1
  ·rw [cb h2 f2]; exact f_ f2
  ·rw [cS p1 f1, cb h2 f2, g8 f1 f2]; exact k _ _ hq (bh _)
 ·exact hf.elim
def atD (ds : List D) (i : Int) (q : D→Prop) : Prop := match atI ds i with
 | some d => q d
 | none => False
def fIx (K : PySem.W.Frag) : D→D→(D→Prop)→Prop := fun a b q => match a, b with
 | .lst ds, .int i => atD ds i q
 | .tup ds, .int i => atD ds i q
 | .scr φ ns, .int i => (∀ a H, φ a→SqL K H a (ns.map V.int))∧match atI ns i with
  | some n => q (.int n)
  | none => False
 | _, _ => False
theorem d8 {G : Hp} : ∀ {ds : List D} {xs : List V} {j : Nat} {d : D}, Reps G ds xs→ds[j]? = some d→∃ v, xs[j]? = some v∧Rep G d v
 | [], _, _, _, _, e => by simp at e
 | d :: ds, xs, 0, e, h, q => by rw [Reps] at h; obtain ⟨v, vs, rfl, h1, _⟩ := h; simp at q; subst q; exact ⟨v, rfl, h1⟩
 | d :: ds, xs, j + 1, e, h, q => by
  rw [Reps] at h
  obtain ⟨v, vs, rfl, _, h2⟩ := h
  obtain ⟨u, e1, e2⟩ := d8 (j := j) h2 (by simpa using q)
  exact ⟨u, by simpa using e1, e2⟩
theorem iq {G : Hp} {ds : List D} {xs : List V} {i : Int} {d : D} (h : Reps G ds xs) (e : atI ds i=some d) : ∃ v, atI xs i=some v∧Rep G d v := by
 unfold atI at *
 rw [h.length]
 cases q : ixN ds.length i with
 | none => rw [q] at e; cases e
 | some j => rw [q] at e; exact d8 h e
theorem oM {α β : Type} {f : α→β} {xs : List α} {i : Int} {x : α} (h : atI xs i=some x) : atI (xs.map f) i=some (f x) := by
 unfold atI at *
 rw [List.length_map]
 cases q : ixN xs.length i with
 | none => rw [q] at h; cases h
 | some j => rw [q] at h; rw [show (Option.some j).bind _=(xs.map f)[j]? from rfl, List.getElem?_map, show xs[j]? = some x from h]; rfl
theorem dIx {K : PySem.W.Frag} : DOp (rIx K) (fIx K) := fun G H x y dx dy q Q s p1 p2 hf k => by
 unfold fIx at hf
 split at hf
 ·rw [Rep] at p1
  obtain ⟨a, xs, rfl, h1, h2⟩ := p1
  unfold atD at hf
  split at hf
  ·rename_i e
   obtain ⟨v, e1, e2⟩ := iq h2 e
   exact .inl ⟨a, xs, _, v, rfl, au p2, SqL.of (s _ _ h1), e1, k _ _ hf e2⟩
  ·exact hf.elim
 ·rw [Rep] at p1
  obtain ⟨a, xs, rfl, h1, h2⟩ := p1
  unfold atD at hf
  split at hf
  ·rename_i e
   obtain ⟨v, e1, e2⟩ := iq h2 e
   exact .inr (.inl ⟨a, xs, _, v, rfl, au p2, SqT.of (s _ _ h1), e1, k _ _ hf e2⟩)
  ·exact hf.elim
 ·rw [Rep] at p1
  obtain ⟨a, rfl, h1⟩ := p1
  obtain ⟨hk, hf⟩ := hf
  split at hf
  ·rename_i e
   refine .inl ⟨a, _, _, _, rfl, au p2, ?_, oM e, k _ _ hf (bg _)⟩
   rcases h1 with ⟨o, h1⟩ | h1
   ·exact .inl (.inr ⟨o, s _ _ h1⟩)
   ·exact hk a H h1
  ·exact hf.elim
 ·exact hf.elim
def fLen (K : PySem.W.Frag) : List D→(D→Prop)→Prop := fun ds q => match ds with
 | [.lst ds] => q (.int ds.length)
 | [.tup ds] => q (.int ds.length)
 | [.scr φ ns] => (∀ a H, φ a→SqL K H a (ns.map V.int))∧q (.int ns.length)
 | _ => False
theorem aG {G : Hp} {ds : List D} {v : V} (h : Rep G (.lst ds) v) : ∃ a xs, v = .ref a∧G a=some (.lst xs)∧Reps G ds xs := by rw [Rep] at h; exact h
theorem f7 {G : Hp} {ds : List D} {v : V} (h : Rep G (.tup ds) v) : ∃ a xs, v = .ref a∧G a=some (.tup xs)∧Reps G ds xs := by rw [Rep] at h; exact h
theorem jt {G : Hp} {φ : Addr→Prop} {ns : List Int} {v : V} (h : Rep G (.scr φ ns) v) : ∃ a, v = .ref a∧((∃ o, G a=some (.frz o (.lst (ns.map V.int))))∨φ a) := by rw [Rep] at h; exact h
theorem bq {G : Hp} {d : D} {xs : List V} (h : Reps G [d] xs) : ∃ v, xs=[v]∧Rep G d v := by
 rw [Reps] at h; obtain ⟨v, vs, rfl, h1, h2⟩ := h; rw [Reps] at h2; subst h2; exact ⟨v, rfl, h1⟩
theorem cM {G : Hp} {d e : D} {xs : List V} (h : Reps G [d, e] xs) : ∃ v u, xs=[v, u]∧Rep G d v∧Rep G e u := by
 rw [Reps] at h; obtain ⟨v, vs, rfl, h1, h2⟩ := h; obtain ⟨u, rfl, h3⟩ := bq h2; exact ⟨v, u, rfl, h1, h3⟩
theorem cn {K : PySem.W.Frag} : eV (fun xs H Q => ∃ p ys, xs=[.ref p]∧(SqL K H p ys∨SqT K H p ys)∧Q (.int ys.length) H) (fLen K) := fun G H xs ds q Q s p hf k => by
 unfold fLen at hf
 split at hf
 ·obtain ⟨v, rfl, p1⟩ := bq p
  obtain ⟨a, xs, rfl, h1, h2⟩ := aG p1
  exact ⟨a, xs, rfl, .inl (SqL.of (s _ _ h1)), by rw [h2.length]; exact k _ _ hf (bg _)⟩
 ·obtain ⟨v, rfl, p1⟩ := bq p
  obtain ⟨a, xs, rfl, h1, h2⟩ := f7 p1
  exact ⟨a, xs, rfl, .inr (SqT.of (s _ _ h1)), by rw [h2.length]; exact k _ _ hf (bg _)⟩
 ·obtain ⟨v, rfl, p1⟩ := bq p
  obtain ⟨a, rfl, h1⟩ := jt p1
  rename_i φ ns
  have hS : SqL K H a (ns.map V.int) := by
   rcases h1 with ⟨o, h1⟩ | h1
   ·exact .inl (.inr ⟨o, s _ _ h1⟩)
   ·exact hf.1 a H h1
  exact ⟨a, _, rfl, .inl hS, by rw [List.length_map]; exact k _ _ hf.2 (bg _)⟩
 ·exact hf.elim
def fMax : List D→(D→Prop)→Prop := fun ds q => match ds with
 | [.int i, .int j] => q (.int (if j > i then j else i))
 | _ => False
def fMin : List D→(D→Prop)→Prop := fun ds q => match ds with
 | [.int i, .int j] => q (.int (if j<i then j else i))
 | _ => False
theorem dMax : eV (fun xs H Q => ∃ i j, xs=[.int i, .int j]∧Q (.int (if j > i then j else i)) H) fMax := fun G H xs ds q Q s p hf k => by
 unfold fMax at hf
 split at hf
 ·obtain ⟨v, u, rfl, p1, p2⟩ := cM p
  rw [au p1, au p2]
  exact ⟨_, _, rfl, k _ _ hf (bg _)⟩
 ·exact hf.elim
theorem kH : eV (fun xs H Q => ∃ i j, xs=[.int i, .int j]∧Q (.int (if j<i then j else i)) H) fMin := fun G H xs ds q Q s p hf k => by
 unfold fMin at hf
 split at hf
 ·obtain ⟨v, u, rfl, p1, p2⟩ := cM p
  rw [au p1, au p2]
  exact ⟨_, _, rfl, k _ _ hf (bg _)⟩
 ·exact hf.elim
section
variable {X : Cx} {ow : List Bool} {a b c e : Expr} {ma mb mc : ME} {pos : Pos} {mr : MA} {es : List Expr}
def mNeg (m : ME) : ME := fun ρ q => m ρ fun d ρ' => match d with
 | .int i => q (.int (-i)) ρ'
 | _ => False
theorem pX (h : QE X ow a ma) : QE X ow (.UnaryOp .USub a pos) (mNeg ma) := by
 obtain ⟨t, p, s⟩ := h
 refine ⟨_, pK nj p, fun C G ρ σ H pd q Q r hm k => s C G ρ σ H pd _ _ r hm fun d ρ' v G' H' hq s kp r' p => ?_⟩
 cases d with
 | int i => exact ⟨i, au p, k _ ρ' _ G' H' hq s kp r' (bg _)⟩
 | _ => exact hq.elim
def mIsT (T : String) (m : ME) : ME := fun ρ q => m ρ fun d ρ' => match kQ d T with
 | some b => q (.bl b) ρ'
 | none => False
theorem bL {T : String} {x y : Str} {p1 p2 : Pos} (hg : Gl X x) (hm : X.mg x=none) (hv : bootBuiltins x=some (.builtin "isinstance")) (ha : QE X ow a ma) (ht : PE X (.Name y p2) (tC (.ty T)))
 (hn : x ≠ "__name__" := by decide) (hdb : (x == ("__debug__" : Str))=false := by decide)
 (hs : starEach [.Name y p2] X.env=[(false, eval (.Name y p2) X.env)] := by rfl)
 (he : starEach [a, .Name y p2] X.env=(false, eval a X.env) :: starEach [.Name y p2] X.env := by rfl) (hpl : (backTo pos (starEach [.Name y p2] X.env)).any (·.1)=false := by rfl) :
 QE X ow (.Call (.Name x p1) [a, .Name y p2] [] pos) (mIsT T ma) := by
 obtain ⟨t, p, s⟩ := ha
 refine ⟨_, dL iR hg hm hv (ba p (ba ht b3 hs) he) hn hdb he hpl, fun C G ρ σ H pd q Q r hm k => s C G ρ σ H pd _ _ r hm fun d ρ' v G' H' hq s kp r' p => ?_⟩
 cases e : kQ d T with
 | none => rw [e] at hq; exact hq.elim
 | some b => rw [e] at hq; exact ⟨v, T, d, b, rfl, Rep.mono r'.gh _ _ p, e, k _ ρ' _ G' H' hq s kp r' (bh _)⟩
def jw (f g : D→D→(D→Prop)→Prop) (ma mb mc : ME) : ME := fun ρ q => ma ρ fun x ρ1 => mb ρ1 fun y ρ2 => f x y fun z => match z with
 | .bl k => if k=true then mc ρ2 fun w ρ3 => g y w fun d => q d ρ3 else q (.bl false) ρ2
 | _ => False
theorem iO {r r' : R2} {f g : D→D→(D→Prop)→Prop} {ta tb tc : TE} (hf : DOp r f) (hg : DOp r' g) (ha : SE ow ta ma) (hb : SE ow tb mb) (hc : SE ow tc mc) : SE ow (i4 r r' ta tb tc) (jw f g ma mb mc) := fun C G ρ σ H pd q Q hr h k => by
 refine gU (Q := fun x y H2 => r x y H2 _) ha hb hr h fun dx dy ρ' x y G' H' h1 s kp r1 p1 p2 => ?_
 refine hf G' H' x y dx dy _ _ r1.gh p1 p2 h1 fun d v hq p => ?_
 cases d with
 | bl b =>
  refine ⟨b, bc p, ?_⟩
  change (if b=true then _ else _) at hq
  cases b with
  | true =>
   rw [if_pos rfl] at hq ⊢
   refine hc C G' ρ' σ H' pd _ _ r1 hq fun dw ρ3 w G3 H3 h3 s3 kp3 r3 p3 => ?_
   exact hg G3 H3 y w dy dw _ _ r3.gh (Rep.mono s3 _ _ p2) p3 h3 fun d v hq p => k d ρ3 v G3 H3 hq (s.trans s3) (kp.trans kp3) r3 p
  | false => rw [if_neg (by decide)] at hq ⊢; exact k _ ρ' _ G' H' hq s kp r1 (bh _)
 | _ => exact hq.elim
theorem ij {op op' : CmpOp} {r r' : R2} {f g : D→D→(D→Prop)→Prop} (ho : OpR X (compareOp op) r) (ho' : OpR X (compareOp op') r') (hf : DOp r f) (hg : DOp r' g) (ha : QE X ow a ma) (hb : QE X ow b mb) (hc : QE X ow c mc)
 (hm : lastMarks [op, op'] [b, c]=false := by with_unfolding_all rfl) : QE X ow (.Compare a [op, op'] [b, c] pos) (jw f g ma mb mc) := by
 obtain ⟨ta, pa, sa⟩ := ha; obtain ⟨tb, pb, sb⟩ := hb; obtain ⟨tc, pc, sc⟩ := hc
 exact ⟨_, nu ho ho' pa pb pc hm, iO hf hg sa sb sc⟩
theorem nL {op op' : CmpOp} {r r' : R2} {f g : D→D→(D→Prop)→Prop} (ho : OpR X (compareOp op) r) (ho' : OpR X (compareOp op') r') (hf : DOp r f) (hg : DOp r' g) (ha : QE X ow a ma) (hb : QE X ow b mb) (hc : QE X ow c mc)
 (hm : lastMarks [op, op'] [b, c]=false := by with_unfolding_all rfl) : QT X ow (.Compare a [op, op'] [b, c] pos) (mB (jw f g ma mb mc)) := by
 obtain ⟨ta, pa, sa⟩ := ha; obtain ⟨tb, pb, sb⟩ := hb; obtain ⟨tc, pc, sc⟩ := hc
 exact ⟨_, nO ho ho' pa pb pc hm, ny (iO hf hg sa sb sc)⟩
def g7 (r : List V→Hp→VK→Prop) (f : List D→(List D→Prop)→Prop) : Prop := ∀ (G H : Hp) (xs : List V) (ds : List D) (q : List D→Prop) (Q : VK), ay G H→Reps G ds xs→f ds q →
 (∀ es ys p, q es→Reps G es ys→H p=none→Q (.ref p) (upd H p (.lst ys)))→r xs H Q
def mNew (f : List D→(List D→Prop)→Prop) (m : MA) : ME := fun ρ q => m ρ fun ds ρ' => f ds fun es => imms es=true∧q (.lst es) ρ'
def pJ (f : List D→(List D→Prop)→Prop) (m : MA) : ME := fun ρ q => m ρ fun ds ρ' => f ds fun es => q (.lst es) ρ'
theorem pW {r : List V→Hp→VK→Prop} {f : List D→(List D→Prop)→Prop} {t : TA} {n : Nat} (hd : g7 r f) (s : SA ow n t mr) : SF ow (fun σ H Q => t σ H fun xs H1 => r xs H1 Q) (mNew f mr) := fun C G ρ σ H pd q Q hr hm k =>
 s C G ρ σ H pd _ _ hr hm fun ds ρ' vs G' H' hq z kp r' p hn => hd G' H' vs ds _ _ r'.gh p hq fun es ys a hq p ha => by
  obtain ⟨O, r'⟩ := r'
  exact k _ ρ' _ _ _ hq.2 z kp (r'.newL ha hq.1 p)
theorem q8 {r : List V→Hp→VK→Prop} {f : List D→(List D→Prop)→Prop} {t : TA} {n : Nat} (hd : g7 r f) (s : SA ow n t mr) : SE ow (fun σ H Q => t σ H fun xs H1 => r xs H1 Q) (pJ f mr) := fun C G ρ σ H pd q Q hr hm k =>
 s C G ρ σ H pd _ _ hr hm fun ds ρ' vs G' H' hq z kp r' p hn => hd G' H' vs ds _ _ r'.gh p hq fun es ys a hq p ha => by
  obtain ⟨O, r'⟩ := r'
  obtain ⟨r2, s2⟩ := r'.new ha (.lst ys)
  exact k _ ρ' _ _ _ hq (z.trans s2) kp ⟨O, r2⟩ (fj aA (Reps.mono s2 _ _ p))
theorem p8 {ta tb : TE} (ha : SE ow ta ma) (hb : SE ow tb mb) : SA ow 2 (fun σ H Q => ta σ H fun x H1 => tb σ H1 fun y H2 => Q [x, y] H2) (eS ma (eS mb nG)) := fun C G ρ σ H pd q Q hr hm k =>
 gU (Q := fun x y H2 => Q [x, y] H2) ha hb hr hm fun dx dy ρ' x y G' H' h1 s kp r1 p1 p2 => k [dx, dy] ρ' [x, y] G' H' h1 s kp r1 (aT p1 (aT p2 aV)) rfl
theorem cV {G : Hp} : ∀ {ds es : List D} {xs ys : List V}, Reps G ds xs→Reps G es ys→Reps G (ds++es) (xs++ys)
 | [], es, xs, ys, h, h2 => by rw [Reps] at h; subst h; exact h2
 | d :: ds, es, xs, ys, h, h2 => by rw [Reps] at h; obtain ⟨v, vs, rfl, h1, h3⟩ := h; exact aT h1 (cV h3 h2)
theorem gA {G : Hp} : ∀ {ds : List D} {xs : List V} (n : Nat), Reps G ds xs→Reps G (ds.drop n) (xs.drop n)
 | [], xs, n, h => by rw [Reps] at h; subst h; simp; exact aV
 | d :: ds, xs, 0, h => h
 | d :: ds, xs, n + 1, h => by rw [Reps] at h; obtain ⟨v, vs, rfl, h1, h3⟩ := h; exact gA n h3
theorem gN {G : Hp} : ∀ {ds : List D} {xs : List V} (n : Nat), Reps G ds xs→Reps G (ds.take n) (xs.take n)
 | [], xs, n, h => by rw [Reps] at h; subst h; simp; exact aV
 | d :: ds, xs, 0, h => by simp; exact aV
 | d :: ds, xs, n + 1, h => by rw [Reps] at h; obtain ⟨v, vs, rfl, h1, h3⟩ := h; exact aT h1 (gN n h3)
def fCat : List D→(List D→Prop)→Prop := fun ds q => match ds with
 | [.lst xs, .lst ys] => xs.length + ys.length≤1000∧q (xs++ys)
 | _ => False
theorem k9 : g7 (fun xs H Q => ∃ x y, xs=[x, y]∧rCat x y H Q) fCat := fun G H xs ds q Q s p hf k => by
 unfold fCat at hf
 split at hf
 ·obtain ⟨v, u, rfl, p1, p2⟩ := cM p
  rw [Rep] at p1 p2
  obtain ⟨a1, xs, rfl, h1, h2⟩ := p1
  obtain ⟨a2, ys, rfl, h3, h4⟩ := p2
  exact ⟨_, _, rfl, a1, a2, xs, ys, rfl, rfl, s _ _ h1, s _ _ h3, cA (by rw [h2.length, h4.length]; exact hf.1), fun p hp => k _ _ p hf.2 (cV h2 h4) hp⟩
 ·exact hf.elim
def mMkS (f : List D→(List D→Prop)→Prop) (ma mb : ME) : ME := pJ f (eS ma (eS mb nG))
def R2ok (r : R2) : List V→Hp→VK→Prop := fun xs H Q => match xs with
 | [x, y] => r x y H Q
 | _ => False
theorem g7.r2 {r : R2} {f : List D→(List D→Prop)→Prop} (h : g7 (fun xs H Q => ∃ x y, xs=[x, y]∧r x y H Q) f) : g7 (R2ok r) f := fun G H xs ds q Q s p hf k => by
 obtain ⟨x, y, rfl, z⟩ := h G H xs ds q Q s p hf k
 exact z
theorem gK {op : Operator} {r : R2} {f : List D→(List D→Prop)→Prop} (ho : OpR X (binaryOp op) r) (hd : g7 (fun xs H Q => ∃ x y, xs=[x, y]∧r x y H Q) f) (ha : QE X ow a ma) (hb : QE X ow b mb) : QE X ow (.BinOp a op b pos) (mMkS f ma mb) := by
 obtain ⟨ta, pa, sa⟩ := ha; obtain ⟨tb, pb, sb⟩ := hb
 exact ⟨tOp r ta tb, pQ ho pa pb, q8 (r := R2ok r) hd.r2 (p8 sa sb)⟩
variable {x : Str} {p' : Pos}
theorem iI {id : String} {r : List V→Hp→VK→Prop} {f : List D→(List D→Prop)→Prop} (hc : bH X (.builtin id) r) (hd : g7 r f) (hg : Gl X x) (hm : X.mg x=none) (hv : bootBuiltins x=some (.builtin id)) (ha : QA X ow (e :: es) mr) (hn : x ≠ "__name__" := by decide) (hdb : (x == ("__debug__" : Str))=false := by decide)
 (he : starEach (e :: es) X.env=(false, eval e X.env) :: starEach es X.env := by rfl) (hpl : (backTo pos (starEach es X.env)).any (·.1)=false := by rfl) : QF X ow (.Call (.Name x p') (e :: es) [] pos) (mNew f mr) := by
 obtain ⟨t, p, s⟩ := ha
 exact ⟨_, dL hc hg hm hv p hn hdb he hpl, pW hd s⟩
def cI (xs : List D) (lo hi : Option Int) : List D := (xs.drop (HT.sIx xs.length 0 lo)).take (HT.sIx xs.length xs.length hi - HT.sIx xs.length 0 lo)
theorem mI {G : Hp} {ds : List D} {xs : List V} (h : Reps G ds xs) (lo hi : Option Int) : Reps G (cI ds lo hi) (jp xs lo hi) := by
 unfold cI jp
 rw [h.length]
 exact gN _ (gA _ h)
abbrev MO := DSt→(Option Int→DSt→Prop)→Prop
def SO (ow : List Bool) (t : TO) (m : MO) : Prop := ∀ (C : Ctx) (G : Hp) (ρ : DSt) (σ : St) (H : Hp) (pd : List (D×V)) (q : Option Int→DSt→Prop) (Q : Option Int→Hp→Prop), R C ow G ρ σ H pd→m ρ q →
 (∀ b ρ' G' H', q b ρ'→ay G G'→Kp ow ρ ρ'→R C ow G' ρ' σ H' pd→Q b H')→t σ H Q
structure QO (X : Cx) (ow : List Bool) (e : Option Expr) (m : MO) : Prop where
 ex : ∃ t, PO X e t∧SO ow t m
def oX : MO := fun ρ q => q none ρ
def mPart (m : ME) : MO := fun ρ q => m ρ fun d ρ' => match d with
 | .int i => q (some i) ρ'
 | _ => False
theorem ff : QO X ow none oX := ⟨_, o6, fun C G ρ σ H pd q Q r h k => k none ρ G H h (ay.refl _) Kp.refl r⟩
theorem e_ (h : QE X ow e ma) : QO X ow (some e) (mPart ma) := by
 obtain ⟨t, p, s⟩ := h
 refine ⟨_, o5 p, fun C G ρ σ H pd q Q r hm k => s C G ρ σ H pd _ _ r hm fun d ρ' v G' H' hq s kp r' p => ?_⟩
 cases d with
 | int i => exact ⟨i, au p, k _ ρ' G' H' hq s kp r'⟩
 | _ => exact hq.elim
def mSl (m : ME) (ml mh : MO) : ME := fun ρ q => m ρ fun d ρ1 => ml ρ1 fun lo ρ2 => mh ρ2 fun hi ρ3 => match d with
 | .lst ds => imms (cI ds lo hi)=true∧q (.lst (cI ds lo hi)) ρ3
 | _ => False
def mSlS (m : ME) (ml mh : MO) : ME := fun ρ q => m ρ fun d ρ1 => ml ρ1 fun lo ρ2 => mh ρ2 fun hi ρ3 => match d with
 | .lst ds => q (.lst (cI ds lo hi)) ρ3
 | _ => False
variable {lo hi : Option Expr} {ml mh : MO} {p2 : Pos}
theorem dO (h : QE X ow e ma) (hl : QO X ow lo ml) (hh : QO X ow hi mh) : QE X ow (.Subscript e (.Slice lo hi none p2) pos) (mSlS ma ml mh) := by
 obtain ⟨t, p, s⟩ := h; obtain ⟨t1, p1, s1⟩ := hl; obtain ⟨t2, p2, s2⟩ := hh
 refine ⟨_, lK pw p p1 p2, fun C G ρ σ H pd q Q r hm k => s C G ρ σ H pd _ _ r hm fun d ρ' v G' H' hq z kp r' p => ?_⟩
 refine s1 C G' ρ' σ H' pd _ _ r' hq fun l ρ1 G1 H1 hq1 z1 kp1 r1 => s2 C G1 ρ1 σ H1 pd _ _ r1 hq1 fun u ρ2 G2 H2 hq2 z2 kp2 r2 => ?_
 cases d with
 | lst ds =>
  obtain ⟨a, xs, rfl, h1, h2⟩ := aG (Rep.mono (z1.trans z2) _ _ p)
  refine ⟨a, xs, rfl, SqL.of (r2.gh _ _ h1), fun b hb => ?_⟩
  obtain ⟨O, r2⟩ := r2
  obtain ⟨r3, z3⟩ := r2.new hb (.lst (jp xs l u))
  exact k _ ρ2 _ _ _ hq2 (z.trans (z1.trans (z2.trans z3))) (kp.trans (kp1.trans kp2)) ⟨O, r3⟩ (fj aA (Reps.mono z3 _ _ (mI h2 _ _)))
 | _ => exact hq2.elim
end
def bE (f : Nat→Option Nat) (O : Own) : Own := fun a => match O a with
 | some m => (f m.1).map fun l => (l, m.2)
 | none => none
theorem jP {f : Nat→Option Nat} {O : Own} {a : Addr} {l l' : Nat} {π : List Nat} (h : O a=some (l, π)) (hf : f l=some l') : bE f O a=some (l', π) := by unfold bE; rw [h]; show (f l).map _=_; rw [hf]; rfl
theorem c_ {f : Nat→Option Nat} {O : Own} {a : Addr} {l' : Nat} {π : List Nat} (h : bE f O a=some (l', π)) : ∃ l, O a=some (l, π)∧f l=some l' := by
 unfold bE at h
 cases e : O a with
 | none => rw [e] at h; cases h
 | some m =>
  rw [e] at h
  change (f m.1).map _=_ at h
  cases e2 : f m.1 with
  | none => rw [e2] at h; cases h
  | some l => rw [e2] at h; cases h; exact ⟨m.1, rfl, e2⟩
theorem kw {f : Nat→Option Nat} {O : Own} {a : Addr} {l : Nat} {π : List Nat} (h : O a=some (l, π)) (hf : f l=none) : bE f O a=none := by unfold bE; rw [h]; show (f l).map _=_; rw [hf]; rfl
def msV : List Bool→List V→List (Option V)
 | b :: bs, v :: vs => (if b=true then some v else none) :: msV bs vs
 | _, _ => []
theorem jA : ∀ {mu : List Bool} {vs : List V} {k : Nat} {v : V}, (msV mu vs)[k]? = some (some v)→mu[k]? = some true∧vs[k]? = some v
 | [], vs, k, v, h => by simp [msV] at h
 | b :: bs, [], k, v, h => by simp [msV] at h
 | b :: bs, u :: vs, 0, v, h => by
  simp only [msV, List.getElem?_cons_zero, Option.some.injEq] at h
  split at h
  ·rename_i c; cases h; subst c; exact ⟨rfl, rfl⟩
  ·cases h
 | b :: bs, u :: vs, k + 1, v, h => by
  simp only [msV, List.getElem?_cons_succ] at h
  simpa using jA h
theorem jy : ∀ {mu : List Bool} {vs : List V} {k : Nat} {v : V}, mu[k]? = some true→vs[k]? = some v→(msV mu vs)[k]? = some (some v)
 | [], vs, k, v, h, _ => by simp at h
 | b :: bs, [], k, v, _, h => by simp at h
 | b :: bs, u :: vs, 0, v, h, h2 => by simp at h h2; subst h; subst h2; simp [msV]
 | b :: bs, u :: vs, k + 1, v, h, h2 => by simp only [msV, List.getElem?_cons_succ]; exact jy (by simpa using h) (by simpa using h2)
section
variable {C : Ctx} {ow mu : List Bool} {G : Hp} {ρ : DSt} {σ : St} {H : Hp} {pd : List (D×V)} {O : Own} {fin fbk : Nat→Option Nat}
theorem RO.into (ro : RO C ow G ρ σ H pd O) {ds : List D} {vs : List V} (hl : ds.length=vs.length)
 (hs : ∀ (k : Nat) d, ds[k]? = some d→∃ v, vs[k]? = some v∧if mu[k]? = some true then ∃ l, Sep G H O l d [] v∧fin l=some (2 * k) else Rep G d v)
 (hc : ∀ l l', fin l=some l'→∃ k, l'=2 * k∧mu[k]? = some true∧k<vs.length) :
 RO ⟨G, H, bE fin O, msV mu vs, 0⟩ mu G (ds.map some) (vs.map some) H [] (bE fin O) := by
 refine ⟨by simp [hl], ro.gh, fun _ _ e => e, fun _ _ e => .inl e, ?_, ?_, fun _ _ e _ _ => e, ro.ft, fun _ e => e, ?_, ?_, trivial, Nat.le_refl _⟩
 ·intro a m e
  obtain ⟨l', π⟩ := m
  obtain ⟨l, e1, e2⟩ := c_ e
  obtain ⟨q1, q2, _⟩ := ro.og a _ e1
  exact ⟨q1, q2, .inr ⟨π, e⟩⟩
 ·intro a l' π e
  obtain ⟨l, e1, e2⟩ := c_ e
  obtain ⟨k, rfl, h2, h3⟩ := hc _ _ e2
  exact .inl ⟨k, vs[k], rfl, jy h2 (List.getElem?_eq_getElem h3)⟩
 ·intro k v e
  rw [List.getElem?_map, (jA e).2]; rfl
 ·intro k d e
  rw [List.getElem?_map] at e
  cases e1 : ds[k]? with
  | none => rw [e1] at e; cases e
  | some d' =>
   rw [e1] at e
   cases e
   obtain ⟨v, h1, h2⟩ := hs k d e1
   refine ⟨v, by rw [List.getElem?_map, h1]; rfl, ?_⟩
   split at h2
   ·rename_i c
    rw [if_pos c]
    obtain ⟨l, h3, h4⟩ := h2
    exact h3.keep (fun _ _ z => z) fun a τ q => ⟨jP q h4, rfl⟩
   ·rename_i c; rw [if_neg c]; exact h2
def kY (fin fbk : Nat→Option Nat) (O O2 : Own) : Own := fun a => match O2 a with
 | some m => (fbk m.1).map fun l => (l, m.2)
 | none => match bE fin O a with
  | some _ => none
  | none => O a
theorem RO.out (ro : RO C ow G ρ σ H pd O) {vs : List V} {G2 : Hp} {ρ2 : DSt} {σ2 : St} {H2 : Hp} {pd2 pd3 : List (D×V)} {O2 : Own} {ρ3 : DSt} {ow2 : List Bool} {np : Nat} {mv : List (Option V)}
 (ri : RO ⟨G, H, bE fin O, mv, np⟩ ow2 G2 ρ2 σ2 H2 pd2 O2) (hib : ∀ l0 l' l, fin l0=some l'→fbk l'=some l→l=l0)
 (hlen : ρ3.length=σ.length) (hnp : C.np≤pd3.length)
 (hS : ∀ (i : Nat) d, ow[i]? ≠ some true→ρ3[i]? = some (some d)→ρ[i]? = some (some d))
 (hO : ∀ (i : Nat) d, ow[i]? = some true→ρ3[i]? = some (some d)→(fin (2 * i)=none∧ρ[i]? = some (some d))∨∃ (k : Nat) (v : V), fbk (2 * k)=some (2 * i)∧ow2[k]? = some true∧ρ2[k]? = some (some d)∧σ[i]? = some (some v)∧σ2[k]? = some (some v))
 (hP : ∀ (O3 : Own), (∀ a l π, O a=some (l, π)→fin l=none→O3 a=some (l, π)∧H2 a=H a)→(∀ a l l' π, O2 a=some (l', π)→fbk l'=some l→O3 a=some (l, π))→bP G G2→bA G2 H2 O3 pd3) :
 RO C ow G2 ρ3 σ H2 pd3 (kY fin fbk O O2) := by
 have keep : ∀ a l π, O a=some (l, π)→fin l=none→kY fin fbk O O2 a=some (l, π)∧H2 a=H a := fun a l π e hn => by
  have e1 := kw (f := fin) e hn
  obtain ⟨g, ⟨xs, hx⟩, _⟩ := ro.og a _ e
  have e2 : O2 a=none := by
   cases q : O2 a with
   | none => rfl
   | some m =>
    obtain ⟨_, _, q3⟩ := ri.og a m q
    rcases q3 with q3 | ⟨π', q3⟩
    ·change H a=none at q3; rw [hx] at q3; cases q3
    ·change bE fin O a=_ at q3; rw [e1] at q3; cases q3
  constructor
  ·show (match O2 a with | some m => _ | none => _)=_
   rw [e2]
   show (match bE fin O a with | some _ => none | none => O a)=_
   rw [e1]; exact e
  ·rw [ri.fr a _ hx e1 (WrO.nt xs), hx]
 have come : ∀ a l l' π, O2 a=some (l', π)→fbk l'=some l→kY fin fbk O O2 a=some (l, π) := fun a l l' π e hb => by
  show (match O2 a with | some m => _ | none => _)=_
  rw [e]
  show (fbk l').map _=_
  rw [hb]; rfl
 have ts : bP G G2 := (ay.ts ri.g0)
 refine ⟨hlen, ri.gh, fun a o e => ri.g0 a o (ro.g0 a o e), ?_, ?_, ro.cok, ?_, ri.ft, fun a e => ro.al a (ri.al a e), ro.mp, ?_, hP _ keep come ts, hnp⟩
 ·intro a o e
  rcases ri.gn a o e with q | q
  ·exact ro.gn a o q
  ·exact .inr (ro.al a q)
 ·intro a m e
  change (match O2 a with | some m => _ | none => _)=_ at e
  cases q : O2 a with
  | some m' =>
   rw [q] at e
   change (fbk m'.1).map _=_ at e
   cases q2 : fbk m'.1 with
   | none => rw [q2] at e; cases e
   | some l =>
    rw [q2] at e; cases e
    obtain ⟨g1, g2, g3⟩ := ri.og a m' q
    refine ⟨g1, g2, ?_⟩
    rcases g3 with g3 | ⟨π', g3⟩
    ·exact .inl (ro.al a g3)
    ·obtain ⟨l0, g4, g5⟩ := c_ g3
     have := hib _ _ _ g5 q2
     subst this
     exact (ro.og a _ g4).2.2
  | none =>
   rw [q] at e
   change (match bE fin O a with | some _ => none | none => O a)=_ at e
   cases q2 : bE fin O a with
   | some _ => rw [q2] at e; cases e
   | none =>
    rw [q2] at e
    change O a=some m at e
    obtain ⟨g1, ⟨xs, g2⟩, g3⟩ := ro.og a m e
    refine ⟨?_, ⟨xs, ri.fr a _ g2 q2 (WrO.nt xs)⟩, g3⟩
    cases z : G2 a with
    | none => rfl
    | some o =>
     rcases ri.gn a o z with z | z
     ·change G a=_ at z; rw [g1] at z; cases z
     ·change H a=_ at z; rw [g2] at z; cases z
 ·intro a o e n t
  have q := ro.fr a o e n t
  refine ri.fr a o q ?_ t
  show bE fin O a=none
  cases z : bE fin O a with
  | none => rfl
  | some m =>
   obtain ⟨l', π⟩ := m
   obtain ⟨l, z1, _⟩ := c_ z
   obtain ⟨_, _, z3⟩ := ro.og a _ z1
   rcases z3 with z3 | ⟨_, z3⟩
   ·rw [z3] at e; cases e
   ·rw [z3] at n; cases n
 ·intro i d e
  by_cases c : ow[i]? = some true
  ·rcases hO i d c e with ⟨h1, h2⟩ | ⟨k, v, h1, h2, h3, h4, h5⟩
   ·obtain ⟨v, q1, q2⟩ := ro.sl i d h2
    rw [if_pos c] at q2
    exact ⟨v, q1, by rw [if_pos c]; exact q2.keep ts fun a τ q => keep a _ _ q h1⟩
   ·obtain ⟨v', q1, q2⟩ := ri.sl k d h3
    rw [if_pos h2] at q2
    rw [h5] at q1; cases q1
    exact ⟨v, h4, by rw [if_pos c]; exact q2.keep (fun _ _ z => z) fun a τ q => ⟨come _ _ _ _ q h1, rfl⟩⟩
  ·obtain ⟨v, q1, q2⟩ := ro.sl i d (hS i d c e)
   rw [if_neg c] at q2
   exact ⟨v, q1, by rw [if_neg c]; exact q2.mono ri.g0⟩
end
def Ret (fr : Bool) (C : Ctx) (ow : List Bool) (G : Hp) (ρ : DSt) (σ : St) (H : Hp) (d : D) (v : V) : Prop := if fr=true then R C ow G ρ σ H [(d, v)] else R C ow G ρ σ H []∧Rep G d v
def mus : List Bool→DSt→DSt
 | true :: bs, x :: ρ => x :: mus bs ρ
 | false :: bs, _ :: ρ => mus bs ρ
 | true :: bs, [] => none :: mus bs []
 | false :: bs, [] => mus bs []
 | [], _ => []
def bK {α : Type} : Nat→List (Option α)→List (Option α)
 | 0, _ => []
 | n + 1, x :: ρ => x :: bK n ρ
 | n + 1, [] => none :: bK n []
theorem cf {α : Type} : ∀ (n : Nat) (ρ : List (Option α)), (bK n ρ).length=n
 | 0, _ => rfl
 | n + 1, x :: ρ => by simp [bK, cf n ρ]
 | n + 1, [] => by simp [bK, cf n []]
theorem b9 : ∀ (mu : List Bool) (ρ : DSt), mus mu (bK mu.length ρ)=mus mu ρ
 | [], _ => by simp [mus]
 | true :: bs, x :: ρ => by simp [bK, mus, b9 bs ρ]
 | false :: bs, x :: ρ => by simp [bK, mus, b9 bs ρ]
 | true :: bs, [] => by simp [bK, mus, b9 bs []]
 | false :: bs, [] => by simp [bK, mus, b9 bs []]
theorem ib {α : Type} : ∀ {n : Nat} {ρ : List (Option α)} {i : Nat} {d : α}, (bK n ρ)[i]? = some (some d)→i<n∧ρ[i]? = some (some d)
 | 0, _, _, _, h => by simp [bK] at h
 | n + 1, x :: ρ, 0, d, h => by simp [bK] at h; exact ⟨by omega, by simp [h]⟩
 | n + 1, x :: ρ, i + 1, d, h => by simp only [bK, List.getElem?_cons_succ] at h; obtain ⟨a, b⟩ := ib h; exact ⟨by omega, by simpa using b⟩
 | n + 1, [], 0, d, h => by simp [bK] at h
 | n + 1, [], i + 1, d, h => by simp only [bK, List.getElem?_cons_succ] at h; obtain ⟨a, b⟩ := ib h; simp at b
theorem ie {α : Type} : ∀ {n : Nat} {ρ : List (Option α)} {i : Nat} {d : α}, i<n→ρ[i]? = some (some d)→(bK n ρ)[i]? = some (some d)
 | 0, _, _, _, h, _ => by omega
 | n + 1, x :: ρ, 0, d, h, e => by simp at e; simp [bK, e]
 | n + 1, x :: ρ, i + 1, d, h, e => by simp only [bK, List.getElem?_cons_succ]; exact ie (by omega) (by simpa using e)
 | n + 1, [], i, d, h, e => by simp at e
abbrev SpD := List D→(D→DSt→Prop)→Prop
def a7 (mu : List Bool) (fr : Bool) (sd : SpD) : Sp := fun vs H Q _ => ∃ (C : Ctx) (G : Hp) (ds : List D) (q : D→DSt→Prop), C.np=0∧C.mu=msV mu vs∧R C mu G (ds.map some) (vs.map some) H []∧sd ds q∧mu.length=ds.length ∧
 ∀ d ρ' σ' v G' H', q d (mus mu ρ')→ay G G'→ρ'.length=mu.length→Ret fr C mu G' ρ' σ' H' d v→Q v H'
structure EndsD where
 nx : DSt→Prop
 rt : D→DSt→Prop
 bk : DSt→Prop := fun _ => False
 ct : DSt→Prop := fun _ => False
abbrev MS := EndsD→DSt→Prop
structure Ks (C : Ctx) (ow : List Bool) (fr : Bool) (G : Hp) (n : EndsD) (D : Ends) : Prop where
 nx : ∀ ρ σ G' H, n.nx ρ→ay G G'→R C ow G' ρ σ H []→D.nx σ H
 bk : ∀ ρ σ G' H, n.bk ρ→ay G G'→R C ow G' ρ σ H []→D.bk σ H
 ct : ∀ ρ σ G' H, n.ct ρ→ay G G'→R C ow G' ρ σ H []→D.ct σ H
 rt : ∀ d ρ σ v G' H, n.rt d ρ→ay G G'→Ret fr C ow G' ρ σ H d v→D.rt v H
theorem Ks.mono {C : Ctx} {ow : List Bool} {fr : Bool} {G G1 : Hp} {n : EndsD} {D : Ends} (h : Ks C ow fr G n D) (s : ay G G1) : Ks C ow fr G1 n D :=
 ⟨fun ρ σ G' H a b c => h.nx ρ σ G' H a (s.trans b) c, fun ρ σ G' H a b c => h.bk ρ σ G' H a (s.trans b) c, fun ρ σ G' H a b c => h.ct ρ σ G' H a (s.trans b) c, fun d ρ σ v G' H a b c => h.rt d ρ σ v G' H a (s.trans b) c⟩
def fS (C : Ctx) (mu : List Bool) : Prop := ∀ (i : Nat) v, C.mu[i]? = some (some v)→mu[i]? = some true
theorem fS.no {C : Ctx} {mu : List Bool} (h : fS C mu) {i : Nat} (hi : mu[i]? ≠ some true) : ∀ v, C.mu[i]? ≠ some (some v) := fun v e => hi (h i v e)
structure Md where
 mu : List Bool
 ow : List Bool
 fr : Bool
def SS (M : Md) (t : TS) (m : MS) : Prop := ∀ (C : Ctx) (G : Hp) (ρ : DSt) (σ : St) (H : Hp) (n : EndsD) (D : Ends), fS C M.mu→C.np=0→R C M.ow G ρ σ H []→m n ρ→Ks C M.ow M.fr G n D→t D σ H
structure QS (X : Cx) (M : Md) (st : Stmt) (m : MS) : Prop where
 ex : ∃ t, PS X st t∧SS M t m
structure QSs (X : Cx) (M : Md) (st : List Stmt) (m : MS) : Prop where
 ex : ∃ t, PSs X st t∧SS M t m
section
variable {X : Cx} {M : Md} {a b c e : Expr} {ma mb mc : ME} {mt : MT} {pos pos' : Pos} {st : Stmt} {rest : List Stmt} {m m1 m2 : MS}
def mSeq (m1 m2 : MS) : MS := fun n ρ => m1 { n with nx := fun ρ' => m2 n ρ' } ρ
def mNext : MS := fun n ρ => n.nx ρ
theorem aD : QSs X M [] mNext := ⟨_, oC, fun C G ρ σ H n D hm hn r h k => k.nx ρ σ G H h (ay.refl _) r⟩
theorem af (h : QS X M st m) : QSs X M [st] m := by obtain ⟨t, p, s⟩ := h; exact ⟨_, nT p, s⟩
theorem ae (h : QS X M st m1) (h2 : QSs X M rest m2) : QSs X M (st :: rest) (mSeq m1 m2) := by
 obtain ⟨t, p, s⟩ := h; obtain ⟨t2, p2, s2⟩ := h2
 refine ⟨_, lq p p2, fun C G ρ σ H n D hm hn r h k => s C G ρ σ H _ _ hm hn r h ?_⟩
 exact ⟨fun ρ' σ' G' H' h' z r' => s2 C G' ρ' σ' H' n D hm hn r' h' (k.mono z), k.bk, k.ct, k.rt⟩
def rc : MS := fun _ _ => False
theorem b_ : QS X M st rc := ⟨_, nz, fun C G ρ σ H n D hm hn r h k => h.elim⟩
def mIfS (mt : MT) (m1 m2 : MS) : MS := fun n ρ => mt ρ fun b ρ1 => if b=true then m1 n ρ1 else m2 n ρ1
theorem aR {s1 s2 : List Stmt} (h : QT X M.ow c mt) (h1 : QSs X M s1 m1) (h2 : QSs X M s2 m2) : QS X M (.If c s1 s2 pos) (mIfS mt m1 m2) := by
 obtain ⟨t, p, s⟩ := h; obtain ⟨t1, p1, s1⟩ := h1; obtain ⟨t2, p2, s2⟩ := h2
 refine ⟨_, ps_if p p1 p2, fun C G ρ σ H n D hm hn r h k => s C G ρ σ H [] _ _ r h fun b ρ' G' H' hq z kp r' => ?_⟩
 cases b with
 | true => rw [if_pos rfl] at hq ⊢; exact s1 C G' ρ' σ H' n D hm hn r' hq (k.mono z)
 | false => rw [if_neg (by decide)] at hq ⊢; exact s2 C G' ρ' σ H' n D hm hn r' hq (k.mono z)
def mRet (m : ME) : MS := fun n ρ => m ρ n.rt
theorem az (h : QE X M.ow e ma) (hf : M.fr=false := by rfl) : QS X M (.Return (some e) pos) (mRet ma) := by
 obtain ⟨t, p, s⟩ := h
 refine ⟨_, nk p, fun C G ρ σ H n D hm hn r h k => s C G ρ σ H [] _ _ r h fun d ρ' v G' H' hq z kp r' p => k.rt d ρ' σ v G' H' hq z (by unfold Ret; rw [if_neg (by rw [hf]; decide)]; exact ⟨r', p⟩)⟩
theorem R.non {C : Ctx} {ow : List Bool} {fr : Bool} {G : Hp} {ρ : DSt} {σ : St} {H : Hp} (r : R C ow G ρ σ H []) : Ret fr C ow G ρ σ H .non .non := by
 unfold Ret
 split
 ·obtain ⟨O, r⟩ := r
  exact ⟨O, r.len, r.gh, r.g0, r.gn, r.og, r.cok, r.fr, r.ft, r.al, r.mp, r.sl, ⟨by rw [Sep], trivial⟩, Nat.le_succ_of_le r.np⟩
 ·exact ⟨r, jY⟩
def kr (i : Nat) (m : ME) : MS := fun n ρ => m ρ fun d ρ1 => n.nx (ρ1.set i (some d))
theorem lx {t : TE} {i : Nat} (s : SE M.ow t ma) (ho : M.ow[i]? ≠ some true) (hu : M.mu[i]? ≠ some true) : SS M (my t (fN i)) (kr i ma) := fun C G ρ σ H n D hm hn r h k =>
 s C G ρ σ H [] _ _ r h fun d ρ' v G' H' hq z kp r' p => by
  obtain ⟨O, r'⟩ := r'
  exact k.nx _ _ G' H' hq z ⟨O, r'.setS ho (hm.no hu) p⟩
theorem j5 {t : TE} {i : Nat} (s : SF M.ow t ma) (ho : M.ow[i]? = some true) (hu : M.mu[i]? ≠ some true) : SS M (my t (fN i)) (kr i ma) := fun C G ρ σ H n D hm hn r h k =>
 s C G ρ σ H [] _ _ r h fun d ρ' v G' H' hq z kp r' => by
  obtain ⟨O, r'⟩ := r'
  exact k.nx _ _ G' H' hq z (r'.setO ho (hm.no hu) (by rw [hn]; exact Nat.zero_le _))
theorem aJ {i : Nat} {x : Str} (hN : X.N.Nodup) (hi : X.N[i]? = some x) (hx : Loc X.env.scope x) (he : QE X M.ow e ma) (ho : M.ow[i]? ≠ some true := by decide) (hu : M.mu[i]? ≠ some true := by decide) (hs : swapsWith e (some (.Name x pos')) pos.line X.env=pure false := by rfl) (hf : X.fn x=true∨X.env.scope.names.lookup x=some .local := by first | exact .inl rfl | exact .inr rfl | assumption) :
 QS X M (.Assign [.Name x pos'] e pos) (kr i ma) := by
 obtain ⟨t, p, s⟩ := he
 exact ⟨_, nP hN hi hx p hs hf, lx s ho hu⟩
theorem dM {i : Nat} {x : Str} (hN : X.N.Nodup) (hi : X.N[i]? = some x) (hx : Loc X.env.scope x) (he : QF X M.ow e ma) (ho : M.ow[i]? = some true := by decide) (hu : M.mu[i]? ≠ some true := by decide) (hs : swapsWith e (some (.Name x pos')) pos.line X.env=pure false := by rfl) (hf : X.fn x=true∨X.env.scope.names.lookup x=some .local := by first | exact .inl rfl | exact .inr rfl | assumption) :
 QS X M (.Assign [.Name x pos'] e pos) (kr i ma) := by
 obtain ⟨t, p, s⟩ := he
 exact ⟨_, nP hN hi hx p hs hf, j5 s ho hu⟩
def mPar (i j : Nat) (ma mb : ME) : MS := fun n ρ => ma ρ fun x ρ1 => mb ρ1 fun y ρ2 => n.nx ((ρ2.set i (some x)).set j (some y))
theorem qG {i j : Nat} {x y : Str} {px py pt : Pos} {kt k2 pt2} (hc : X.calm=true) (hN : X.N.Nodup) (hi : X.N[i]? = some x) (hj : X.N[j]? = some y) (hij : i ≠ j)
 (hx : X.env.scope.names.lookup x=some .local) (hy : X.env.scope.names.lookup y=some .local) (ha : QE X M.ow a ma) (hb : QE X M.ow b mb)
 (hw : swappedStores [.Tuple [.Name x px, .Name y py] kt pt] (.Tuple [a, b] k2 pt2) X.env=pure (some [x, y]))
 (oi : M.ow[i]? ≠ some true := by decide) (oj : M.ow[j]? ≠ some true := by decide) (ui : M.mu[i]? ≠ some true := by decide) (uj : M.mu[j]? ≠ some true := by decide)
 (hs1 : starEach [a, b] X.env=(false, eval a X.env) :: starEach [b] X.env := by rfl) (hs2 : starEach [b] X.env=[(false, eval b X.env)] := by rfl)
 (hs : swapsWithSole [.Tuple [.Name x px, .Name y py] kt pt] (.Tuple [a, b] k2 pt2) pos.line X.env=pure false := by rfl) :
 QS X M (.Assign [.Tuple [.Name x px, .Name y py] kt pt] (.Tuple [a, b] k2 pt2) pos) (mPar i j ma mb) := by
 obtain ⟨ta, pa, sa⟩ := ha; obtain ⟨tb, pb, sb⟩ := hb
 refine ⟨_, rA hc hN hi hj hij hx hy (ba pa (ba pb b3 hs2) hs1) hw hs, fun C G ρ σ H n D hm hn r h k => ?_⟩
 refine gU (Q := fun u w H2 => ∃ v w', [u, w]=[v, w']∧D.nx ((σ.set i (some v)).set j (some w')) H2) sa sb r h fun dx dy ρ' u w G' H' hq z kp r' p1 p2 => ⟨u, w, rfl, ?_⟩
 obtain ⟨O, r'⟩ := r'
 exact k.nx _ _ G' H' hq z ⟨O, (r'.setS oi (hm.no ui) p1).setS oj (hm.no uj) p2⟩
abbrev MG := D→DSt→(DSt→Prop)→Prop
abbrev MGs := List D→DSt→(DSt→Prop)→Prop
def SG (M : Md) (g : TG) (m : MG) : Prop := ∀ (C : Ctx) (G : Hp) (ρ : DSt) (σ : St) (H : Hp) (pd : List (D×V)) (d : D) (v : V) (k : DSt→Prop) (K : St→Hp→Prop), fS C M.mu→R C M.ow G ρ σ H pd→Rep G d v→m d ρ k →
 (∀ ρ' σ', k ρ'→R C M.ow G ρ' σ' H pd→K σ' H)→g v σ H K
def SGs (M : Md) (g : TGs) (m : MGs) : Prop := ∀ (C : Ctx) (G : Hp) (ρ : DSt) (σ : St) (H : Hp) (pd : List (D×V)) (d : List D) (v : List V) (k : DSt→Prop) (K : St→Hp→Prop), fS C M.mu→R C M.ow G ρ σ H pd→Reps G d v→m d ρ k →
 (∀ ρ' σ', k ρ'→R C M.ow G ρ' σ' H pd→K σ' H)→g v σ H K
structure QG (X : Cx) (M : Md) (e : Expr) (m : MG) : Prop where
 ex : ∃ t, PG X e t∧SG M t m
structure QGs (X : Cx) (M : Md) (e : List Expr) (m : MGs) : Prop where
 ex : ∃ t, PGs X e t∧SGs M t m
def eB (i : Nat) : MG := fun d ρ k => k (ρ.set i (some d))
theorem aI {i : Nat} {x : Str} (hN : X.N.Nodup) (hi : X.N[i]? = some x) (hx : Loc X.env.scope x) (ho : M.ow[i]? ≠ some true := by decide) (hu : M.mu[i]? ≠ some true := by decide) (hf : X.fn x=true∨X.env.scope.names.lookup x=some .local := by first | exact .inl rfl | exact .inr rfl | assumption) : QG X M (.Name x pos) (eB i) :=
 ⟨_, a9 hN hi hx hf, fun C G ρ σ H pd d v k K hm r p h kk => by obtain ⟨O, r⟩ := r; exact kk _ _ h ⟨O, r.setS ho (hm.no hu) p⟩⟩
def mM : MGs := fun ds ρ k => match ds with
 | [] => k ρ
 | _ => False
def ig (t : MG) (u : MGs) : MGs := fun ds ρ k => match ds with
 | d :: ds => t d ρ fun ρ1 => u ds ρ1 k
 | [] => False
def pz (t : MGs) : MG := fun d ρ k => match d with
 | .tup ds => t ds ρ k
 | _ => False
variable {mg : MG} {mgs : MGs} {es : List Expr}
theorem b6 : QGs X M [] mM := ⟨_, j9, fun C G ρ σ H pd d v k K hm r p h kk => by
 cases d with
 | nil => rw [Reps] at p; exact ⟨p, kk _ _ h r⟩
 | cons _ _ => exact h.elim⟩
theorem aK (h1 : QG X M e mg) (h2 : QGs X M es mgs) (hs : (assignEach (e :: es) X.env).map (·.2)=assign e X.env :: (assignEach es X.env).map (·.2) := by rfl) : QGs X M (e :: es) (ig mg mgs) := by
 obtain ⟨t, p, s⟩ := h1; obtain ⟨t2, p2, s2⟩ := h2
 refine ⟨_, fT p p2 hs, fun C G ρ σ H pd d v k K hm r p h kk => ?_⟩
 cases d with
 | nil => exact h.elim
 | cons d ds =>
  rw [Reps] at p
  obtain ⟨v, vs, rfl, p1, p3⟩ := p
  exact ⟨v, vs, rfl, s C G ρ σ H pd d v _ _ hm r p1 h fun ρ' σ' h' r' => s2 C G ρ' σ' H pd ds vs k K hm r' p3 h' kk⟩
def iT (n : Nat) (m : MGs) : Prop := ∀ ds ρ k, m ds ρ k→ds.length=n
theorem bn : iT 0 mM := fun ds ρ k h => by cases ds with | nil => rfl | cons _ _ => exact h.elim
theorem av {n : Nat} {i : Nat} (h : iT n mgs) : iT (n + 1) (ig (eB i) mgs) := fun ds ρ k q => by
 cases ds with
 | nil => exact q.elim
 | cons d ds => simp [h ds _ _ q]
theorem cL {kk : Nat} {n : Nat} (hc : X.calm=true) (h : QGs X M es mgs) (ht : iT n mgs)
 (hn : (assignEach es X.env).length=n := by rfl) (hst : (assignEach es X.env).findIdx? (·.1)=none := by rfl) : QG X M (.Tuple es kk pos) (pz mgs) := by
 obtain ⟨t, p, s⟩ := h
 refine ⟨_, na hc p hn hst, fun C G ρ σ H pd d v k K hm r p h kk => ?_⟩
 cases d with
 | tup ds =>
  obtain ⟨a, xs, rfl, h1, h2⟩ := f7 p
  exact ⟨a, xs, rfl, SqT.of (r.gh _ _ h1), by rw [h2.length]; exact ht _ _ _ h, s C G ρ σ H pd ds xs k K hm r h2 h kk⟩
 | _ => exact h.elim
def mAsg (m : ME) (g : MG) : MS := fun n ρ => m ρ fun d ρ1 => g d ρ1 n.nx
theorem ga {tg : Expr} (he : QE X M.ow e ma) (hg : QG X M tg mg) (hs : swapsWithSole [tg] e pos.line X.env=pure false := by rfl) (hw : swappedStores [tg] e X.env=pure none := by rfl)
 (h1 : (assignEach [tg] X.env).map (·.2)=[assign tg X.env] := by rfl) : QS X M (.Assign [tg] e pos) (mAsg ma mg) := by
 obtain ⟨t, p, s⟩ := he; obtain ⟨t2, p2, s2⟩ := hg
 refine ⟨_, jx p p2 hs hw h1, fun C G ρ σ H n D hm hn r h k => s C G ρ σ H [] _ _ r h fun d ρ' v G' H' hq z kp r' p => ?_⟩
 exact s2 C G' ρ' σ H' [] d v _ _ hm r' p hq fun ρ2 σ2 h2 r2 => k.nx ρ2 σ2 G' H' h2 z r2
def mDrop (m : ME) : MS := fun n ρ => m ρ fun _ ρ1 => n.nx ρ1
theorem d4 (he : QE X M.ow e ma) (hs : swapsWith e none pos.line X.env=pure false := by rfl) : QS X M (.Expr e pos) (mDrop ma) := by
 obtain ⟨t, p, s⟩ := he
 exact ⟨_, km p hs, fun C G ρ σ H n D hm hn r h k => s C G ρ σ H [] _ _ r h fun d ρ' v G' H' hq z kp r' p => k.nx ρ' σ G' H' hq z r'⟩
def kg (i : Nat) (m : ME) : MS := fun n ρ => match ρ[i]? with
 | some (some (.lst _)) => m ρ fun d ρ1 => match ρ1[i]? with
  | some (some (.lst ds)) => ds.length<1000∧n.nx (ρ1.set i (some (.lst (ds++[d]))))
  | _ => False
 | _ => False
theorem eL {i : Nat} {x : Str} {apos cpos npos : Pos} (hN : X.N[i]? = some x) (he : QF X M.ow e ma) (ho : M.ow[i]? = some true := by decide)
 (hv : Vis X.env.scope x := by first | exact Or.inl rfl | exact Or.inr (Or.inl rfl) | exact Or.inr (Or.inr rfl)) (hd : (x == ("__debug__" : Str))=false := by decide) (hcd : (x == ("__classdict__" : Str))=false := by decide)
 (hbase : attributeBase (.Name x npos) "append" X.env (eval (.Name x npos) X.env)=eval (.Name x npos) X.env := by rfl)
 (hfew : ((backTo cpos (starEach [e] X.env)).all (fun x => !x.1)&&(backToKw cpos (keywordEach [] X.env)).all (fun x => x.1.isSome)
  && decide ([e].length + ([] : List Keyword).length + (if ([] : List Keyword).isEmpty then 0 else 1)<30))=true := by rfl)
 (hline : (apos.endLine == cpos.line)=true := by rfl) (hst : starEach [e] X.env=[(false, eval e X.env)] := by rfl)
 (hs : swapsWith (.Call (.Attribute (.Name x npos) "append" apos) [e] [] cpos) none pos.line X.env=pure false := by rfl) :
 QS X M (.Expr (.Call (.Attribute (.Name x npos) "append" apos) [e] [] cpos) pos) (kg i ma) := by
 obtain ⟨t, p, s⟩ := he
 refine ⟨_, km (pL PySem.F.plainAttrs_list PySem.F.slot_list_append PySem.F.type_list_append ky (eC hN hv hd hcd) (ba p b3 hst) hbase hfew hline hst (by rfl)) hs, fun C G ρ σ H n D hm hn r h k => ?_⟩
 unfold kg at h
 split at h
 ·rename_i ds e1
  obtain ⟨O, ro⟩ := r
  obtain ⟨a, xs, h1, h2, _, _⟩ := ro.write e1 ho
  refine ⟨.ref a, h1, .inl ⟨rfl, xs, SqL.of h2⟩, ?_⟩
  refine s C G ρ σ H [] _ _ ⟨O, ro⟩ h fun d ρ' v G' H' hq z kp r' => ?_
  split at hq
  ·rename_i ds' e2
   obtain ⟨O', r'⟩ := r'
   obtain ⟨O2, r2, s2, s3⟩ := r'.join i ds'.length (by rw [hn]; exact Nat.zero_le _)
   obtain ⟨a', xs', g1, g2, g3, g4⟩ := r2.write e2 ho
   rw [h1] at g1; cases g1
   have hl := g3.length
   refine ⟨a, xs', v, rfl, rfl, g2, by rw [hl]; exact bC (Nat.le_of_lt hq.1), ?_⟩
   exact k.nx _ _ G' _ hq.2 z ⟨O2, g4 _ _ (g3.snoc (by simpa using s2))⟩
  ·exact hq.elim
 ·exact h.elim
def mSetI (i : Nat) (mk m : ME) : MS := fun n ρ => m ρ fun d ρ1 => match ρ1[i]? with
 | some (some (.lst _)) => mk ρ1 fun k ρ2 => match ρ2[i]? with
  | some (some (.lst ds)) => match k with
   | .int j => match ixN ds.length j with
    | some p => n.nx (ρ2.set i (some (.lst (ds.set p d))))
    | none => False
   | _ => False
  | _ => False
 | _ => False
theorem kj {i : Nat} {x : Str} {npos spos : Pos} (hN : X.N[i]? = some x) (he : QF X M.ow e ma) (hk : QE X M.ow b mb) (ho : M.ow[i]? = some true := by decide)
 (hv : Vis X.env.scope x := by first | exact Or.inl rfl | exact Or.inr (Or.inl rfl) | exact Or.inr (Or.inr rfl)) (hd : (x == ("__debug__" : Str))=false := by decide) (hcd : (x == ("__classdict__" : Str))=false := by decide)
 (ha : ∀ v, assign (.Subscript (.Name x npos) b spos) X.env v=(do
  let ov ← holding [v] (eval (.Name x npos) X.env)
  let iv ← holding [v, ov] (eval b X.env)
  standAt spos
  holding [v, ov, iv] (setItem ov iv v)
  release [v, ov, iv] []) := by intro _; rfl)
 (hs : swapsWithSole [.Subscript (.Name x npos) b spos] e pos.line X.env=pure false := by rfl) (hw : swappedStores [.Subscript (.Name x npos) b spos] e X.env=pure none := by rfl)
 (h1 : (assignEach [.Subscript (.Name x npos) b spos] X.env).map (·.2)=[assign (.Subscript (.Name x npos) b spos) X.env] := by rfl) :
 QS X M (.Assign [.Subscript (.Name x npos) b spos] e pos) (mSetI i mb ma) := by
 obtain ⟨t, p, s⟩ := he; obtain ⟨t2, p2, s2⟩ := hk
 refine ⟨_, jx p (rL (eC hN hv hd hcd) p2 lA ha) hs hw h1, fun C G ρ σ H n D hm hn r h k => s C G ρ σ H [] _ _ r h fun d ρ' v G' H' hq z kp r' => ?_⟩
 split at hq
 ·rename_i ds0 e0
  obtain ⟨O0, ro⟩ := r'
  obtain ⟨a, xs, hu, _, _, _⟩ := ro.write e0 ho
  refine ⟨.ref a, hu, ?_⟩
  refine s2 C G' ρ' σ H' _ _ _ ⟨O0, ro⟩ hq fun dk ρ2 jv G2 H2 hq2 z2 kp2 r2 pj => ?_
  split at hq2
  ·rename_i ds e2
   cases dk with
   | int j =>
    dsimp only at hq2
    split at hq2
    ·rename_i pl e3
     obtain ⟨O', r2⟩ := r2
     obtain ⟨O2, r3, w2, w3⟩ := r2.join i pl (by rw [hn]; exact Nat.zero_le _)
     obtain ⟨a', xs', g1, g2, g3, g4⟩ := r3.write e2 ho
     rw [hu] at g1; cases g1
     refine ⟨a, xs', j, pl, rfl, au pj, g2, by rw [g3.length]; exact e3, ?_⟩
     exact k.nx _ _ G2 _ hq2 (z.trans z2) ⟨O2, g4 _ _ (g3.set (by simpa using w2))⟩
    ·exact hq2.elim
   | _ => exact hq2.elim
  ·exact hq2.elim
 ·exact hq.elim
def rP (mt : MT) (mb : MS) : MS := fun n ρ => ∃ W : Nat→DSt→Prop, (∃ k, W k ρ)∧∀ k ρ, W k ρ→mt ρ fun b ρ1 =>
 if b=true then mb { n with nx := fun ρ' => ∃ k', k'<k∧W k' ρ', ct := fun ρ' => ∃ k', k'<k∧W k' ρ', bk := n.nx } ρ1 else n.nx ρ1
theorem iW {body : List Stmt} (hp : PassesOwn (model X.prog X.w) X.A X.env X.xe) (hc : QT X M.ow c mt) (hb : QSs X M body m) : QS X M (.While c body [] pos) (rP mt m) := by
 obtain ⟨t, p, s⟩ := hc; obtain ⟨t2, p2, s2⟩ := hb
 refine ⟨_, nE hp p p2, fun C G ρ σ H n D hm hn r h k => ?_⟩
 obtain ⟨W, ⟨k0, w0⟩, turn⟩ := h
 refine ⟨fun j σ' H' => ∃ G' ρ', ay G G'∧R C M.ow G' ρ' σ' H' []∧W j ρ', ⟨k0, G, ρ, ay.refl _, r, w0⟩, ?_⟩
 rintro j σ' H' ⟨G', ρ', z, r', w⟩
 refine s C G' ρ' σ' H' [] _ _ r' (turn j ρ' w) fun b ρ1 G1 H1 hq z1 kp r1 => ?_
 cases b with
 | true =>
  rw [if_pos rfl] at hq ⊢
  refine ⟨fun σ2 H2 => ∃ j', j'<j∧∃ G2 ρ2, ay G G2∧R C M.ow G2 ρ2 σ2 H2 []∧W j' ρ2, fun σ2 H2 h => h, ?_⟩
  refine s2 C G1 ρ1 σ' H1 _ _ hm hn r1 hq ⟨?_, ?_, ?_, ?_⟩
  ·rintro ρ2 σ2 G2 H2 ⟨j', hj, w'⟩ z2 r2; exact ⟨j', hj, G2, ρ2, z.trans (z1.trans z2), r2, w'⟩
  ·intro ρ2 σ2 G2 H2 h z2 r2; exact k.nx ρ2 σ2 G2 H2 h (z.trans (z1.trans z2)) r2
  ·rintro ρ2 σ2 G2 H2 ⟨j', hj, w'⟩ z2 r2; exact ⟨j', hj, G2, ρ2, z.trans (z1.trans z2), r2, w'⟩
  ·intro d ρ2 σ2 v G2 H2 h z2 r2; exact k.rt d ρ2 σ2 v G2 H2 h (z.trans (z1.trans z2)) r2
 | false => rw [if_neg (by decide)] at hq ⊢; exact k.nx ρ1 σ' G1 H1 hq (z.trans z1) r1
def kZ (J : It) (G : Hp) (ds : List D) : Prop := ∀ (C : Ctx) (ow : List Bool) (G' : Hp) (ρ : DSt) (σ : St) (H : Hp) (pd : List (D×V)) (i : Nat), ay G G'→R C ow G' ρ σ H pd →
 (ds.length≤i→J.stop i H)∧∀ d, ds[i]? = some d→J.go i H∧∀ x H', J.yld i H x H'→∃ G2, ay G' G2∧R C ow G2 ρ σ H' pd∧Rep G2 d x
def SI (ow : List Bool) (wi : TI) (mi : MA) : Prop := ∀ (C : Ctx) (G : Hp) (ρ : DSt) (σ : St) (H : Hp) (pd : List (D×V)) (q : List D→DSt→Prop) (Q : It→Hp→Prop), R C ow G ρ σ H pd→mi ρ q →
 (∀ ds ρ' G' H' J, q ds ρ'→ay G G'→Kp ow ρ ρ'→R C ow G' ρ' σ H' pd→kZ J G' ds→Q J H')→wi σ H Q
structure QI (X : Cx) (ow : List Bool) (tg iter : Expr) (mi : MA) : Prop where
 ex : ∃ t, PI X tg iter t∧SI ow t mi
def forD (g : MG) (mb : MS) (n : EndsD) (ds : List D) (ρ : DSt) : Prop := ∃ I : Nat→DSt→Prop, I 0 ρ ∧
 (∀ i d ρ, ds[i]? = some d→I i ρ→g d ρ fun ρ1 => mb { n with nx := I (i + 1), ct := I (i + 1), bk := n.nx } ρ1)∧∀ ρ, I ds.length ρ→n.nx ρ
def mFor (mi : MA) (g : MG) (mb : MS) : MS := fun n ρ => mi ρ fun ds ρ1 => forD g mb n ds ρ1
theorem cP {mi : MA} {tg iter : Expr} {body : List Stmt} (hp : PassesOwn (model X.prog X.w) X.A X.env X.xe) (hc : X.calm=true) (hi : QI X M.ow tg iter mi) (hg : QG X M tg mg) (hb : QSs X M body m)
 (hs : ∀ x, foldedSetIterable iter X.env x=pure x := by intro _; rfl) : QS X M (.For tg iter body [] pos) (mFor mi mg m) := by
 obtain ⟨ti, pi, si⟩ := hi; obtain ⟨tg', pg, sg⟩ := hg; obtain ⟨tb, pb, sb⟩ := hb
 refine ⟨_, pY hp hc pi pg pb hs, fun C G ρ σ H n D hm hn r h k => si C G ρ σ H [] _ _ r h fun ds ρ0 G0 H0 J hq z0 kp r0 jo => ?_⟩
 obtain ⟨I, i0, turn, fin⟩ := hq
 refine ⟨fun i j σ' H' => j=ds.length - i∧i≤ds.length∧∃ G' ρ', ay G0 G'∧R C M.ow G' ρ' σ' H' []∧I i ρ', ⟨_, rfl, Nat.zero_le _, G0, ρ0, ay.refl _, r0, i0⟩, ?_⟩
 rintro i j σ' H' ⟨rfl, hi, G', ρ', z, r', w⟩
 obtain ⟨st, go⟩ := jo C M.ow G' ρ' σ' H' [] i z r'
 by_cases hlt : i<ds.length
 ·obtain ⟨g1, g2⟩ := go ds[i] (List.getElem?_eq_getElem hlt)
  refine .inr ⟨g1, fun σ2 H2 => ∃ G2 ρ2, ay G0 G2∧R C M.ow G2 ρ2 σ2 H2 []∧I (i + 1) ρ2, fun σ2 H2 h => ⟨ds.length - (i + 1), by omega, rfl, hlt, h⟩, fun x H1 hy => ?_⟩
  obtain ⟨G1, z1, r1, p1⟩ := g2 x H1 hy
  refine sg C G1 ρ' σ' H1 [] ds[i] x _ _ hm r1 p1 (turn i ds[i] ρ' (List.getElem?_eq_getElem hlt) w) fun ρ2 σ2 h2 r2 => ?_
  refine sb C G1 ρ2 σ2 H1 _ _ hm hn r2 h2 ⟨?_, ?_, ?_, ?_⟩
  ·intro ρ3 σ3 G3 H3 h3 z3 r3; exact ⟨G3, ρ3, z.trans (z1.trans z3), r3, h3⟩
  ·intro ρ3 σ3 G3 H3 h3 z3 r3; exact k.nx ρ3 σ3 G3 H3 h3 (z0.trans (z.trans (z1.trans z3))) r3
  ·intro ρ3 σ3 G3 H3 h3 z3 r3; exact ⟨G3, ρ3, z.trans (z1.trans z3), r3, h3⟩
  ·intro d ρ3 σ3 v G3 H3 h3 z3 r3; exact k.rt d ρ3 σ3 v G3 H3 h3 (z0.trans (z.trans (z1.trans z3))) r3
 ·have e : i=ds.length := by omega
  subst e
  exact .inl ⟨st (Nat.le_refl _), k.nx ρ' σ' G' H' (fin ρ' w) (z0.trans z) r'⟩
end
section
variable {X : Cx} {ow : List Bool} {a b c e tg : Expr} {ma mb mc : ME} {pos : Pos} {mr : MA} {es : List Expr}
theorem qU {K : PySem.W.Frag} {G : Hp} {p : Addr} {xs : List V} {ds : List D} (h1 : G p=some (.lst xs)) (h2 : Reps G ds xs) : kZ (Itl K p) G ds := fun C ow G' ρ σ H pd i z r => by
 have hp := r.gh _ _ (z _ _ h1)
 refine ⟨fun hl => ⟨xs, SqL.of hp, by rw [h2.length]; exact hl⟩, fun d e => ?_⟩
 obtain ⟨v, e1, e2⟩ := d8 h2 e
 refine ⟨⟨xs, v, SqL.of hp, e1⟩, fun x H' hy => ?_⟩
 obtain ⟨rfl, hy⟩ := hy
 have := hy xs (SqL.of hp)
 rw [e1] at this; cases this
 exact ⟨G', ay.refl _, r, Rep.mono z _ _ e2⟩
def miLst (m : ME) : MA := fun ρ q => m ρ fun d ρ' => match d with
 | .lst ds => q ds ρ'
 | _ => False
theorem bu (h : QE X ow e ma) : QI X ow tg e (miLst ma) := by
 obtain ⟨t, p, s⟩ := h
 refine ⟨_, pk p, fun C G ρ σ H pd q Q r hm k => s C G ρ σ H pd _ _ r hm fun d ρ' v G' H' hq z kp r' p => ?_⟩
 cases d with
 | lst ds => obtain ⟨a, xs, rfl, h1, h2⟩ := aG p; exact ⟨a, rfl, ⟨xs, SqL.of (r'.gh _ _ h1)⟩, k ds ρ' G' H' _ hq z kp r' (qU h1 h2)⟩
 | _ => exact hq.elim
def e9 (lo : Int) (n : Nat) : List D := (List.range n).map fun (i : Nat) => .int (lo + i)
theorem eh {lo : Int} {n i : Nat} {d : D} (h : (e9 lo n)[i]? = some d) : i<n∧d = .int (lo + i) := by
 unfold e9 at h
 rw [List.getElem?_map] at h
 by_cases c : i<n
 ·rw [List.getElem?_range c] at h; exact ⟨c, (Option.some.inj h).symm⟩
 ·rw [List.getElem?_eq_none (by simp; omega)] at h; cases h
theorem bG (lo : Int) (n : Nat) : (e9 lo n).length=n := by unfold e9; simp
theorem mX {G : Hp} {lo : Int} {n : Nat} : kZ (Itr lo n) G (e9 lo n) := fun C ow G' ρ σ H pd i z r => by
 refine ⟨fun hl => by rw [bG] at hl; exact hl, fun d e => ?_⟩
 obtain ⟨h1, rfl⟩ := eh e
 refine ⟨h1, fun x H' hy => ?_⟩
 obtain ⟨rfl, rfl⟩ := hy
 exact ⟨G', ay.refl _, r, bg _⟩
def miR1 (m : MA) : MA := fun ρ q => m ρ fun ds ρ' => match ds with
 | [.int j] => (-(2 ^ 62)≤j∧j<2 ^ 62)∧q (e9 0 j.toNat) ρ'
 | _ => False
def miR2 (m : MA) : MA := fun ρ q => m ρ fun ds ρ' => match ds with
 | [.int i, .int j] => (-(2 ^ 62)≤i∧i<2 ^ 62 ∧ -(2 ^ 62)≤j∧j<2 ^ 62)∧q (e9 i (j - i).toNat) ρ'
 | _ => False
theorem k7 {p : Pos} (hg : Gl X "range") (hm : X.mg "range" = none) (ha : QA X ow [a] mr) (hs : starEach [a] X.env=[(false, eval a X.env)] := by rfl) : QI X ow tg (.Call (.Name "range" p) [a] [] pos) (miR1 mr) := by
 obtain ⟨t, p, s⟩ := ha
 refine ⟨_, kD hg hm p hs, fun C G ρ σ H pd q Q r hm k => s C G ρ σ H pd _ _ r hm fun ds ρ' vs G' H' hq z kp r' p hn => ?_⟩
 split at hq
 ·obtain ⟨v, rfl, p1⟩ := bq p
  rw [au p1]
  exact ⟨_, rfl, hq.1.1, hq.1.2, k _ ρ' G' H' _ hq.2 z kp r' mX⟩
 ·exact hq.elim
theorem db {p : Pos} (hg : Gl X "range") (hm : X.mg "range" = none) (ha : QA X ow [a, b] mr) (hs : starEach [a, b] X.env=[(false, eval a X.env), (false, eval b X.env)] := by rfl) (hs2 : starEach [b] X.env=[(false, eval b X.env)] := by rfl) : QI X ow tg (.Call (.Name "range" p) [a, b] [] pos) (miR2 mr) := by
 obtain ⟨t, p, s⟩ := ha
 refine ⟨_, kL hg hm p hs hs2, fun C G ρ σ H pd q Q r hm k => s C G ρ σ H pd _ _ r hm fun ds ρ' vs G' H' hq z kp r' p hn => ?_⟩
 split at hq
 ·obtain ⟨v, u, rfl, p1, p2⟩ := cM p
  rw [au p1, au p2]
  exact ⟨_, _, rfl, hq.1, k _ ρ' G' H' _ hq.2 z kp r' mX⟩
 ·exact hq.elim
def jc (ds : List D) : List D := ds.mapIdx fun i d => .tup [.int i, d]
theorem lI (ds : List D) : (jc ds).length=ds.length := by unfold jc; simp
theorem fb {ds : List D} {i : Nat} {d : D} (h : (jc ds)[i]? = some d) : ∃ d', ds[i]? = some d'∧d = .tup [.int i, d'] := by
 unfold jc at h
 rw [List.getElem?_mapIdx] at h
 cases e : ds[i]? with
 | none => rw [e] at h; cases h
 | some d' => rw [e] at h; exact ⟨d', rfl, (Option.some.inj h).symm⟩
theorem qB {G : Hp} {p : Addr} {xs : List V} {ds : List D} (h1 : G p=some (.lst xs)) (h2 : Reps G ds xs) : kZ (Ite p) G (jc ds) := fun C ow G' ρ σ H pd i z r => by
 have hp := r.gh _ _ (z _ _ h1)
 refine ⟨fun hl => ⟨xs, hp, by rw [h2.length]; rw [lI] at hl; exact hl⟩, fun d e => ?_⟩
 obtain ⟨d', e0, rfl⟩ := fb e
 obtain ⟨v, e1, e2⟩ := d8 h2 e0
 refine ⟨⟨xs, v, hp, e1⟩, fun x H' hy => ?_⟩
 obtain ⟨a, x', ha, rfl, rfl, hy⟩ := hy
 have := hy xs hp
 rw [e1] at this; cases this
 obtain ⟨O, r⟩ := r
 obtain ⟨r2, s2⟩ := r.new ha (.tup [.int i, v])
 exact ⟨_, s2, ⟨O, r2⟩, h_ aA (aT (bg _) (aT (Rep.mono (z.trans s2) _ _ e2) aV))⟩
def miEnu (m : MA) : MA := fun ρ q => m ρ fun ds ρ' => match ds with
 | [.lst ds] => q (jc ds) ρ'
 | _ => False
theorem h9 {k : Nat} {tpos p : Pos} (hg : Gl X "enumerate") (hm : X.mg "enumerate" = none) (ha : QA X ow [a] mr) (hs : starEach [a] X.env=[(false, eval a X.env)] := by rfl) : QI X ow (.Tuple es k tpos) (.Call (.Name "enumerate" p) [a] [] pos) (miEnu mr) := by
 obtain ⟨t, p, s⟩ := ha
 refine ⟨_, oe hg hm p hs, fun C G ρ σ H pd q Q r hm k => s C G ρ σ H pd _ _ r hm fun ds ρ' vs G' H' hq z kp r' p hn => ?_⟩
 split at hq
 ·obtain ⟨v, rfl, p1⟩ := bq p
  obtain ⟨a, xs, rfl, h1, h2⟩ := aG p1
  exact ⟨a, rfl, ⟨xs, r'.gh _ _ h1⟩, k _ ρ' G' H' _ hq z kp r' (qB h1 h2)⟩
 ·exact hq.elim
def pR (i : Nat) : ME := fun ρ q => match ρ[i]? with
 | some (some d) => q d (ρ.set i none)
 | _ => False
end
inductive AK where
 | s | m (i : Nat) | t
def AK.isM : AK→Bool
 | .s => false
 | _ => true
def fX (G : Hp) (σ : St) : List AK→List D→List V→List (D×V)→Prop
 | [], [], [], [] => True
 | .s :: ks, d :: ds, v :: vs, T => Rep G d v∧fX G σ ks ds vs T
 | .m i :: ks, _ :: ds, v :: vs, T => σ[i]? = some (some v)∧fX G σ ks ds vs T
 | .t :: ks, d :: ds, v :: vs, x :: T => x=(d, v)∧fX G σ ks ds vs T
 | _, _, _, _ => False
def SAk (ow : List Bool) (ks : List AK) (t : TA) (m : MA) : Prop := ∀ (C : Ctx) (G : Hp) (ρ : DSt) (σ : St) (H : Hp) (pd : List (D×V)) (q : List D→DSt→Prop) (Q : List V→Hp→Prop), R C ow G ρ σ H pd→m ρ q →
 (∀ ds ρ' vs T G' H', q ds ρ'→ay G G'→Kp ow ρ ρ'→R C ow G' ρ' σ H' (T.reverse++pd)→fX G' σ ks ds vs T→Q vs H')→t σ H Q
structure QAk (X : Cx) (ow : List Bool) (ks : List AK) (es : List Expr) (m : MA) : Prop where
 ex : ∃ t, PA X es t∧SAk ow ks t m
section
variable {X : Cx} {ow : List Bool} {a b c e tg : Expr} {ma mb mc : ME} {pos : Pos} {mr : MA} {es : List Expr} {ks : List AK}
theorem aj : QAk X ow [] [] nG := ⟨_, b3, fun C G ρ σ H pd q Q r h k => k [] ρ [] [] G H h (ay.refl _) Kp.refl r trivial⟩
theorem am (ha : QE X ow e ma) (hr : QAk X ow ks es mr) (hs : starEach (e :: es) X.env=(false, eval e X.env) :: starEach es X.env := by rfl) : QAk X ow (.s :: ks) (e :: es) (eS ma mr) := by
 obtain ⟨t, p, s⟩ := ha; obtain ⟨t2, p2, s2⟩ := hr
 refine ⟨_, ba p p2 hs, fun C G ρ σ H pd q Q r hm k => s C G ρ σ H pd _ _ r hm fun d ρ' v G' H' hq z kp r' p => ?_⟩
 exact s2 C G' ρ' σ H' pd _ _ r' hq fun ds ρ2 vs T G2 H2 hq2 z2 kp2 r2 p2 => k (d :: ds) ρ2 (v :: vs) T G2 H2 hq2 (z.trans z2) (kp.trans kp2) r2 ⟨Rep.mono z2 _ _ p, p2⟩
theorem qk_t (ha : QF X ow e ma) (hr : QAk X ow ks es mr) (hs : starEach (e :: es) X.env=(false, eval e X.env) :: starEach es X.env := by rfl) : QAk X ow (.t :: ks) (e :: es) (eS ma mr) := by
 obtain ⟨t, p, s⟩ := ha; obtain ⟨t2, p2, s2⟩ := hr
 refine ⟨_, ba p p2 hs, fun C G ρ σ H pd q Q r hm k => s C G ρ σ H pd _ _ r hm fun d ρ' v G' H' hq z kp r' => ?_⟩
 exact s2 C G' ρ' σ H' _ _ _ r' hq fun ds ρ2 vs T G2 H2 hq2 z2 kp2 r2 p2 => k (d :: ds) ρ2 (v :: vs) ((d, v) :: T) G2 H2 hq2 (z.trans z2) (kp.trans kp2) (by simpa using r2) ⟨rfl, p2⟩
def l7 (i : Nat) (r : MA) : MA := fun ρ q => match ρ[i]? with
 | some (some _) => r ρ fun ds ρ2 => q (.non :: ds) ρ2
 | _ => False
theorem bJ (i : Nat) {x : Str} (hr : QAk X ow ks es mr) (hN : X.N[i]? = some x := by rfl) (hv : Vis X.env.scope x := by first | exact Or.inl rfl | exact Or.inr (Or.inl rfl) | exact Or.inr (Or.inr rfl)) (hd : (x == ("__debug__" : Str))=false := by decide)
 (hcd : (x == ("__classdict__" : Str))=false := by decide) (hs : starEach (.Name x pos :: es) X.env=(false, eval (.Name x pos) X.env) :: starEach es X.env := by rfl) : QAk X ow (.m i :: ks) (.Name x pos :: es) (l7 i mr) := by
 obtain ⟨t2, p2, s2⟩ := hr
 refine ⟨_, ba (eC hN hv hd hcd) p2 hs, fun C G ρ σ H pd q Q r hm k => ?_⟩
 unfold l7 at hm
 split at hm
 ·rename_i d e
  obtain ⟨O, ro⟩ := r
  obtain ⟨v, h1, _⟩ := ro.sl i d e
  exact ⟨v, h1, s2 C G ρ σ H pd _ _ ⟨O, ro⟩ hm fun ds ρ2 vs T G2 H2 hq2 z2 kp2 r2 p2 => k (.non :: ds) ρ2 (v :: vs) T G2 H2 hq2 z2 kp2 r2 ⟨h1, p2⟩⟩
 ·exact hm.elim
def cm : List AK→List D→DSt→Option (List D)
 | [], [], _ => some []
 | .s :: ks, d :: ds, ρ => (cm ks ds ρ).map (d :: ·)
 | .t :: ks, d :: ds, ρ => (cm ks ds ρ).map (d :: ·)
 | .m i :: ks, _ :: ds, ρ => match ρ[i]? with
  | some (some d) => (cm ks ds ρ).map (d :: ·)
  | _ => none
 | _, _, _ => none
def lbs : List AK→Nat→List (Option Nat)
 | [], _ => []
 | .s :: ks, r => none :: lbs ks r
 | .m i :: ks, r => some (2 * i) :: lbs ks r
 | .t :: ks, r => some (2 * r + 1) :: lbs ks (r + 1)
def ar : List AK→List Nat
 | [] => []
 | .m i :: ks => i :: ar ks
 | _ :: ks => ar ks
def fnd (l : Nat) : List (Option Nat)→Nat→Option Nat
 | [], _ => none
 | x :: xs, k => if x=some l then some k else fnd l xs (k + 1)
theorem l9 {l : Nat} : ∀ {xs : List (Option Nat)} {k j : Nat}, fnd l xs k=some j→∃ i, j=k + i∧xs[i]? = some (some l)
 | [], _, _, h => by cases h
 | x :: xs, k, j, h => by
  unfold fnd at h
  split at h
  ·rename_i c; cases h; exact ⟨0, rfl, by simp [c]⟩
  ·obtain ⟨i, rfl, e⟩ := l9 h; exact ⟨i + 1, by omega, by simpa using e⟩
theorem iQ {l : Nat} : ∀ {xs : List (Option Nat)} {k : Nat}, (∀ i : Nat, xs[i]? ≠ some (some l))→fnd l xs k=none
 | [], _, _ => rfl
 | x :: xs, k, h => by
  unfold fnd
  rw [if_neg (fun c => h 0 (by simp [c]))]
  exact iQ fun i => by simpa using h (i + 1)
theorem mR {l : Nat} : ∀ {xs : List (Option Nat)} {k i : Nat}, (∀ (i j : Nat) (l : Nat), xs[i]? = some (some l)→xs[j]? = some (some l)→i=j)→xs[i]? = some (some l)→fnd l xs k=some (k + i)
 | [], _, _, _, h => by simp at h
 | x :: xs, k, i, u, h => by
  unfold fnd
  by_cases c : x=some l
  ·rw [if_pos c]
   have := u 0 i l (by simp [c]) h
   subst this; rfl
  ·rw [if_neg c]
   cases i with
   | zero => simp at h; exact absurd h c
   | succ i =>
    have := mR (k := k + 1) (i := i) (fun i j l a b => by have := u (i + 1) (j + 1) l (by simpa using a) (by simpa using b); omega) (by simpa using h)
    rw [this]; congr 1; omega
theorem bU : ∀ {ks : List AK} {r : Nat} {i l : Nat}, (lbs ks r)[i]? = some (some l)→(∃ j∈ar ks, l=2 * j)∨∃ j, r≤j∧l=2 * j + 1
 | [], _, _, _, h => by simp [lbs] at h
 | .s :: ks, r, 0, l, h => by simp [lbs] at h
 | .s :: ks, r, i + 1, l, h => by simp only [lbs, List.getElem?_cons_succ] at h; have := bU (ks := ks) h; simpa [ar] using this
 | .m j :: ks, r, 0, l, h => by simp [lbs] at h; exact .inl ⟨j, by simp [ar], h.symm⟩
 | .m j :: ks, r, i + 1, l, h => by
  simp only [lbs, List.getElem?_cons_succ] at h
  rcases bU h with ⟨z, h1, h2⟩ | h
  ·exact .inl ⟨z, by simp [ar, h1], h2⟩
  ·exact .inr h
 | .t :: ks, r, 0, l, h => by simp [lbs] at h; exact .inr ⟨r, Nat.le_refl _, h.symm⟩
 | .t :: ks, r, i + 1, l, h => by
  simp only [lbs, List.getElem?_cons_succ] at h
  rcases bU h with ⟨z, h1, h2⟩ | ⟨j, h1, h2⟩
  ·exact .inl ⟨z, by simpa [ar] using h1, h2⟩
  ·exact .inr ⟨j, by omega, h2⟩
theorem dU : ∀ {ks : List AK} {r : Nat}, (ar ks).Nodup→∀ (i j l : Nat), (lbs ks r)[i]? = some (some l)→(lbs ks r)[j]? = some (some l)→i=j
 | [], _, _, i, j, l, h, _ => by simp [lbs] at h
 | .s :: ks, r, nd, 0, j, l, h, _ => by simp [lbs] at h
 | .s :: ks, r, nd, i + 1, 0, l, _, h => by simp [lbs] at h
 | .s :: ks, r, nd, i + 1, j + 1, l, h, h2 => by simp only [lbs, List.getElem?_cons_succ] at h h2; rw [dU (ks := ks) (by simpa [ar] using nd) i j l h h2]
 | .m a :: ks, r, nd, 0, 0, l, _, _ => rfl
 | .m a :: ks, r, nd, 0, j + 1, l, h, h2 => by
  simp only [lbs, List.getElem?_cons_succ] at h2; simp [lbs] at h
  simp only [ar, List.nodup_cons] at nd
  rcases bU h2 with ⟨z, h3, h4⟩ | ⟨z, h3, h4⟩
  ·exact absurd h3 (by rw [show z=a by omega]; exact nd.1)
  ·omega
 | .m a :: ks, r, nd, i + 1, 0, l, h2, h => by
  simp only [lbs, List.getElem?_cons_succ] at h2; simp [lbs] at h
  simp only [ar, List.nodup_cons] at nd
  rcases bU h2 with ⟨z, h3, h4⟩ | ⟨z, h3, h4⟩
  ·exact absurd h3 (by rw [show z=a by omega]; exact nd.1)
  ·omega
 | .m a :: ks, r, nd, i + 1, j + 1, l, h, h2 => by
  simp only [ar, List.nodup_cons] at nd
  simp only [lbs, List.getElem?_cons_succ] at h h2; rw [dU (ks := ks) nd.2 i j l h h2]
 | .t :: ks, r, nd, 0, 0, l, _, _ => rfl
 | .t :: ks, r, nd, 0, j + 1, l, h, h2 => by
  simp only [lbs, List.getElem?_cons_succ] at h2; simp [lbs] at h
  rcases bU h2 with ⟨z, h3, h4⟩ | ⟨z, h3, h4⟩ <;> omega
 | .t :: ks, r, nd, i + 1, 0, l, h2, h => by
  simp only [lbs, List.getElem?_cons_succ] at h2; simp [lbs] at h
  rcases bU h2 with ⟨z, h3, h4⟩ | ⟨z, h3, h4⟩ <;> omega
 | .t :: ks, r, nd, i + 1, j + 1, l, h, h2 => by simp only [lbs, List.getElem?_cons_succ] at h h2; rw [dU (ks := ks) (by simpa [ar] using nd) i j l h h2]
end
theorem c9 {G H : Hp} {O : Own} : ∀ {T pd : List (D×V)}, bA G H O (T++pd)→bA G H O pd
 | [], _, h => h
 | _ :: T, _, h => c9 (T := T) h.2
theorem g6 {G H : Hp} {O : Own} : ∀ {T pd : List (D×V)} {j : Nat} {x : D×V}, bA G H O (T.reverse++pd)→T[j]? = some x→Sep G H O (2 * (pd.length + j) + 1) x.1 [] x.2
 | [], _, _, _, _, e => by simp at e
 | y :: T, pd, j, x, h, e => by
  have h' : bA G H O (T.reverse++(y :: pd)) := by simpa using h
  cases j with
  | zero => simp at e; subst e; exact (c9 h').1
  | succ j =>
   have := g6 (j := j) h' (by simpa using e)
   rw [show pd.length + (j + 1)=(y :: pd).length + j by simp; omega]
   exact this
theorem fo {G H : Hp} {O : Own} {σ : St} {ρ : DSt} : ∀ {ks : List AK} {ds ds' : List D} {vs : List V} {T : List (D×V)} {r : Nat}, fX G σ ks ds vs T→cm ks ds ρ=some ds' →
 (∀ (j : Nat) x, T[j]? = some x→Sep G H O (2 * (r + j) + 1) x.1 [] x.2)→(∀ i∈ar ks, ∀ d, ρ[i]? = some (some d)→∃ v, σ[i]? = some (some v)∧Sep G H O (2 * i) d [] v) →
 ds'.length=vs.length∧vs.length=ks.length∧∀ (k : Nat) d, ds'[k]? = some d→∃ v, vs[k]? = some v∧((∃ l, (lbs ks r)[k]? = some (some l)∧(ks.map AK.isM)[k]? = some true∧Sep G H O l d [] v)∨((ks.map AK.isM)[k]? = some false∧Rep G d v))
 | [], [], ds', [], [], r, _, hf, _, _ => by simp [cm] at hf; subst hf; exact ⟨rfl, rfl, fun k d e => by simp at e⟩
 | .s :: ks, d :: ds, ds', v :: vs, T, r, h, hf, hT, hS => by
  rw [cm] at hf
  cases e : cm ks ds ρ with
  | none => rw [e] at hf; cases hf
  | some es =>
   rw [e] at hf; cases hf
   obtain ⟨l1, l2, ih⟩ := fo (ks := ks) h.2 e hT (fun i hi => hS i (by simpa [ar] using hi))
   refine ⟨by simp [l1], by simp [l2], fun k d' e' => ?_⟩
   cases k with
   | zero => simp at e'; subst e'; exact ⟨v, rfl, .inr ⟨rfl, h.1⟩⟩
   | succ k => obtain ⟨u, g1, g2⟩ := ih k d' (by simpa using e'); exact ⟨u, by simpa using g1, by simpa [lbs] using g2⟩
 | .m i :: ks, d :: ds, ds', v :: vs, T, r, h, hf, hT, hS => by
  rw [cm] at hf
  cases e0 : ρ[i]? with
  | none => rw [e0] at hf; cases hf
  | some o =>
   cases o with
   | none => rw [e0] at hf; cases hf
   | some d0 =>
    rw [e0] at hf
    dsimp only at hf
    cases e : cm ks ds ρ with
    | none => rw [e] at hf; cases hf
    | some es =>
     rw [e] at hf; cases hf
     obtain ⟨l1, l2, ih⟩ := fo (ks := ks) h.2 e hT (fun i hi => hS i (by simp [ar, hi]))
     refine ⟨by simp [l1], by simp [l2], fun k d' e' => ?_⟩
     cases k with
     | zero =>
      simp at e'; subst e'
      obtain ⟨u, g1, g2⟩ := hS i (by simp [ar]) d0 e0
      rw [h.1] at g1; cases g1
      exact ⟨v, rfl, .inl ⟨2 * i, by simp [lbs], rfl, g2⟩⟩
     | succ k => obtain ⟨u, g1, g2⟩ := ih k d' (by simpa using e'); exact ⟨u, by simpa using g1, by simpa [lbs] using g2⟩
 | .t :: ks, d :: ds, ds', v :: vs, x :: T, r, h, hf, hT, hS => by
  rw [cm] at hf
  cases e : cm ks ds ρ with
  | none => rw [e] at hf; cases hf
  | some es =>
   rw [e] at hf; cases hf
   obtain ⟨l1, l2, ih⟩ := fo (ks := ks) (r := r + 1) h.2 e (fun j x e => by rw [show r + 1 + j=r + (j + 1) by omega]; exact hT (j + 1) x (by simpa using e)) (fun i hi => hS i (by simpa [ar] using hi))
   refine ⟨by simp [l1], by simp [l2], fun k d' e' => ?_⟩
   cases k with
   | zero =>
    simp at e'; subst e'
    have := hT 0 x rfl
    rw [h.1] at this
    exact ⟨v, rfl, .inl ⟨2 * r + 1, by simp [lbs], rfl, this⟩⟩
   | succ k => obtain ⟨u, g1, g2⟩ := ih k d' (by simpa using e'); exact ⟨u, by simpa using g1, by simpa [lbs] using g2⟩
 | [], _ :: _, _, _, _, _, h, _, _, _ => h.elim
 | [], [], _, _ :: _, _, _, h, _, _, _ => h.elim
 | [], [], _, [], _ :: _, _, h, _, _, _ => h.elim
 | .s :: _, [], _, _, _, _, h, _, _, _ => h.elim
 | .s :: _, _ :: _, _, [], _, _, h, _, _, _ => h.elim
 | .m _ :: _, [], _, _, _, _, h, _, _, _ => h.elim
 | .m _ :: _, _ :: _, _, [], _, _, h, _, _, _ => h.elim
 | .t :: _, [], _, _, _, _, h, _, _, _ => h.elim
 | .t :: _, _ :: _, _, [], _, _, h, _, _, _ => h.elim
 | .t :: _, _ :: _, _, _ :: _, [], _, h, _, _, _ => h.elim
theorem dh {G : Hp} {σ : St} : ∀ {ks : List AK} {ds : List D} {vs : List V} {T : List (D×V)} {k i : Nat}, fX G σ ks ds vs T→ks[k]? = some (.m i)→∃ v, vs[k]? = some v∧σ[i]? = some (some v)
 | [], _, _, _, k, i, _, e => by simp at e
 | .s :: ks, d :: ds, v :: vs, T, 0, i, h, e => by simp at e
 | .s :: ks, d :: ds, v :: vs, T, k + 1, i, h, e => by obtain ⟨u, g1, g2⟩ := dh (k := k) h.2 (by simpa using e); exact ⟨u, by simpa using g1, g2⟩
 | .m j :: ks, d :: ds, v :: vs, T, 0, i, h, e => by simp at e; subst e; exact ⟨v, rfl, h.1⟩
 | .m j :: ks, d :: ds, v :: vs, T, k + 1, i, h, e => by obtain ⟨u, g1, g2⟩ := dh (k := k) h.2 (by simpa using e); exact ⟨u, by simpa using g1, g2⟩
 | .t :: ks, d :: ds, v :: vs, x :: T, 0, i, h, e => by simp at e
 | .t :: ks, d :: ds, v :: vs, x :: T, k + 1, i, h, e => by obtain ⟨u, g1, g2⟩ := dh (k := k) h.2 (by simpa using e); exact ⟨u, by simpa using g1, g2⟩
 | .s :: _, [], _, _, _, _, h, _ => h.elim
 | .s :: _, _ :: _, [], _, _, _, h, _ => h.elim
 | .m _ :: _, [], _, _, _, _, h, _ => h.elim
 | .m _ :: _, _ :: _, [], _, _, _, h, _ => h.elim
 | .t :: _, [], _, _, _, _, h, _ => h.elim
 | .t :: _, _ :: _, [], _, _, _, h, _ => h.elim
 | .t :: _, _ :: _, _ :: _, [], _, _, h, _ => h.elim
def bz : List AK→DSt→DSt→DSt
 | .m i :: ks, x :: ρ2, ρ => bz ks ρ2 (ρ.set i x)
 | _ :: ks, _ :: ρ2, ρ => bz ks ρ2 ρ
 | _, _, ρ => ρ
def gf : List AK→DSt→DSt→DSt
 | .s :: ks, os, ρ => gf ks os ρ
 | .m i :: ks, o :: os, ρ => gf ks os (ρ.set i o)
 | .t :: ks, _ :: os, ρ => gf ks os ρ
 | _, _, ρ => ρ
theorem fm : ∀ {ks : List AK} {ρ2 ρ : DSt}, ρ2.length=ks.length→gf ks (mus (ks.map AK.isM) ρ2) ρ=bz ks ρ2 ρ
 | [], [], ρ, _ => rfl
 | .s :: ks, x :: ρ2, ρ, h => by simp only [List.map, AK.isM, mus, gf, bz]; exact fm (by simpa using h)
 | .m i :: ks, x :: ρ2, ρ, h => by simp only [List.map, AK.isM, mus, gf, bz]; exact fm (by simpa using h)
 | .t :: ks, x :: ρ2, ρ, h => by simp only [List.map, AK.isM, mus, gf, bz]; exact fm (by simpa using h)
theorem em : ∀ {ks : List AK} {ρ2 ρ : DSt}, (bz ks ρ2 ρ).length=ρ.length
 | [], _, _ => by simp [bz]
 | .s :: ks, [], _ => by simp [bz]
 | .m i :: ks, [], _ => by simp [bz]
 | .t :: ks, [], _ => by simp [bz]
 | .s :: ks, x :: ρ2, ρ => by simp only [bz]; exact em
 | .m i :: ks, x :: ρ2, ρ => by simp only [bz]; rw [em]; simp
 | .t :: ks, x :: ρ2, ρ => by simp only [bz]; exact em
theorem d3 : ∀ {ks : List AK} {ρ2 ρ : DSt} {i : Nat}, i ∉ ar ks→(bz ks ρ2 ρ)[i]? = ρ[i]?
 | [], _, _, _, _ => by simp [bz]
 | .s :: ks, [], _, _, _ => by simp [bz]
 | .m i :: ks, [], _, _, _ => by simp [bz]
 | .t :: ks, [], _, _, _ => by simp [bz]
 | .s :: ks, x :: ρ2, ρ, i, h => by simp only [bz]; exact d3 (by simpa [ar] using h)
 | .t :: ks, x :: ρ2, ρ, i, h => by simp only [bz]; exact d3 (by simpa [ar] using h)
 | .m j :: ks, x :: ρ2, ρ, i, h => by
  simp only [bz]
  simp only [ar, List.mem_cons, not_or] at h
  rw [d3 h.2, List.getElem?_set_ne (Ne.symm h.1)]
theorem dQ : ∀ {ks : List AK} {ρ2 ρ : DSt} {i : Nat} {d : D}, (bz ks ρ2 ρ)[i]? = some (some d)→ρ2.length=ks.length→(i ∉ ar ks∧ρ[i]? = some (some d))∨∃ k : Nat, ks[k]? = some (.m i)∧ρ2[k]? = some (some d)
 | [], [], ρ, i, d, h, _ => .inl ⟨by simp [ar], by simpa [bz] using h⟩
 | .s :: ks, x :: ρ2, ρ, i, d, h, hl => by
  simp only [bz] at h
  rcases dQ h (by simpa using hl) with ⟨h1, h2⟩ | ⟨k, h1, h2⟩
  ·exact .inl ⟨by simpa [ar] using h1, h2⟩
  ·exact .inr ⟨k + 1, by simpa using h1, by simpa using h2⟩
 | .t :: ks, x :: ρ2, ρ, i, d, h, hl => by
  simp only [bz] at h
  rcases dQ h (by simpa using hl) with ⟨h1, h2⟩ | ⟨k, h1, h2⟩
  ·exact .inl ⟨by simpa [ar] using h1, h2⟩
  ·exact .inr ⟨k + 1, by simpa using h1, by simpa using h2⟩
 | .m j :: ks, x :: ρ2, ρ, i, d, h, hl => by
  simp only [bz] at h
  rcases dQ h (by simpa using hl) with ⟨h1, h2⟩ | ⟨k, h1, h2⟩
  ·rcases cH h2 with ⟨rfl, rfl⟩ | ⟨h3, h4⟩
   ·exact .inr ⟨0, rfl, rfl⟩
   ·exact .inl ⟨by simp [ar, h1, h3], h4⟩
  ·exact .inr ⟨k + 1, by simpa using h1, by simpa using h2⟩
theorem jF : ∀ {ks : List AK} {r k i : Nat}, ks[k]? = some (.m i)→(lbs ks r)[k]? = some (some (2 * i))
 | [], _, _, _, e => by simp at e
 | .s :: ks, r, 0, i, e => by simp at e
 | .s :: ks, r, k + 1, i, e => by simp only [lbs, List.getElem?_cons_succ]; exact jF (by simpa using e)
 | .m j :: ks, r, 0, i, e => by simp at e; subst e; simp [lbs]
 | .m j :: ks, r, k + 1, i, e => by simp only [lbs, List.getElem?_cons_succ]; exact jF (by simpa using e)
 | .t :: ks, r, 0, i, e => by simp at e
 | .t :: ks, r, k + 1, i, e => by simp only [lbs, List.getElem?_cons_succ]; exact jF (by simpa using e)
theorem d9 : ∀ {ks : List AK} {r k l : Nat}, (lbs ks r)[k]? = some (some l)→(ks.map AK.isM)[k]? = some true
 | [], _, _, _, e => by simp [lbs] at e
 | .s :: ks, r, 0, i, e => by simp [lbs] at e
 | .s :: ks, r, k + 1, i, e => by simp only [lbs, List.getElem?_cons_succ] at e; simp only [List.map, List.getElem?_cons_succ]; exact d9 e
 | .m j :: ks, r, 0, i, e => rfl
 | .m j :: ks, r, k + 1, i, e => by simp only [lbs, List.getElem?_cons_succ] at e; simp only [List.map, List.getElem?_cons_succ]; exact d9 e
 | .t :: ks, r, 0, i, e => rfl
 | .t :: ks, r, k + 1, i, e => by simp only [lbs, List.getElem?_cons_succ] at e; simp only [List.map, List.getElem?_cons_succ]; exact d9 e
theorem oZ {ks : List AK} {k i : Nat} (h : ks[k]? = some (.m i)) : i∈ar ks := by
 induction ks generalizing k with
 | nil => simp at h
 | cons x ks ih =>
  cases k with
  | zero => simp at h; subst h; simp [ar]
  | succ k => have := ih (by simpa using h); cases x <;> simp [ar, this]
theorem iH {C : Ctx} {ow : List Bool} {G : Hp} {ρ : DSt} {σ : St} {H : Hp} {pd T : List (D×V)} {ks : List AK} {ds ds' : List D} {vs : List V} {fr : Bool} {sd : SpD} {q : D→DSt→Prop} {Q : VK} {E : XK}
 (hn : C.np≤pd.length) (r : R C ow G ρ σ H (T.reverse++pd)) (ha : fX G σ ks ds vs T) (hf : cm ks ds ρ=some ds') (nd : (ar ks).Nodup) (hw : ∀ i∈ar ks, ow[i]? = some true)
 (h : sd ds' fun d os => q d (gf ks os ρ))
 (k : ∀ d ρ' v G' H', q d ρ'→ay G G'→Kp ow ρ ρ'→(if fr=true then R C ow G' ρ' σ H' ((d, v) :: pd) else R C ow G' ρ' σ H' pd∧Rep G' d v)→Q v H') : a7 (ks.map AK.isM) fr sd vs H Q E := by
 obtain ⟨O, ro⟩ := r
 have pn := ro.pn
 obtain ⟨l1, l2, hat⟩ := fo (O := O) (H := H) (r := pd.length) ha hf (fun j x e => g6 pn e) (fun i hi d e => by
  obtain ⟨v, h1, h2⟩ := ro.sl i d e; rw [if_pos (hw i hi)] at h2; exact ⟨v, h1, h2⟩)
 let lb := lbs ks pd.length
 let fin : Nat→Option Nat := fun l => (fnd l lb 0).map (2 * ·)
 let fbk : Nat→Option Nat := fun l => if l=1 then some (2 * pd.length + 1) else if l % 2=0 then (match lb[l / 2]? with | some o => o | none => none) else none
 have uq := dU (ks := ks) (r := pd.length) nd
 have fin_at : ∀ (i l : Nat), lb[i]? = some (some l)→fin l=some (2 * i) := fun i l e => by
  show (fnd l lb 0).map _=_
  rw [mR uq e]; simp
 have fin_of : ∀ l l', fin l=some l'→∃ i, l'=2 * i∧lb[i]? = some (some l) := fun l l' e => by
  change (fnd l lb 0).map _=_ at e
  cases z : fnd l lb 0 with
  | none => rw [z] at e; cases e
  | some j => rw [z] at e; cases e; obtain ⟨i, rfl, e2⟩ := l9 z; exact ⟨i, by show 2 * (0 + i)=2 * i; omega, e2⟩
 have fin_none : ∀ l, (∀ i : Nat, lb[i]? ≠ some (some l))→fin l=none := fun l e => by
  show (fnd l lb 0).map _=_
  rw [iQ e]; rfl
 have ri := ro.into (mu := ks.map AK.isM) (fin := fin) (ds := ds') (vs := vs) l1 (fun j d e => by
  obtain ⟨v, h1, h2⟩ := hat j d e
  refine ⟨v, h1, ?_⟩
  rcases h2 with ⟨l, h2, h3, h4⟩ | ⟨h2, h3⟩
  ·rw [if_pos h3]; exact ⟨l, h4, fin_at j l h2⟩
  ·rw [if_neg (by rw [h2]; decide)]; exact h3) (fun l l' e => by
  obtain ⟨i, rfl, e2⟩ := fin_of l l' e
  exact ⟨i, rfl, d9 e2, by have := (List.getElem?_eq_some_iff.mp (d9 e2)).1; rw [List.length_map] at this; omega⟩)
 refine ⟨_, G, ds', fun d os => q d (gf ks os ρ), rfl, rfl, ⟨_, ri⟩, h, by rw [List.length_map, l1, l2], ?_⟩
 intro d ρ2 σ2 v G2 H2 hq z hl hr
 rw [List.length_map] at hl
 rw [fm hl] at hq
 have out : ∀ (pd2 pd3 : List (D×V)) (O2 : Own), RO ⟨G, H, bE fin O, msV (ks.map AK.isM) vs, 0⟩ (ks.map AK.isM) G2 ρ2 σ2 H2 pd2 O2→C.np≤pd3.length →
  (∀ (O3 : Own), (∀ a l π, O a=some (l, π)→fin l=none→O3 a=some (l, π)∧H2 a=H a)→(∀ a l l' π, O2 a=some (l', π)→fbk l'=some l→O3 a=some (l, π))→bP G G2→bA G2 H2 O3 pd3) →
  RO C ow G2 (bz ks ρ2 ρ) σ H2 pd3 (kY fin fbk O O2) := fun pd2 pd3 O2 r2 hn3 hP => by
  refine ro.out (vs := vs) r2 ?_ (by rw [em]; exact ro.len) hn3 ?_ ?_ hP
  ·intro l0 l' l e1 e2
   obtain ⟨i, rfl, e3⟩ := fin_of l0 l' e1
   change (if 2 * i=1 then _ else if 2 * i % 2=0 then _ else _)=_ at e2
   rw [if_neg (by omega), if_pos (by omega), show 2 * i / 2=i by omega, e3] at e2
   exact (Option.some.inj e2).symm
  ·intro i d c e
   rcases dQ e hl with ⟨_, h2⟩ | ⟨k, h1, _⟩
   ·exact h2
   ·exact absurd (hw i (oZ h1)) c
  ·intro i d c e
   rcases dQ e hl with ⟨h1, h2⟩ | ⟨j, h1, h2⟩
   ·refine .inl ⟨fin_none _ fun j e => ?_, h2⟩
    rcases bU e with ⟨z, h3, h4⟩ | ⟨z, h3, h4⟩
    ·exact h1 (by rw [show i=z by omega]; exact h3)
    ·omega
   ·obtain ⟨u, g1, g2⟩ := dh ha h1
    have im : (ks.map AK.isM)[j]? = some true := by rw [List.getElem?_map, h1]; rfl
    refine .inr ⟨j, u, ?_, im, h2, g2, r2.mp j u (jy im g1)⟩
    show (if 2 * j=1 then _ else if 2 * j % 2=0 then _ else _)=_
    rw [if_neg (by omega), if_pos (by omega), show 2 * j / 2=j by omega, jF h1]
 have pdk : ∀ (O3 : Own), (∀ a l π, O a=some (l, π)→fin l=none→O3 a=some (l, π)∧H2 a=H a)→bP G G2→bA G2 H2 O3 pd := fun O3 h1 ts =>
  bA.keep ts (fun a j π hj e => h1 a _ _ e (fin_none _ fun i e => by
   rcases bU e with ⟨z, h3, h4⟩ | ⟨z, h3, h4⟩ <;> omega)) (c9 (T := T.reverse) pn)
 have kp : Kp ow ρ (bz ks ρ2 ρ) := fun j hj => d3 fun hs => hj (hw j hs)
 refine k d (bz ks ρ2 ρ) v G2 H2 hq z kp ?_
 unfold Ret at hr
 split at hr
 ·rename_i c
  rw [if_pos c]
  obtain ⟨O2, r2⟩ := hr
  refine ⟨_, out _ ((d, v) :: pd) O2 r2 (Nat.le_succ_of_le hn) fun O3 h1 h2 ts => ⟨?_, pdk O3 h1 ts⟩⟩
  exact r2.pn.1.keep (fun _ _ z => z) fun a τ e => ⟨h2 a _ _ _ e (by show (if 2 * 0 + 1=1 then _ else _)=_; rw [if_pos rfl]), rfl⟩
 ·rename_i c
  rw [if_neg c]
  obtain ⟨⟨O2, r2⟩, p⟩ := hr
  exact ⟨⟨_, out _ pd O2 r2 hn fun O3 h1 h2 ts => pdk O3 h1 ts⟩, p⟩
section
variable {X : Cx} {ow : List Bool} {a b c e tg : Expr} {ma mb mc : ME} {pos p' : Pos} {mr : MA} {es : List Expr} {ks : List AK} {x : Str}
def ke (ks : List AK) (sd : SpD) (m : MA) : ME := fun ρ q => m ρ fun ds ρ1 => match cm ks ds ρ1 with
 | some ds' => sd ds' fun d os => q d (gf ks os ρ1)
 | none => False
theorem oQ {k : Nat} {f : Addr} {fd : FuncData} {ps : List Str} {mu : List Bool} {sd : SpD} (F : FnOk X.prog X.w X.K X.mg X.base CX0 k f fd ps (a7 mu false sd)) (hr : Room k X.A) (hg : Gl X x) (hm : X.mg x=some (.ref f)) (hk : PySem.W.keepIn X.K (.ref f)=true) (hb : eY X.K fd ps [])
 (ha : QAk X ow ks (e :: es) mr) (hmu : mu=ks.map AK.isM := by rfl) (nd : (ar ks).Nodup := by decide) (hw : ∀ i∈ar ks, ow[i]? = some true := by decide) (hdb : (x == ("__debug__" : Str))=false := by decide)
 (he : starEach (e :: es) X.env=(false, eval e X.env) :: starEach es X.env := by rfl) (hpl : (backTo pos (starEach es X.env)).any (·.1)=false := by rfl) : QE X ow (.Call (.Name x p') (e :: es) [] pos) (ke ks sd mr) := by
 obtain ⟨t, p, s⟩ := ha
 subst hmu
 refine ⟨_, kh F hr hg hm hk hb .nil pP p hdb he hpl, fun C G ρ σ H pd q Q r hm k => s C G ρ σ H pd _ _ r hm fun ds ρ' vs T G' H' hq z kp r' p => ?_⟩
 rw [List.append_nil]
 split at hq
 ·rename_i ds' ef
  exact iH (fr := false) r.np r' p ef nd hw hq fun d ρ2 v G2 H2 hq2 z2 kp2 h2 => by
   rw [if_neg (by decide)] at h2
   exact k d ρ2 v G2 H2 hq2 (z.trans z2) (kp.trans kp2) h2.1 h2.2
 ·exact hq.elim
theorem oN {k : Nat} {f : Addr} {fd : FuncData} {ps : List Str} {mu : List Bool} {sd : SpD} (F : FnOk X.prog X.w X.K X.mg X.base CX0 k f fd ps (a7 mu true sd)) (hr : Room k X.A) (hg : Gl X x) (hm : X.mg x=some (.ref f)) (hk : PySem.W.keepIn X.K (.ref f)=true) (hb : eY X.K fd ps [])
 (ha : QAk X ow ks (e :: es) mr) (hmu : mu=ks.map AK.isM := by rfl) (nd : (ar ks).Nodup := by decide) (hw : ∀ i∈ar ks, ow[i]? = some true := by decide) (hdb : (x == ("__debug__" : Str))=false := by decide)
 (he : starEach (e :: es) X.env=(false, eval e X.env) :: starEach es X.env := by rfl) (hpl : (backTo pos (starEach es X.env)).any (·.1)=false := by rfl) : QF X ow (.Call (.Name x p') (e :: es) [] pos) (ke ks sd mr) := by
 obtain ⟨t, p, s⟩ := ha
 subst hmu
 refine ⟨_, kh F hr hg hm hk hb .nil pP p hdb he hpl, fun C G ρ σ H pd q Q r hm k => s C G ρ σ H pd _ _ r hm fun ds ρ' vs T G' H' hq z kp r' p => ?_⟩
 rw [List.append_nil]
 split at hq
 ·rename_i ds' ef
  exact iH (fr := true) r.np r' p ef nd hw hq fun d ρ2 v G2 H2 hq2 z2 kp2 h2 => by
   rw [if_pos rfl] at h2
   exact k d ρ2 v G2 H2 hq2 (z.trans z2) (kp.trans kp2) h2
 ·exact hq.elim
end
theorem RO.grow {C : Ctx} {mu ow : List Bool} {G : Hp} {ds : List D} {vs : List V} {H : Hp} {O : Own} (n : Nat) (h : RO C mu G (ds.map some) (vs.map some) H [] O) (ho : ∀ i : Nat, i<ds.length→ow[i]? = mu[i]?) :
 RO C ow G (ds.map some++List.replicate n none) (vs.map some++List.replicate n none) H [] O := by
 have hl : ds.length=vs.length := by simpa using h.len
 have up : ∀ {α : Type} {l : List α} {i : Nat} {d : α}, (l.map some++List.replicate n none)[i]? = some (some d)→i<l.length∧(l.map some)[i]? = some (some d) := fun {α l i d} e => by
  by_cases c : i<l.length
  ·rw [List.getElem?_append_left (by simpa using c)] at e; exact ⟨c, e⟩
  ·rw [List.getElem?_append_right (by simpa using c)] at e
   rw [List.getElem?_replicate] at e
   split at e <;> cases e
 refine ⟨by simp [hl], h.gh, h.g0, h.gn, h.og, h.cok, h.fr, h.ft, h.al, ?_, ?_, h.pn, h.np⟩
 ·intro i v e
  have := h.mp i v e
  rw [List.getElem?_append_left (cw this)]; exact this
 ·intro i d e
  obtain ⟨c, e1⟩ := up e
  obtain ⟨v, h1, h2⟩ := h.sl i d e1
  exact ⟨v, by rw [List.getElem?_append_left (cw h1)]; exact h1, by rw [ho i c]; exact h2⟩
theorem RO.trim {C : Ctx} {mu ow : List Bool} {G : Hp} {ρ : DSt} {σ : St} {H : Hp} {pd : List (D×V)} {O : Own} (h : RO C ow G ρ σ H pd O) (hm : fS C mu) (ho : ∀ i : Nat, i<mu.length→ow[i]? = mu[i]?) :
 RO C mu G (bK mu.length ρ) (bK mu.length σ) H pd O := by
 refine ⟨by rw [cf, cf], h.gh, h.g0, h.gn, h.og, h.cok, h.fr, h.ft, h.al, ?_, ?_, h.pn, h.np⟩
 ·intro i v e
  exact ie (lt_of_slot' (hm i v e)) (h.mp i v e)
 ·intro i d e
  obtain ⟨c, e1⟩ := ib e
  obtain ⟨v, h1, h2⟩ := h.sl i d e1
  exact ⟨v, ie c h1, by rw [← ho i c]; exact h2⟩
where
 lt_of_slot' {l : List Bool} {i : Nat} {x : Bool} (h : l[i]? = some x) : i<l.length := (List.getElem?_eq_some_iff.mp h).1
def nI (mu : List Bool) (q : D→DSt→Prop) : EndsD := ⟨fun ρ => q .non (mus mu ρ), fun d ρ => q d (mus mu ρ), fun _ => False, fun _ => False⟩
theorem fnD {P : Program} {w : World} {K : PySem.W.Frag} {mg : Str→Option Value} {base : Heap} {x qual : Str} {st : Stmt} {f : Addr} {fd : FuncData} {N ps : List Str} {k : Nat} (F : Fun K x qual st f fd) (S : FnScope N ps (ai st)) (M : Md) (sd : SpD)
 (hl : ∀ ds q, sd ds q→ds.length=ps.length) (ho : M.ow.take ps.length=M.mu) (hml : M.mu.length=ps.length)
 (hbody : ∀ (cdv : Value) (A : Around) (outer : List Env) (s : Shared) (H : Hp) (E : XK), Room k (A.deeper (envOfC qual (ai st) s.heap.objs.size f cdv)) →
  ∃ m, QSs (jz CX0 P w K mg base N qual (ai st) f cdv A outer s H E).nox M (bT st) m∧∀ ds q, sd ds q→m (nI M.mu q) (ds.map some++List.replicate (N.length - ps.length) none)) :
 FnOk P w K mg base CX0 (k + 1) f fd ps (a7 M.mu M.fr sd) := by
 have hov : ∀ i : Nat, i<M.mu.length→M.ow[i]? = M.mu[i]? := fun i hi => by rw [← ho, List.getElem?_take_of_lt (by omega)]
 have hlen : ∀ vs H Q E, a7 M.mu M.fr sd vs H Q E→vs.length=ps.length := fun vs H Q E ⟨C, G, ds, q, _, _, ⟨O, ro⟩, h1, _, _⟩ => by
  have := ro.len; simp at this; rw [← this]; exact hl ds q h1
 refine F.ok S hlen fun cdv A outer s H vs Q E hr hsp => ?_
 obtain ⟨m, ⟨t, p, ss⟩, hm⟩ := hbody cdv A outer s H E hr
 have hvl := hlen vs H Q E hsp
 obtain ⟨C, G, ds, q, hnp, hmu, ⟨O, ro⟩, hsd, hml2, kk⟩ := hsp
 refine ⟨t, p, ?_⟩
 have hmo : fS C M.mu := fun i v e => by rw [hmu] at e; exact (jA e).1
 have r0 : R C M.ow G (ds.map some++List.replicate (N.length - ps.length) none) (cF N vs) H [] := by
  unfold cF; rw [hvl]
  exact ⟨O, ro.grow _ fun i hi => hov i (by omega)⟩
 refine ss C G _ _ H (nI M.mu q) _ hmo hnp r0 (hm ds q hsd) ⟨?_, fun _ _ _ _ h => h.elim, fun _ _ _ _ h => h.elim, ?_⟩
 ·intro ρ σ G' H' h z ⟨O', r'⟩
  refine kk .non (bK M.mu.length ρ) (bK M.mu.length σ) .non G' H' (by rw [b9]; exact h) z (cf _ _) (R.non ⟨O', r'.trim hmo hov⟩)
 ·intro d ρ σ v G' H' h z hr'
  refine kk d (bK M.mu.length ρ) (bK M.mu.length σ) v G' H' (by rw [b9]; exact h) z (cf _ _) ?_
  unfold Ret at hr' ⊢
  split at hr'
  ·rename_i c; rw [if_pos c]; obtain ⟨O', r'⟩ := hr'; exact ⟨O', r'.trim hmo hov⟩
  ·rename_i c; rw [if_neg c]; obtain ⟨⟨O', r'⟩, p⟩ := hr'; exact ⟨⟨O', r'.trim hmo hov⟩, p⟩
theorem Seps.mk {G H : Hp} {O : Own} {i : Nat} : ∀ {T : List (D×V)} {k : Nat} {π : List Nat}, (∀ (j : Nat) x, T[j]? = some x→Sep G H O i x.1 ((k + j) :: π) x.2)→Seps G H O i (T.map (·.1)) k π (T.map (·.2))
 | [], _, _, _ => by simp; rw [Seps]
 | x :: T, k, π, h => by
  simp only [List.map]; rw [Seps]
  exact ⟨x.2, _, rfl, by simpa using h 0 x rfl, Seps.mk fun j y e => by rw [show k + 1 + j=k + (j + 1) by omega]; exact h (j + 1) y (by simpa using e)⟩
section
variable {C : Ctx} {ow : List Bool} {G : Hp} {ρ : DSt} {σ : St} {H : Hp} {pd T : List (D×V)} {O : Own}
theorem RO.gather (h : RO C ow G ρ σ H (T.reverse++pd) O) (hn : C.np≤pd.length) : ∃ O', RO C ow G ρ σ H pd O'∧Seps G H O' (2 * pd.length + 1) (T.map (·.1)) 0 [] (T.map (·.2)) := by
 refine ⟨lab (fun l π => if l % 2=1∧pd.length≤l / 2 then (2 * pd.length + 1, π++[l / 2 - pd.length]) else (l, π)) O, ⟨h.len, h.gh, h.g0, h.gn, ?_, h.cok, h.fr, h.ft, h.al, h.mp, ?_, ?_, hn⟩, ?_⟩
 ·intro a m e
  obtain ⟨l, π, e1, rfl⟩ := fK e
  obtain ⟨q1, q2, q3⟩ := h.og a _ e1
  refine ⟨q1, q2, ?_⟩
  split
  ·rename_i z
   rcases q3 with q3 | ⟨_, q3⟩
   ·exact .inl q3
   ·rcases h.cok _ _ _ q3 with ⟨k, _, q4, _⟩ | ⟨k, q4, q5⟩
    ·omega
    ·omega
  ·exact q3
 ·intro j e q
  obtain ⟨u, h1, h2⟩ := h.sl j e q
  refine ⟨u, h1, ?_⟩
  split at h2
  ·rename_i c; rw [if_pos c]; exact h2.keep (fun _ _ z => z) fun a τ q => ⟨by rw [bp q, if_neg (by omega)], rfl⟩
  ·rename_i c; rw [if_neg c]; exact h2
 ·exact bA.keep (fun _ _ z => z) (fun a j π hj q => ⟨by rw [bp q, if_neg (by omega)], rfl⟩) (c9 (T := T.reverse) h.pn)
 ·refine Seps.mk fun j x e => ?_
  have := g6 h.pn e
  refine Sep.map (f := fun π => π++[0 + j]) (fun _ _ z => z) (fun _ _ => rfl) x.1 [] x.2 (fun a τ q => ⟨?_, rfl⟩) this
  rw [bp q, if_pos (by omega)]
  rw [show (2 * (pd.length + j) + 1) / 2 - pd.length=0 + j by omega]
theorem RO.newT (h : RO C ow G ρ σ H pd O) {p : Addr} (hp : H p=none) {ds : List D} {vs : List V} (hs : Seps G H O (2 * pd.length + 1) ds 0 [] vs) : R C ow (upd G p (.tup vs)) ρ σ (upd H p (.tup vs)) ((.tup ds, .ref p) :: pd)∧ay G (upd G p (.tup vs)) := by
 obtain ⟨r, z⟩ := h.new hp (.tup vs)
 refine ⟨⟨O, r.len, r.gh, r.g0, r.gn, r.og, r.cok, r.fr, r.ft, r.al, r.mp, r.sl, ⟨?_, r.pn⟩, Nat.le_succ_of_le r.np⟩, z⟩
 rw [Sep]
 exact ⟨p, vs, rfl, aA, hs.keep z.ts fun a τ _ q => ⟨q, ao (fun e => by obtain ⟨_, ⟨xs, w⟩, _⟩ := h.og a _ q; rw [e, hp] at w; cases w)⟩⟩
end
def SFm (M : Md) (t : TE) (m : ME) : Prop := ∀ (C : Ctx) (G : Hp) (ρ : DSt) (σ : St) (H : Hp) (pd : List (D×V)) (q : D→DSt→Prop) (Q : VK), fS C M.mu→R C M.ow G ρ σ H pd→m ρ q →
 (∀ d ρ' v G' H', q d ρ'→ay G G'→R C M.ow G' ρ' σ H' ((d, v) :: pd)→Q v H')→t σ H Q
structure QM (X : Cx) (M : Md) (e : Expr) (m : ME) : Prop where
 ex : ∃ t, PE X e t∧SFm M t m
def SAm (M : Md) (n : Nat) (t : TA) (m : MA) : Prop := ∀ (C : Ctx) (G : Hp) (ρ : DSt) (σ : St) (H : Hp) (pd : List (D×V)) (q : List D→DSt→Prop) (Q : List V→Hp→Prop), fS C M.mu→R C M.ow G ρ σ H pd→m ρ q →
 (∀ (T : List (D×V)) ρ' G' H', q (T.map (·.1)) ρ'→ay G G'→R C M.ow G' ρ' σ H' (T.reverse++pd)→T.length=n→Q (T.map (·.2)) H')→t σ H Q
structure QMs (X : Cx) (M : Md) (es : List Expr) (m : MA) : Prop where
 ex : ∃ t, PA X es t∧SAm M es.length t m
section
variable {X : Cx} {M : Md} {a b c e : Expr} {ma mb mc : ME} {pos pos' : Pos} {mr : MA} {es : List Expr}
theorem QF.qm (h : QF X M.ow e ma) : QM X M e ma := by
 obtain ⟨t, p, s⟩ := h
 exact ⟨_, p, fun C G ρ σ H pd q Q hm r h k => s C G ρ σ H pd q Q r h fun d ρ' v G' H' hq z kp r' => k d ρ' v G' H' hq z r'⟩
theorem fc (i : Nat) {x : Str} (ho : M.ow[i]? = some true := by decide) (hu : M.mu[i]? ≠ some true := by decide) (hN : X.N[i]? = some x := by rfl) (hv : Vis X.env.scope x := by first | exact Or.inl rfl | exact Or.inr (Or.inl rfl) | exact Or.inr (Or.inr rfl)) (hd : (x == ("__debug__" : Str))=false := by decide)
 (hcd : (x == ("__classdict__" : Str))=false := by decide) : QM X M (.Name x pos) (pR i) := ⟨_, eC hN hv hd hcd, fun C G ρ σ H pd q Q hm r h k => by
 unfold pR at h
 split at h
 ·rename_i d e
  obtain ⟨O, ro⟩ := r
  obtain ⟨v, h1, h2⟩ := ro.move e ho (hm.no hu)
  exact ⟨v, h1, k d _ v G H h (ay.refl _) h2⟩
 ·exact h.elim⟩
theorem oV : QMs X M [] nG := ⟨_, b3, fun C G ρ σ H pd q Q hm r h k => k [] ρ G H h (ay.refl _) r rfl⟩
theorem iG (ha : QM X M e ma) (hr : QMs X M es mr) (hs : starEach (e :: es) X.env=(false, eval e X.env) :: starEach es X.env := by rfl) : QMs X M (e :: es) (eS ma mr) := by
 obtain ⟨t, p, s⟩ := ha; obtain ⟨t2, p2, s2⟩ := hr
 refine ⟨_, ba p p2 hs, fun C G ρ σ H pd q Q hm r h k => s C G ρ σ H pd _ _ hm r h fun d ρ' v G' H' hq z r' => ?_⟩
 exact s2 C G' ρ' σ H' _ _ _ hm r' hq fun T ρ2 G2 H2 hq2 z2 r2 hn => k ((d, v) :: T) ρ2 G2 H2 hq2 (z.trans z2) (by simpa using r2) (by simp [hn])
theorem qT {x1} (h : QMs X M es mr) (hl : es.length≤1000 := by decide) : QM X M (.Tuple es x1 pos) (mTup mr) := by
 obtain ⟨t, p, s⟩ := h
 refine ⟨_, lE p, fun C G ρ σ H pd q Q hm r h k => s C G ρ σ H pd _ _ hm r h fun T ρ' G' H' hq z r' hn => ⟨cA (by simp; omega), fun a ha => ?_⟩⟩
 obtain ⟨O, r'⟩ := r'
 obtain ⟨O2, r2, s2⟩ := r'.gather r.np
 obtain ⟨r3, z3⟩ := r2.newT ha s2
 exact k _ ρ' _ _ _ hq (z.trans z3) r3
theorem bR (h : QM X M e ma) (hf : M.fr=true := by rfl) : QS X M (.Return (some e) pos) (mRet ma) := by
 obtain ⟨t, p, s⟩ := h
 refine ⟨_, nk p, fun C G ρ σ H n D hm hn r h k => s C G ρ σ H [] _ _ hm r h fun d ρ' v G' H' hq z r' => k.rt d ρ' σ v G' H' hq z (by unfold Ret; rw [if_pos hf]; exact r')⟩
end
def jR (g : MG) (mt : MT) (me : ME) (ρ0 : DSt) (ds : List D) (K : List D→Prop) : Prop := ∃ I : Nat→List D→Prop, I 0 [] ∧
 (∀ i d es, ds[i]? = some d→I i es→g d ρ0 fun ρ2 => mt ρ2 fun b ρ3 => if b=true then me ρ3 fun x _ => I (i + 1) (es++[x]) else I (i + 1) es)∧∀ es, I ds.length es→K es
def cQ (k : Nat) (js : List Nat) (ρ : DSt) : DSt := List.replicate k none++js.map fun j => (ρ[j]?).getD none
def je (mi : MA) (g : MG) (mt : MT) (me : ME) (k : Nat) (js : List Nat) : ME := fun ρ q => mi ρ fun ds ρ1 => ds.length≤1000∧jR g mt me (cQ k js ρ1) ds fun es => q (.lst es) ρ1
structure QIf (X : Cx) (ow : List Bool) (ifs : List Expr) (m : MT) : Prop where
 ex : ∃ t, PIf X ifs t∧STe ow t m
theorem cp {X : Cx} {ow : List Bool} : QIf X ow [] (lW true) := ⟨_, nX, i5 true⟩
theorem dJ {X : Cx} {ow : List Bool} {c : Expr} {mt : MT} (h : QT X ow c mt) : QIf X ow [c] mt := by obtain ⟨t, p, s⟩ := h; exact ⟨_, oT p, s⟩
section
variable {C : Ctx} {ow : List Bool} {G : Hp} {ρ : DSt} {σ : St} {H : Hp} {pd : List (D×V)} {O : Own}
theorem RO.inner (h : RO C ow G ρ σ H pd O) (own : List Str) (js : List Nat) (hj : ∀ j∈js, ow[j]? ≠ some true) :
 RO ⟨G, H, bE (fun _ => none) O, [], 0⟩ [] G (cQ own.length js ρ) (bi own js σ) H [] (bE (fun _ => none) O) := by
 have no : ∀ a, bE (fun _ => none) O a=none := fun a => by unfold bE; cases O a <;> rfl
 refine ⟨by simp [cQ, bi], h.gh, fun _ _ e => e, fun _ _ e => .inl e, fun a l e => ?_, fun a l π e => ?_, fun _ _ e _ _ => e, h.ft, fun _ e => e, fun i v e => by simp at e, ?_, trivial, Nat.le_refl _⟩
 ·rw [no] at e; cases e
 ·exact absurd (e.symm.trans (no a)) (by simp)
 ·intro i d e
  unfold cQ at e
  by_cases c : i<own.length
  ·rw [List.getElem?_append_left (by simpa using c), List.getElem?_replicate] at e
   split at e <;> cases e
  ·rw [List.getElem?_append_right (by simpa using c), List.getElem?_map] at e
   simp only [List.length_replicate] at e
   cases z : js[i - own.length]? with
   | none => rw [z] at e; cases e
   | some j =>
    rw [z] at e
    have e' : (ρ[j]?).getD none=some d := Option.some.inj e
    have e2 : ρ[j]? = some (some d) := by
     cases w : ρ[j]? with
     | none => rw [w] at e'; cases e'
     | some o => rw [w] at e'; exact congrArg some e'
    obtain ⟨v, h1, h2⟩ := h.sl j d e2
    rw [if_neg (hj j (List.mem_of_getElem? z))] at h2
    refine ⟨v, ?_, by simpa using h2⟩
    unfold bi
    rw [List.getElem?_append_right (by simpa using c), List.getElem?_map]
    simp only [List.length_map]
    rw [z, show (some j).map _=some ((σ[j]?).getD none) from rfl, h1]; rfl
end
theorem RO.back {C : Ctx} {ow : List Bool} {G G' : Hp} {ρ0 ρ2 : DSt} {σ0 σ2 : St} {H H' : Hp} {pd : List (D×V)} {O O' : Own} (h0 : RO C ow G ρ0 σ0 H pd O) (hn : ∀ i : Nat, ow[i]? ≠ some true) (h : RO C ow G' ρ2 σ2 H' pd O') (z : ay G G') : RO C ow G' ρ0 σ0 H' pd O' :=
 ⟨h0.len, h.gh, h.g0, h.gn, h.og, h.cok, h.fr, h.ft, h.al, h0.mp, fun i d e => by
  obtain ⟨v, h1, h2⟩ := h0.sl i d e
  rw [if_neg (hn i)] at h2
  exact ⟨v, h1, by rw [if_neg (hn i)]; exact h2.mono z⟩, h.pn, h.np⟩
theorem i9 {ow : List Bool} {J : It} {g : TG} {mg : MG} {tt : TT} {mt : MT} {te : TE} {me : ME} {C : Ctx} {G : Hp} {ρ : DSt} {σ : St} {H : Hp} {pd : List (D×V)} {ds : List D} {own : List Str} {js : List Nat} {K : List D→Prop} {Z : List V→Hp→Prop}
 (r : R C ow G ρ σ H pd) (hj : ∀ j∈js, ow[j]? ≠ some true) (jo : kZ J G ds) (sg : SG ⟨[], [], false⟩ g mg) (st : STe [] tt mt) (se : SE [] te me) (hk : ∀ x H k, g x (bi own js σ) H k→g x (bi own js σ) H fun σ2 H2 => kept (bi own js σ) σ2∧k σ2 H2)
 (hl : ds.length≤1000) (h : jR mg mt me (cQ own.length js ρ) ds K)
 (k : ∀ es vs G' H', K es→ay G G'→R C ow G' ρ σ H' pd→Reps G' es vs→vs.length≤1000→Z vs H') : j8 J g tt te (bi own js σ) H Z := by
 obtain ⟨O, ro⟩ := r
 have ri := ro.inner own js hj
 obtain ⟨I, i0, turn, fin⟩ := h
 have nt : ∀ i : Nat, ([] : List Bool)[i]? ≠ some true := fun i => by simp
 let C1 : Ctx := ⟨G, H, bE (fun _ => none) O, [], 0⟩
 have fnone : bE (fun _ => none) O=fun _ => none := by funext a; unfold bE; cases O a <;> rfl
 refine ⟨fun i m acc H' => m=ds.length - i∧i≤ds.length∧acc.length≤i∧∃ G' es, ay G G'∧R C1 [] G' (cQ own.length js ρ) (bi own js σ) H' []∧Reps G' es acc∧I i es, ⟨_, rfl, Nat.zero_le _, Nat.le_refl _, G, [], ay.refl _, ⟨_, ri⟩, aV, i0⟩, ?_⟩
 rintro i m acc H' ⟨rfl, hi, ha, G', es, z, r', pa, w⟩
 obtain ⟨sp, go⟩ := jo C1 [] G' _ _ H' [] i z r'
 by_cases hlt : i<ds.length
 ·obtain ⟨g1, g2⟩ := go ds[i] (List.getElem?_eq_getElem hlt)
  refine .inr ⟨g1, bC (by omega), fun acc' H2 => acc'.length≤i + 1∧∃ G2 es2, ay G G2∧R C1 [] G2 (cQ own.length js ρ) (bi own js σ) H2 []∧Reps G2 es2 acc'∧I (i + 1) es2, fun acc' H2 h => ⟨ds.length - (i + 1), by omega, rfl, hlt, h.1, h.2⟩, fun x H1 hy => hk _ _ _ ?_⟩
  obtain ⟨G1, z1, r1, p1⟩ := g2 x H1 hy
  refine sg C1 G1 _ _ H1 [] ds[i] x _ _ (fun i v e => by simp [C1] at e) r1 p1 (turn i ds[i] es (List.getElem?_eq_getElem hlt) w) fun ρ2 σ2 h2 r2 => ?_
  refine st C1 G1 ρ2 σ2 H1 [] _ _ r2 h2 fun b ρ3 G3 H3 h3 z3 kp3 r3 => ?_
  have bk : ∀ {G4 : Hp} {ρ4 : DSt} {H4 : Hp}, ay G3 G4→R C1 [] G4 ρ4 σ2 H4 []→R C1 [] G4 (cQ own.length js ρ) (bi own js σ) H4 [] := fun z4 ⟨O4, r4⟩ => by
   obtain ⟨O1, r1'⟩ := r1
   exact ⟨_, r1'.back nt r4 (z3.trans z4)⟩
  cases b with
  | true =>
   rw [if_pos rfl] at h3 ⊢
   refine se C1 G3 ρ3 σ2 H3 [] _ _ r3 h3 fun d ρ4 v G4 H4 h4 z4 kp4 r4 p4 => ?_
   exact ⟨by simp; omega, G4, es++[d], z.trans (z1.trans (z3.trans z4)), bk z4 r4, cV (Reps.mono (z1.trans (z3.trans z4)) _ _ pa) (aT p4 aV), h4⟩
  | false =>
   rw [if_neg (by decide)] at h3 ⊢
   exact ⟨by omega, G3, es, z.trans (z1.trans z3), bk (ay.refl _) r3, Reps.mono (z1.trans z3) _ _ pa, h3⟩
 ·have e : i=ds.length := by omega
  subst e
  refine .inl ⟨sp (Nat.le_refl _), cA (by omega), ?_⟩
  obtain ⟨O2, r2⟩ := r'
  refine k es acc G' H' (fin es w) z ⟨kY (fun _ => none) (fun _ => none) O O2, ?_⟩ pa (by omega)
  refine ro.out (vs := []) r2 (fun _ _ _ e => by cases e) ro.len ro.np (fun i d _ e => e) (fun i d _ e => .inl ⟨rfl, e⟩) fun O3 h1 h2 ts => ?_
  exact bA.keep ts (fun a j π hj e => h1 a _ _ e rfl) ro.pn
section
variable {X : Cx} {ow : List Bool} {elt tg iter : Expr} {ifs : List Expr} {pos : Pos} {mi : MA} {mg : MG} {mt : MT} {me : ME} {scope : Scope} {cl : List (Str×Addr)}
def pI (n : Nat) (g : TG) : Prop := ∀ (σ0 : St), (∀ i, i<n→σ0[i]? = some none)→∀ σ x H k, kept σ0 σ→g x σ H k→g x σ H fun σ2 H2 => kept σ0 σ2∧k σ2 H2
theorem d_ : ∀ {a b : St} {i : Nat} {v : V}, kept a b→a[i]? = some none→kept a (b.set i (some v))
 | [], [], i, v, h, e => by simp at e
 | none :: r, y :: r', 0, v, h, e => h
 | none :: r, y :: r', i + 1, v, h, e => by simp only [List.set_cons_succ]; exact d_ (a := r) (b := r') h (by simpa using e)
 | some w :: r, y :: r', 0, v, h, e => by simp at e
 | some w :: r, y :: r', i + 1, v, h, e => by simp only [List.set_cons_succ]; exact ⟨h.1, d_ (a := r) (b := r') h.2 (by simpa using e)⟩
 | [], _ :: _, _, _, h, _ => h.elim
 | none :: _, [], _, _, h, _ => h.elim
 | some _ :: _, [], _, _, h, _ => h.elim
theorem di : ∀ (a : St), kept a a
 | [] => trivial
 | none :: r => di r
 | some v :: r => ⟨rfl, di r⟩
def MonG (g : TG) : Prop := ∀ x σ H (k k' : St→Hp→Prop), (∀ σ2 H2, k σ2 H2→k' σ2 H2)→g x σ H k→g x σ H k'
structure CG (n : Nat) (g : TG) (m : MG) : Prop where
 sg : SG ⟨[], [], false⟩ g m
 kp : pI n g
 mn : MonG g
theorem bQ {n : Nat} (i : Nat) (h : i<n := by decide) : CG n (fN i) (eB i) :=
 ⟨fun C G ρ σ H pd d v k K hm r p h kk => by obtain ⟨O, r⟩ := r; exact kk _ _ h ⟨O, r.setS (by simp) (fun v e => by have := hm i v e; simp at this) p⟩,
  fun σ0 h0 σ x H k hk hg => ⟨d_ hk (h0 i h), hg⟩, fun x σ H k k' hk h => hk _ _ h⟩
def canE (ow : List Bool) (m : ME) : TE := fun σ H Q => ∃ (C : Ctx) (G : Hp) (ρ : DSt) (pd : List (D×V)) (q : D→DSt→Prop), R C ow G ρ σ H pd∧m ρ q∧∀ d ρ' v G' H', q d ρ'→ay G G'→Kp ow ρ ρ'→R C ow G' ρ' σ H' pd→Rep G' d v→Q v H'
def canT (ow : List Bool) (m : MT) : TT := fun σ H Q => ∃ (C : Ctx) (G : Hp) (ρ : DSt) (pd : List (D×V)) (q : Bool→DSt→Prop), R C ow G ρ σ H pd∧m ρ q∧∀ d ρ' G' H', q d ρ'→ay G G'→Kp ow ρ ρ'→R C ow G' ρ' σ H' pd→Q d H'
theorem ln {ow : List Bool} {m : ME} : SE ow (canE ow m) m := fun C G ρ σ H pd q Q r h k => ⟨C, G, ρ, pd, q, r, h, k⟩
theorem lS {ow : List Bool} {m : MT} : STe ow (canT ow m) m := fun C G ρ σ H pd q Q r h k => ⟨C, G, ρ, pd, q, r, h, k⟩
theorem QE.can {X : Cx} {ow : List Bool} {e : Expr} {m : ME} (h : QE X ow e m) : PE X e (canE ow m) := by
 obtain ⟨t, p, s⟩ := h
 exact ⟨fun pins s' σ H Q I ⟨C, G, ρ, pd, q, r, h, k⟩ => p.go pins s' σ H Q I (s C G ρ σ H pd q Q r h k)⟩
theorem QIf.can {X : Cx} {ow : List Bool} {e : List Expr} {m : MT} (h : QIf X ow e m) : PIf X e (canT ow m) := by
 obtain ⟨t, p, s⟩ := h
 exact ⟨fun pins s' σ H Q I ⟨C, G, ρ, pd, q, r, h, k⟩ => p.go pins s' σ H Q I (s C G ρ σ H pd q Q r h k)⟩
theorem gO {own : List Str} {js : List Nat} {σ : St} : ∀ i, i<own.length→(bi own js σ)[i]? = some none := fun i h => by
 unfold bi
 rw [List.getElem?_append_left (by simpa using h), List.getElem?_map, List.getElem?_eq_getElem h]; rfl
theorem jS {ow : List Bool} {wi : TI} {g : TG} {own : List Str} {js : List Nat} (si : SI ow wi mi) (cg : CG own.length g mg) (hj : ∀ j∈js, ow[j]? ≠ some true) : SE ow (kd wi g (canT [] mt) (canE [] me) own js) (je mi mg mt me own.length js) := fun C G ρ σ H pd q Q r h k =>
 si C G ρ σ H pd _ _ r h fun ds ρ' G' H' J hq z kp r' jo => by
  refine i9 r' hj jo cg.sg lS ln (fun x H k hg => cg.kp _ gO _ x H k (di _) hg) hq.1 hq.2 fun es vs G2 H2 hK z2 r2 p2 hl p hp => ?_
  obtain ⟨O2, r2⟩ := r2
  obtain ⟨r3, z3⟩ := r2.new hp (.lst vs)
  exact k _ ρ' _ _ _ hK (z.trans (z2.trans z3)) kp ⟨O2, r3⟩ (fj aA (Reps.mono z3 _ _ p2))
structure CInn (X : Cx) (tg : Expr) (ifs : List Expr) (elt : Expr) (g : TG) (mt : MT) (me : ME) : Prop where
 pg : PG X tg g
 qi : QIf X [] ifs mt
 qe : QE X [] elt me
theorem dc {g : TG} (own : List Str) (js : List Nat) (c : CompOk X scope cl own js) (hc : X.calm=true) (hi : QI X ow tg iter mi) (cg : CG own.length g mg)
 (inner : ∀ (C : Addr) (s₀ : Shared) (H₀ : Hp) (ex : List Addr), CInn (a_ X scope cl (bY X own js) C s₀ H₀ ex) tg ifs elt g mt me) (hj : ∀ j∈js, ow[j]? ≠ some true := by decide)
 (hs : ∀ x, foldedSetIterable iter X.env x=pure x := by intro _; rfl) : QE X ow (.ListComp elt [⟨tg, iter, ifs, 0⟩] scope pos) (je mi mg mt me own.length js) := by
 obtain ⟨wi, pi, si⟩ := hi
 exact ⟨_, j7 own js c hc pi (fun C s₀ H₀ ex => ⟨(inner C s₀ H₀ ex).pg, (inner C s₀ H₀ ex).qi.can, (inner C s₀ H₀ ex).qe.can⟩) hs, jS si cg hj⟩
theorem dA {M : Md} {g : TG} {i : Nat} {y : Str} {spos py : Pos} (own : List Str) (js : List Nat) (c : CompOk X scope cl own js) (hc : X.calm=true) (hN : X.N.Nodup) (hy : X.N[i]? = some y) (hx : Loc X.env.scope y) (hi : QI X M.ow tg iter mi) (cg : CG own.length g mg)
 (inner : ∀ (C : Addr) (s₀ : Shared) (H₀ : Hp) (ex : List Addr), CInn (a_ X scope cl (bY X own js) C s₀ H₀ ex) tg ifs elt g mt me) (hj : ∀ j∈js, M.ow[j]? ≠ some true := by decide) (ho : M.ow[i]? ≠ some true := by decide) (hu : M.mu[i]? ≠ some true := by decide)
 (hsw : swapsWith (.ListComp elt [⟨tg, iter, ifs, 0⟩] scope pos) (some (.Name y py)) spos.line X.env=pure true := by rfl)
 (hs : ∀ x, foldedSetIterable iter X.env x=pure x := by intro _; rfl) (hf : X.fn y=true∨X.env.scope.names.lookup y=some .local := by first | exact .inl rfl | exact .inr rfl | assumption) :
 QS X M (.Assign [.Name y py] (.ListComp elt [⟨tg, iter, ifs, 0⟩] scope pos) spos) (kr i (je mi mg mt me own.length js)) := by
 obtain ⟨wi, pi, si⟩ := hi
 exact ⟨_, fZ own js c hc hN hy hx pi (fun C s₀ H₀ ex => ⟨(inner C s₀ H₀ ex).pg, (inner C s₀ H₀ ex).qi.can, (inner C s₀ H₀ ex).qe.can⟩) hsw hs hf, lx (jS si cg hj) ho hu⟩
end
theorem dH {g : MG} {mt : MT} {me : ME} {ρ0 : DSt} {ds : List D} {K : List D→Prop} (f : D→Option D)
 (step : ∀ (d : D), d∈ds→∀ k : Option D→Prop, k (f d)→g d ρ0 fun ρ2 => mt ρ2 fun b ρ3 => if b=true then me ρ3 fun x _ => k (some x) else k none) (h : K (ds.filterMap f)) : jR g mt me ρ0 ds K := by
 refine ⟨fun i es => es=(ds.take i).filterMap f, rfl, ?_, fun es e => by rw [e, List.take_length]; exact h⟩
 rintro i d es hd rfl
 have := step d (List.mem_of_getElem? hd) (fun o => match o with | some x => (ds.take i).filterMap f++[x]=(ds.take (i + 1)).filterMap f | none => (ds.take i).filterMap f=(ds.take (i + 1)).filterMap f) (by
  rw [List.take_add_one, hd]
  simp only [Option.toList, List.filterMap_append]
  cases e : f d with
  | none => simp [e]
  | some x => simp [e])
 exact this
theorem dj {g : MG} {me : ME} {ρ0 : DSt} {ds : List D} {K : List D→Prop} (f : D→D)
 (step : ∀ (d : D), d∈ds→∀ k : D→Prop, k (f d)→g d ρ0 fun ρ2 => me ρ2 fun x _ => k x) (h : K (ds.map f)) : jR g (lW true) me ρ0 ds K := by
 refine ⟨fun i es => es=(ds.take i).map f, rfl, ?_, fun es e => by rw [e, List.take_length]; exact h⟩
 rintro i d es hd rfl
 have := step d (List.mem_of_getElem? hd) (fun x => (ds.take i).map f++[x]=(ds.take (i + 1)).map f) (by
  rw [List.take_add_one, hd]; simp)
 exact this
def jl (x : Int) : List Int→List Int
 | [] => [x]
 | y :: r => if x≤y then x :: y :: r else y :: jl x r
def bO : List Int→List Int
 | [] => []
 | x :: r => jl x (bO r)
theorem eO (x : Int) : ∀ l : List Int, (jl x l).Perm (x :: l)
 | [] => List.Perm.refl _
 | y :: r => by
  unfold jl
  split
  ·exact List.Perm.refl _
  ·exact ((eO x r).cons y).trans (List.Perm.swap x y r)
theorem bw : ∀ l : List Int, (bO l).Perm l
 | [] => List.Perm.refl _
 | x :: r => (eO x (bO r)).trans ((bw r).cons x)
theorem eW (x : Int) : ∀ {l : List Int}, l.Pairwise (· ≤ ·)→(jl x l).Pairwise (· ≤ ·)
 | [], _ => by simp [jl]
 | y :: r, h => by
  unfold jl
  rw [List.pairwise_cons] at h
  split
  ·rename_i c
   refine List.pairwise_cons.mpr ⟨fun z hz => ?_, List.pairwise_cons.mpr h⟩
   rcases List.mem_cons.mp hz with rfl | hz
   ·exact c
   ·exact Int.le_trans c (h.1 z hz)
  ·rename_i c
   refine List.pairwise_cons.mpr ⟨fun z hz => ?_, eW x h.2⟩
   rcases List.mem_cons.mp ((eO x r).mem_iff.mp hz) with rfl | hz
   ·omega
   ·exact h.1 z hz
theorem cr : ∀ l : List Int, (bO l).Pairwise (· ≤ ·)
 | [] => List.Pairwise.nil
 | x :: r => eW x (cr r)
theorem fv : ∀ {a b : List Int}, a.Perm b→a.Pairwise (· ≤ ·)→b.Pairwise (· ≤ ·)→a=b
 | [], b, p, _, _ => (List.Perm.nil_eq p)
 | x :: a, [], p, _, _ => by have := p.length_eq; simp at this
 | x :: a, y :: b, p, ha, hb => by
  have hx : x=y := by
   rw [List.pairwise_cons] at ha hb
   have h1 : x∈y :: b := p.mem_iff.mp (.head _)
   have h2 : y∈x :: a := p.mem_iff.mpr (.head _)
   rcases List.mem_cons.mp h1 with rfl | h1
   ·rfl
   rcases List.mem_cons.mp h2 with h2 | h2
   ·exact h2.symm
   have := ha.1 y h2
   have := hb.1 x h1
   omega
  subst hx
  rw [fv ((List.perm_cons x).mp p) (List.pairwise_cons.mp ha).2 (List.pairwise_cons.mp hb).2]
theorem iE {a b : List Int} (p : a.Perm b) (h : a.Pairwise (· ≤ ·)) : a=bO b := fv (p.trans (bw b).symm) h (cr b)
theorem lc (l : List Int) : (bO l).length=l.length := (bw l).length_eq
section
variable {X : Cx}
def lL (K : PySem.W.Frag) : List V→Hp→VK→Prop := fun xs H Q => ∃ (p : Addr) (ns : List Int), xs=[.ref p]∧SqL K H p (ns.map V.int)∧ns.length<64∧∀ l, H l=none→Q (.ref l) (upd H l (.lst ((bO ns).map V.int)))
theorem dR : bH X (.builtin "sorted") (lL X.K) := by
 intro pins s σ H xs us Q I r h
 obtain ⟨p, ns, rfl, hS, h64, q⟩ := h
 obtain ⟨u, rfl, ru⟩ := du r
 cases ru
 obtain ⟨its, rv, pl, _⟩ := I.list hS
 have hI : IntsAre its ns := fP rv
 have hlen : its.length=ns.length := by have := rv.length; simp at this; exact this.symm
 refine sorted_ints (l := p) (vs := its) (ns := ns) (isList_of pl) hI (by omega) fun out ns' a1 a2 a3 => ?_
 obtain ⟨e, he⟩ := sortedAll_at s.heap its out
 have hl : ns'=bO ns := iE a2 a3
 subst hl
 refine ⟨.ref (s.heap.objs.size + 1), _, I.laid (a := s.heap.objs.size + 1) (o := .lst ((bO ns).map V.int)) (t' := s.toks) (fun _ _ q => sortedAll_old q) (Nat.le_succ _) ?_, rfl, q _ (I.hok.fresh (Nat.le_succ _))⟩
 refine ⟨Nat.le_of_lt (bC (by rw [List.length_map, lc]; omega)), out.toList, e, cZ a1, ?_⟩
 simpa [seqObj] using he
where
 isList_of {h : Heap} {a : Addr} {its : List Value} (pl : PlainL h a its.toArray) : h.IsList a its.toArray := by
  first | exact pl.isList | exact pl.1 | exact pl
theorem fQ {pins : List (Addr×Obj)} {σ : St} {H : Hp} {s : Shared} {p : Addr} {xs : List V} (I : Inv X pins σ H s) (h : SqL X.K H p xs) : ∃ its : List Value, aF xs its∧s.heap.IsList p its.toArray := by
 obtain ⟨its, rv, ⟨o, n, h1, h2, h3, h4⟩, _⟩ := I.list h
 exact ⟨its, rv, o, h1, h2, n, h4⟩
theorem fG : ∀ {bs : List Bool} {us : List Value}, aF (bs.map V.bl) us→LSm.BoolsAre us bs
 | [], us, h => by cases h; exact .nil
 | b :: bs, us, h => by
  cases h with
  | cons r1 r2 => cases (show _=Value.bool b from r1); exact .cons b (fG r2)
theorem lf (hc : X.calm=true) : bH X (.builtin "all") (fun xs H Q => ∃ (p : Addr) (bs : List Bool), xs=[.ref p]∧SqL X.K H p (bs.map V.bl)∧Q (.bl (bs.all id)) H) := by
 intro pins s σ H xs us Q I r h
 obtain ⟨p, bs, rfl, hS, q⟩ := h
 obtain ⟨u, rfl, ru⟩ := du r
 cases ru
 obtain ⟨its, rv, hl⟩ := fQ I hS
 have truths := fG rv
 have below : p<s.heap.objs.size := by obtain ⟨_, at_p, _⟩ := hl; exact Heap.lt_size at_p
 refine call_all_walk (wpAny_pyIter_list hl ⟨s.heap.objs.size, [s.heap.objs.size, p], [s.heap.objs.size], its.toArray.size, _, _, fun j => (bs[j]?).getD true, rfl, Walks.list (A := X.A.in1) (I.ok.hd hc) _ p (Nat.ne_of_lt below) its.toArray,
  ⟨⟨_, Heap.get?_push_size _ rfl, rfl, rfl⟩, hl.push _⟩, fun j u s₁ Q₁ E₁ at_j want => ?_, fun hp tk₁ kept => ?_⟩)
 ·obtain ⟨b, is_b, rfl⟩ := truths.get j u (by simpa using at_j)
  simp only [is_b, Option.getD_some] at want
  exact wpAny_truthy_bool want
 ·have same : ((List.range its.toArray.size).all fun j => (bs[j]?).getD true)=bs.all id := by rw [List.size_toArray, truths.length]; exact LSm.range_all bs
  rw [same]
  exact ⟨.bl (bs.all id), H, I.kept (LSm.kept_iter kept), rfl, q⟩
theorem kq (hc : X.calm=true) : bH X (.builtin "any") (fun xs H Q => ∃ (p : Addr) (bs : List Bool), xs=[.ref p]∧SqL X.K H p (bs.map V.bl)∧Q (.bl (bs.any id)) H) := by
 intro pins s σ H xs us Q I r h
 obtain ⟨p, bs, rfl, hS, q⟩ := h
 obtain ⟨u, rfl, ru⟩ := du r
 cases ru
 obtain ⟨its, rv, hl⟩ := fQ I hS
 have truths := fG rv
 have below : p<s.heap.objs.size := by obtain ⟨_, at_p, _⟩ := hl; exact Heap.lt_size at_p
 refine call_any_walk (wpAny_pyIter_list hl ⟨s.heap.objs.size, [s.heap.objs.size, p], [s.heap.objs.size], its.toArray.size, _, _, fun j => (bs[j]?).getD false, rfl, Walks.list (A := X.A.in1) (I.ok.hd hc) _ p (Nat.ne_of_lt below) its.toArray,
  ⟨⟨_, Heap.get?_push_size _ rfl, rfl, rfl⟩, hl.push _⟩, fun j u s₁ Q₁ E₁ at_j want => ?_, fun hp tk₁ kept => ?_⟩)
 ·obtain ⟨b, is_b, rfl⟩ := truths.get j u (by simpa using at_j)
  simp only [is_b, Option.getD_some] at want
  exact wpAny_truthy_bool want
 ·have same : ((List.range its.toArray.size).any fun j => (bs[j]?).getD false)=bs.any id := by rw [List.size_toArray, truths.length]; exact LSm.range_any bs
  rw [same]
  exact ⟨.bl (bs.any id), H, I.kept (LSm.kept_iter kept), rfl, q⟩
end
theorem cD {G : Hp} : ∀ {ns : List Int} {xs : List V}, Reps G (ns.map D.int) xs→xs=ns.map V.int
 | [], xs, h => by rw [List.map_nil, Reps] at h; subst h; rfl
 | n :: r, xs, h => by rw [List.map_cons, Reps] at h; obtain ⟨v, vs, rfl, h1, h2⟩ := h; rw [au h1, cD h2]; rfl
theorem cJ {G : Hp} : ∀ {ns : List Bool} {xs : List V}, Reps G (ns.map D.bl) xs→xs=ns.map V.bl
 | [], xs, h => by rw [List.map_nil, Reps] at h; subst h; rfl
 | n :: r, xs, h => by rw [List.map_cons, Reps] at h; obtain ⟨v, vs, rfl, h1, h2⟩ := h; rw [bc h1, cJ h2]; rfl
def lJ : List D→(List D→Prop)→Prop := fun ds q => match ds with
 | [.lst xs] => ∃ ns : List Int, xs=ns.map D.int∧ns.length<64∧q ((bO ns).map D.int)
 | _ => False
theorem lg {K : PySem.W.Frag} : g7 (lL K) lJ := fun G H xs ds q Q s p hf k => by
 unfold lJ at hf
 split at hf
 ·obtain ⟨v, rfl, p1⟩ := bq p
  obtain ⟨a, xs, rfl, h1, h2⟩ := aG p1
  obtain ⟨ns, rfl, hl, hq⟩ := hf
  rw [cD h2] at h1
  exact ⟨a, ns, rfl, SqL.of (s _ _ h1), hl, fun l hl => k _ _ l hq (c0 _) hl⟩
 ·exact hf.elim
def fAny : List D→(D→Prop)→Prop := fun ds q => match ds with
 | [.lst xs] => ∃ bs : List Bool, xs=bs.map D.bl∧q (.bl (bs.any id))
 | _ => False
def fAll : List D→(D→Prop)→Prop := fun ds q => match ds with
 | [.lst xs] => ∃ bs : List Bool, xs=bs.map D.bl∧q (.bl (bs.all id))
 | _ => False
theorem dAny {K : PySem.W.Frag} : eV (fun xs H Q => ∃ (p : Addr) (bs : List Bool), xs=[.ref p]∧SqL K H p (bs.map V.bl)∧Q (.bl (bs.any id)) H) fAny := fun G H xs ds q Q s p hf k => by
 unfold fAny at hf
 split at hf
 ·obtain ⟨v, rfl, p1⟩ := bq p
  obtain ⟨a, xs, rfl, h1, h2⟩ := aG p1
  obtain ⟨bs, rfl, hq⟩ := hf
  rw [cJ h2] at h1
  exact ⟨a, bs, rfl, SqL.of (s _ _ h1), k _ _ hq (bh _)⟩
 ·exact hf.elim
theorem dAll {K : PySem.W.Frag} : eV (fun xs H Q => ∃ (p : Addr) (bs : List Bool), xs=[.ref p]∧SqL K H p (bs.map V.bl)∧Q (.bl (bs.all id)) H) fAll := fun G H xs ds q Q s p hf k => by
 unfold fAll at hf
 split at hf
 ·obtain ⟨v, rfl, p1⟩ := bq p
  obtain ⟨a, xs, rfl, h1, h2⟩ := aG p1
  obtain ⟨bs, rfl, hq⟩ := hf
  rw [cJ h2] at h1
  exact ⟨a, bs, rfl, SqL.of (s _ _ h1), k _ _ hq (bh _)⟩
 ·exact hf.elim
section
variable {C : Ctx} {ow : List Bool} {G : Hp} {ρ : DSt} {σ : St} {H : Hp} {pd : List (D×V)} {O : Own}
end
section
variable {ow : List Bool} {t : TE} {m : ME}
end
section
variable {X : Cx} {M : Md} {a b c e : Expr} {ma mb mc : ME} {pos pos' : Pos} {mr : MA} {es : List Expr}
theorem bj (ns : List Int) : imms (ns.map D.int)=true := by
 induction ns with
 | nil => rfl
 | cons n r ih => simp only [List.map, imms, imm, ih]; rfl
end
def mCut (m : MS) : MS := fun n ρ => ∃ I : DSt→Prop, m { n with nx := I } ρ∧∀ ρ', I ρ'→n.nx ρ'
theorem lV {X : Cx} {M : Md} {st : Stmt} {m : MS} (h : QS X M st m) : QS X M st (mCut m) := by
 obtain ⟨t, p, s⟩ := h
 refine ⟨_, p, fun C G ρ σ H n D hm hn r h k => ?_⟩
 obtain ⟨I, h1, h2⟩ := h
 exact s C G ρ σ H _ D hm hn r h1 ⟨fun ρ' σ' G' H' hi => k.nx ρ' σ' G' H' (h2 ρ' hi), k.bk, k.ct, k.rt⟩
mutual
theorem Sep.strip {G H : Hp} {O O' : Own} {i i' : Nat} {sfx : List Nat} :
 ∀ (d : D) (π : List Nat) (v : V), (∀ a τ, O a=some (i, (τ++π)++sfx)→O' a=some (i', τ++π))→Sep G H O i d (π++sfx) v→Sep G H O' i' d π v
 | .non, _, _, _, h => by rw [Sep] at *; exact h
 | .bl b, _, _, _, h => by rw [Sep] at *; exact h
 | .int n, _, _, _, h => by rw [Sep] at *; exact h
 | .str x, _, _, _, h => by rw [Sep] at *; exact h
 | .tup ds, π, v, hO, h => by
  rw [Sep] at *
  obtain ⟨a, xs, h1, h2, h3⟩ := h
  exact ⟨a, xs, h1, h2, Seps.strip ds 0 π xs (fun a τ => hO a τ) h3⟩
 | .lst ds, π, v, hO, h => by
  rw [Sep] at *
  obtain ⟨a, xs, h1, h2, h3, h4⟩ := h
  exact ⟨a, xs, h1, hO a [] h2, h3, Seps.strip ds 0 π xs (fun a τ => hO a τ) h4⟩
 | .dic ks ds, π, v, hO, h => by
  rw [Sep] at *
  obtain ⟨a, xs, h1, h2, h3, h5, h4⟩ := h
  exact ⟨a, xs, h1, hO a [] h2, h3, h5, Seps.strip ds 0 π xs (fun a τ => hO a τ) h4⟩
 | .dct, _, _, _, h => by rw [Sep] at h; exact h.elim
 | .scr _ _, _, _, _, h => by rw [Sep] at h; exact h.elim
 | .ext _, _, _, _, h => by rw [Sep] at h; exact h.elim
theorem Seps.strip {G H : Hp} {O O' : Own} {i i' : Nat} {sfx : List Nat} :
 ∀ (ds : List D) (k : Nat) (π : List Nat) (xs : List V), (∀ a τ, O a=some (i, (τ++π)++sfx)→O' a=some (i', τ++π))→Seps G H O i ds k (π++sfx) xs→Seps G H O' i' ds k π xs
 | [], _, _, _, _, h => by rw [Seps] at *; exact h
 | d :: ds, k, π, xs, hO, h => by
  rw [Seps] at *
  obtain ⟨v, vs, h1, h2, h3⟩ := h
  refine ⟨v, vs, h1, Sep.strip d (k :: π) v (fun a τ e => ?_) h2, Seps.strip ds (k + 1) π vs hO h3⟩
  have e' : τ++k :: π=(τ++[k])++π := by simp
  rw [e'] at e ⊢
  exact hO a (τ++[k]) e
end
section
variable {C : Ctx} {ow : List Bool} {G : Hp} {ρ : DSt} {σ : St} {H : Hp} {pd : List (D×V)} {O : Own}
theorem RO.split {ds : List D} {v : V} (h : RO C ow G ρ σ H ((.tup ds, v) :: pd) O) (hn : C.np≤pd.length) : ∃ a xs, v = .ref a∧G a=some (.tup xs)∧xs.length=ds.length∧R C ow G ρ σ H (ds.zip xs++pd) := by
 obtain ⟨s, pn⟩ := h.pn
 rw [Sep] at s
 obtain ⟨a, xs, rfl, hG, hs⟩ := s
 have hl := hs.length
 refine ⟨a, xs, rfl, hG, hl, lab (fun l π => if l=2 * pd.length + 1 then (2 * (pd.length + (ds.length - 1 - π.getLastD 0)) + 1, π.dropLast) else (l, π)) O, h.len, h.gh, h.g0, h.gn, ?_, h.cok, h.fr, h.ft, h.al, h.mp, ?_, ?_, by simp; omega⟩
 ·intro b m e
  obtain ⟨l, π, e1, rfl⟩ := fK e
  obtain ⟨q1, q2, q3⟩ := h.og b _ e1
  refine ⟨q1, q2, ?_⟩
  split
  ·rename_i z
   rcases q3 with q3 | ⟨_, q3⟩
   ·exact .inl q3
   ·rcases h.cok _ _ _ q3 with ⟨k, _, q4, _⟩ | ⟨k, q4, q5⟩
    ·exact absurd (q4.symm.trans z) bS
    ·omega
  ·exact q3
 ·intro j e q
  obtain ⟨u, h1, h2⟩ := h.sl j e q
  refine ⟨u, h1, ?_⟩
  split at h2
  ·rename_i c; rw [if_pos c]; exact h2.keep (fun _ _ z => z) fun a τ q => ⟨by rw [bp q, if_neg bS], rfl⟩
  ·rename_i c; rw [if_neg c]; exact h2
 ·have old : ∀ (O' : Own), (∀ b j π, j<pd.length→O b=some (2 * j + 1, π)→O' b=some (2 * j + 1, π))→bA G H O' pd := fun O' hO => bA.keep (fun _ _ z => z) (fun b j π hj q => ⟨hO b j π hj q, rfl⟩) pn
  have key : ∀ (ds0 : List D) (k : Nat) (xs0 : List V) (O' : Own), k + ds0.length=ds.length→Seps G H O (2 * pd.length + 1) ds0 k [] xs0 →
   (∀ b j π, j<pd.length→O b=some (2 * j + 1, π)→O' b=some (2 * j + 1, π))→(∀ b τ k', O b=some (2 * pd.length + 1, τ++[k'])→O' b=some (2 * (pd.length + (ds.length - 1 - k')) + 1, τ))→bA G H O' (ds0.zip xs0++pd) := by
   intro ds0
   induction ds0 with
   | nil => intro k xs0 O' _ _ ho _; exact old O' ho
   | cons d0 r ih =>
    intro k xs0 O' hk hh ho hnw
    rw [Seps] at hh
    obtain ⟨w, ws, rfl, w1, w2⟩ := hh
    have hwl := w2.length
    refine ⟨?_, ih (k + 1) ws O' (by simp at hk; omega) w2 ho hnw⟩
    have e : (List.zip r ws++pd).length=pd.length + (ds.length - 1 - k) := by simp at hk ⊢; omega
    show Sep G H O' (2 * (List.zip r ws++pd).length + 1) d0 [] w
    rw [e]
    exact Sep.strip (sfx := [k]) d0 [] w (fun b τ q => by simpa using hnw b τ k (by simpa using q)) w1
  refine key ds 0 xs _ (by omega) hs (fun b j π hj q => by rw [bp q, if_neg (by omega)]) (fun b τ k' q => ?_)
  rw [bp q, if_pos rfl]
  simp
end
def SGF (M : Md) (g : TGs) (m : MGs) : Prop := ∀ (C : Ctx) (G : Hp) (ρ : DSt) (σ : St) (H : Hp) (T pd : List (D×V)) (k : DSt→Prop) (K : St→Hp→Prop), fS C M.mu→C.np≤pd.length→R C M.ow G ρ σ H (T++pd)→m (T.map (·.1)) ρ k →
 (∀ ρ' σ' G', k ρ'→ay G G'→R C M.ow G' ρ' σ' H pd→K σ' H)→g (T.map (·.2)) σ H K
structure QGF (X : Cx) (M : Md) (e : List Expr) (m : MGs) : Prop where
 ex : ∃ t, PGs X e t∧SGF M t m
section
variable {X : Cx} {M : Md} {a b c e : Expr} {ma mb mc : ME} {pos pos' : Pos} {mr : MA} {es : List Expr} {mgs : MGs}
theorem oq : QGF X M [] mM := ⟨_, j9, fun C G ρ σ H T pd k K hm hn r h kk => by
 cases T with
 | nil => exact ⟨rfl, kk _ _ G h (ay.refl _) r⟩
 | cons _ _ => exact h.elim⟩
theorem oh {i : Nat} {x : Str} (hN : X.N.Nodup) (hi : X.N[i]? = some x) (hx : Loc X.env.scope x) (h2 : QGF X M es mgs) (ho : M.ow[i]? = some true := by decide) (hu : M.mu[i]? ≠ some true := by decide) (hf : X.fn x=true∨X.env.scope.names.lookup x=some .local := by first | exact .inl rfl | exact .inr rfl | assumption)
 (hs : (assignEach (.Name x pos :: es) X.env).map (·.2)=assign (.Name x pos) X.env :: (assignEach es X.env).map (·.2) := by rfl) : QGF X M (.Name x pos :: es) (ig (eB i) mgs) := by
 obtain ⟨t2, p2, s2⟩ := h2
 refine ⟨_, fT (a9 hN hi hx hf) p2 hs, fun C G ρ σ H T pd k K hm hn r h kk => ?_⟩
 cases T with
 | nil => exact h.elim
 | cons x T =>
  obtain ⟨O, r⟩ := r
  exact ⟨_, _, rfl, s2 C G _ _ H T pd k K hm hn (r.setO ho (hm.no hu) (by simp; omega)) h kk⟩
theorem rh {i : Nat} {x : Str} (hN : X.N.Nodup) (hi : X.N[i]? = some x) (hx : Loc X.env.scope x) (h2 : QGF X M es mgs) (ho : M.ow[i]? ≠ some true := by decide) (hu : M.mu[i]? ≠ some true := by decide) (hf : X.fn x=true∨X.env.scope.names.lookup x=some .local := by first | exact .inl rfl | exact .inr rfl | assumption)
 (hs : (assignEach (.Name x pos :: es) X.env).map (·.2)=assign (.Name x pos) X.env :: (assignEach es X.env).map (·.2) := by rfl) : QGF X M (.Name x pos :: es) (ig (eB i) mgs) := by
 obtain ⟨t2, p2, s2⟩ := h2
 refine ⟨_, fT (a9 hN hi hx hf) p2 hs, fun C G ρ σ H T pd k K hm hn r h kk => ?_⟩
 cases T with
 | nil => exact h.elim
 | cons x T =>
  obtain ⟨O, r⟩ := r
  obtain ⟨G2, z2, ⟨O2, r2⟩, p⟩ := r.share (by simp; omega)
  exact ⟨_, _, rfl, s2 C G2 _ _ H T pd k K hm hn ⟨O2, r2.setS ho (hm.no hu) p⟩ h fun ρ' σ' G' hk z r' => kk ρ' σ' G' hk (z2.trans z) r'⟩
theorem n_ {kk : Nat} {n : Nat} {tpos : Pos} (hc : X.calm=true) (he : QM X M e ma) (hg : QGF X M es mgs) (ht : iT n mgs)
 (hn : (assignEach es X.env).length=n := by rfl) (hst : (assignEach es X.env).findIdx? (·.1)=none := by rfl)
 (hs : swapsWithSole [.Tuple es kk tpos] e pos.line X.env=pure false := by rfl) (hw : swappedStores [.Tuple es kk tpos] e X.env=pure none := by rfl)
 (h1 : (assignEach [.Tuple es kk tpos] X.env).map (·.2)=[assign (.Tuple es kk tpos) X.env] := by rfl) : QS X M (.Assign [.Tuple es kk tpos] e pos) (mAsg ma (pz mgs)) := by
 obtain ⟨t, p, s⟩ := he; obtain ⟨t2, p2, s2⟩ := hg
 refine ⟨_, jx p (na hc p2 hn hst) hs hw h1, fun C G ρ σ H n D hm hn r h k => s C G ρ σ H [] _ _ hm r h fun d ρ' v G' H' hq z r' => ?_⟩
 cases d with
 | tup ds =>
  obtain ⟨O, r'⟩ := r'
  obtain ⟨a, xs, rfl, h1, h2, r2⟩ := r'.split (by rw [hn]; exact Nat.zero_le _)
  have hl := ht _ _ _ hq
  have e1 : (ds.zip xs).map (·.1)=ds := List.map_fst_zip (by omega)
  have e2 : (ds.zip xs).map (·.2)=xs := List.map_snd_zip (by omega)
  refine ⟨a, xs, rfl, SqT.of (r2.gh _ _ h1), by omega, ?_⟩
  have := s2 C G' ρ' σ H' (ds.zip xs) [] n.nx D.nx hm (by rw [hn]; exact Nat.zero_le _) r2 (by rw [e1]; exact hq) fun ρ3 σ3 G3 h3 z3 r3 => k.nx ρ3 σ3 G3 H' h3 (z.trans z3) r3
  rw [e2] at this
  exact this
 | _ => exact hq.elim
end
section
variable {X : Cx} {M : Md} {a b c e : Expr} {ma mb mc : ME} {pos pos' : Pos}
def mAugI (i : Nat) (mk m : ME) : MS := fun n ρ => match ρ[i]? with
 | some (some (.lst _)) => mk ρ fun k ρ1 => match k with
  | .int j => match ρ1[i]? with
   | some (some (.lst ds)) => 0≤j∧match atI ds j with
    | some (.int x) => m ρ1 fun d ρ2 => match d with
     | .int y => match ρ2[i]? with
      | some (some (.lst ds2)) => match ixN ds2.length j with
       | some p => n.nx (ρ2.set i (some (.lst (ds2.set p (.int (x + y))))))
       | none => False
      | _ => False
     | _ => False
    | _ => False
   | _ => False
  | _ => False
 | _ => False
end
def pG (g : MG) (mt : MT) (me : ME) (ρ0 : DSt) (k0 : Nat) (ds : List D) (d0 : D) (K : List D→D→Prop) : Prop := ∃ I : Nat→List D→D→Prop, I 0 [] d0 ∧
 (∀ i x es d, ds[i]? = some x→I i es d→g x (ρ0.set k0 (some d)) fun ρ2 => mt ρ2 fun b ρ3 => if b=true then me ρ3 fun y ρ4 => (match ρ4[k0]? with | some (some d') => I (i + 1) (es++[y]) d' | _ => False) else match ρ3[k0]? with | some (some d') => I (i + 1) es d' | _ => False) ∧
 ∀ es d, I ds.length es d→K es d
def jg (mi : MA) (g : MG) (mt : MT) (me : ME) (k : Nat) (js : List Nat) (j0 k0 : Nat) : ME := fun ρ q => mi ρ fun ds ρ1 => ds.length≤1000∧match ρ1[j0]? with
 | some (some d0) => pG g mt me (cQ k js ρ1) k0 ds d0 fun es d => imms es=true∧q (.lst es) (ρ1.set j0 (some d))
 | _ => False
def owM (k0 : Nat) : List Bool := List.replicate k0 false++[true]
theorem dg {k0 i : Nat} : (owM k0)[i]? = some true↔i=k0 := by
 unfold owM
 by_cases h : i<k0
 ·rw [List.getElem?_append_left (by simpa using h), List.getElem?_replicate, if_pos h]
  constructor
  ·intro z; cases z
  ·intro z; omega
 ·rw [List.getElem?_append_right (by simpa using h), List.length_replicate]
  cases e : i - k0 with
  | zero => simp; omega
  | succ m => simp; omega
def muM (k0 : Nat) (v : V) : List (Option V) := List.replicate k0 none++[some v]
theorem jH {k0 i : Nat} {v w : V} (h : (muM k0 v)[i]? = some (some w)) : i=k0∧w=v := by
 unfold muM at h
 by_cases c : i<k0
 ·rw [List.getElem?_append_left (by simpa using c), List.getElem?_replicate, if_pos c] at h; cases h
 ·rw [List.getElem?_append_right (by simpa using c), List.length_replicate] at h
  cases e : i - k0 with
  | zero => rw [e] at h; simp at h; exact ⟨by omega, h.symm⟩
  | succ m => rw [e] at h; simp at h
theorem rZ (k0 : Nat) (v : V) : (muM k0 v)[k0]? = some (some v) := by unfold muM; rw [List.getElem?_append_right (by simp)]; simp
theorem n9 {k : Nat} {js : List Nat} {ρ : DSt} {i : Nat} {d : D} (e : (cQ k js ρ)[i]? = some (some d)) : k≤i∧∃ j, js[i - k]? = some j∧ρ[j]? = some (some d) := by
 unfold cQ at e
 by_cases c : i<k
 ·rw [List.getElem?_append_left (by simpa using c), List.getElem?_replicate] at e
  split at e <;> cases e
 ·rw [List.getElem?_append_right (by simpa using c), List.getElem?_map] at e
  simp only [List.length_replicate] at e
  refine ⟨by omega, ?_⟩
  cases z : js[i - k]? with
  | none => rw [z] at e; cases e
  | some j =>
   rw [z] at e
   have e' : (ρ[j]?).getD none=some d := Option.some.inj e
   refine ⟨j, rfl, ?_⟩
   cases w : ρ[j]? with
   | none => rw [w] at e'; cases e'
   | some o => rw [w] at e'; exact congrArg some e'
theorem kl {own : List Str} {js : List Nat} {σ : St} {i j : Nat} {v : V} (hi : own.length≤i) (hj : js[i - own.length]? = some j) (hv : σ[j]? = some (some v)) : (bi own js σ)[i]? = some (some v) := by
 unfold bi
 rw [List.getElem?_append_right (by simpa using hi), List.getElem?_map]
 simp only [List.length_map]
 rw [hj, show (some j).map _=some ((σ[j]?).getD none) from rfl, hv]; rfl
structure CGM (k0 n : Nat) (g : TG) (m : MG) : Prop where
 sg : SG ⟨owM k0, owM k0, false⟩ g m
 kp : pI n g
 mn : MonG g
theorem f9 {k0 n : Nat} (i : Nat) (h : i<n := by decide) (hk : n≤k0 := by decide) : CGM k0 n (fN i) (eB i) :=
 ⟨fun C G ρ σ H pd d v k K hm r p hh kk => by
  have hn : (owM k0)[i]? ≠ some true := fun z => by have := dg.mp z; omega
  obtain ⟨O, r⟩ := r; exact kk _ _ hh ⟨O, r.setS hn (hm.no hn) p⟩,
  fun σ0 h0 σ x H k hk hg => ⟨d_ hk (h0 i h), hg⟩, fun x σ H k k' hk h => hk _ _ h⟩
theorem iC {ow : List Bool} {J : It} {g : TG} {mg : MG} {tt : TT} {mt : MT} {te : TE} {me : ME} {C : Ctx} {G : Hp} {ρ : DSt} {σ : St} {H : Hp} {pd : List (D×V)} {ds : List D} {own : List Str} {js : List Nat} {j0 k0 : Nat} {d0 : D} {K : List D→D→Prop} {Z : List V→Hp→Prop}
 (r : R C ow G ρ σ H pd) (ho : ow[j0]? = some true) (hk0 : own.length≤k0) (hjk : js[k0 - own.length]? = some j0) (hj : ∀ (i j : Nat), js[i]? = some j→i ≠ k0 - own.length→ow[j]? ≠ some true) (he : ρ[j0]? = some (some d0)) (jo : kZ J G ds) (cg : CGM k0 own.length g mg) (st : STe (owM k0) tt mt) (se : SE (owM k0) te me)
 (hl : ds.length≤1000) (h : pG mg mt me (cQ own.length js ρ) k0 ds d0 K)
 (k : ∀ es d vs G' H', K es d→ay G G'→R C ow G' (ρ.set j0 (some d)) σ H' pd→Reps G' es vs→vs.length≤1000→Z vs H') : j8 J g tt te (bi own js σ) H Z := by
 obtain ⟨O, ro⟩ := r
 obtain ⟨v0, hv0, sv0⟩ := ro.sl j0 d0 he
 rw [if_pos ho] at sv0
 let fin : Nat→Option Nat := fun l => if l=2 * j0 then some (2 * k0) else none
 let fbk : Nat→Option Nat := fun l => if l=2 * k0 then some (2 * j0) else none
 let C1 : Ctx := ⟨G, H, bE fin O, muM k0 v0, 0⟩
 let ρ0 := cQ own.length js ρ
 have s0k : (bi own js σ)[k0]? = some (some v0) := kl hk0 hjk hv0
 have r0l : k0<ρ0.length := by
  have : k0 - own.length<js.length := (List.getElem?_eq_some_iff.mp hjk).1
  show k0<(cQ own.length js ρ).length
  unfold cQ; simp; omega
 have fino : ∀ l l', fin l=some l'→l=2 * j0∧l'=2 * k0 := fun l l' e => by
  change (if l=2 * j0 then _ else _)=_ at e
  split at e
  ·rename_i c; exact ⟨c, (Option.some.inj e).symm⟩
  ·cases e
 have finj : fin (2 * j0)=some (2 * k0) := by show (if _ then _ else _)=_; rw [if_pos rfl]
 -- the inner state, by the owned slot's value
 have inner : ∀ {G' : Hp} {H' : Hp} {O' : Own} {d : D}, ay G G'→ay G' H'→(∀ a o, G' a=some o→G a=some o∨H a=none)→(∀ a l, O' a=some l→G' a=none∧(∃ xs : WrO, H' a=some xs.ho)∧Nw C1 a l.1) →
  (∀ a o, H a=some o→bE fin O a=none→NT o→H' a=some o)→(∀ a ps q, H' a=some (.tbl ps q)→G' a=none)→(∀ a, H' a=none→H a=none)→Sep G' H' O' (2 * k0) d [] v0→RO C1 (owM k0) G' (ρ0.set k0 (some d)) (bi own js σ) H' [] O' := by
  intro G' H' O' d z gh gn og fr ft al sp
  refine ⟨by rw [List.length_set]; show (cQ own.length js ρ).length=_; unfold cQ bi; simp, gh, z, gn, og, ?_, fr, ft, al, ?_, ?_, trivial, Nat.le_refl _⟩
  ·intro a l π e
   obtain ⟨l0, e1, e2⟩ := c_ e
   obtain ⟨_, rfl⟩ := fino _ _ e2
   exact .inl ⟨k0, v0, rfl, rZ k0 v0⟩
  ·intro i w e
   obtain ⟨rfl, rfl⟩ := jH e
   exact s0k
  ·intro i d' e
   rcases cH e with ⟨rfl, e'⟩ | ⟨hne, e'⟩
   ·cases e'
    exact ⟨v0, s0k, by rw [if_pos (dg.mpr rfl)]; exact sp⟩
   ·obtain ⟨hi, j, h1, h2⟩ := n9 e'
    obtain ⟨v, g1, g2⟩ := ro.sl j d' h2
    rw [if_neg (hj _ j h1 (by omega))] at g2
    exact ⟨v, kl hi h1 g1, by rw [if_neg (fun zz => hne (dg.mp zz))]; exact g2.mono z⟩
 have og1 : ∀ a l, bE fin O a=some l→G a=none∧(∃ xs : WrO, H a=some xs.ho)∧Nw C1 a l.1 := fun a l e => by
  obtain ⟨l', π⟩ := l
  obtain ⟨l0, e1, e2⟩ := c_ e
  obtain ⟨q1, q2, _⟩ := ro.og a _ e1
  exact ⟨q1, q2, .inr ⟨π, e⟩⟩
 have cF : R C1 (owM k0) G (ρ0.set k0 (some d0)) (bi own js σ) H [] := ⟨_, inner (ay.refl _) ro.gh (fun _ _ e => .inl e) og1 (fun _ _ e _ _ => e) ro.ft (fun _ e => e) (sv0.keep (fun _ _ z => z) fun a τ q => ⟨jP q finj, rfl⟩)⟩
 obtain ⟨I, i0, turn, fini⟩ := h
 have hmu : fS C1 (owM k0) := fun i v e => by obtain ⟨rfl, _⟩ := jH e; exact dg.mpr rfl
 refine ⟨fun i m acc H' => m=ds.length - i∧i≤ds.length∧acc.length≤i∧∃ G' es d, ay G G'∧R C1 (owM k0) G' (ρ0.set k0 (some d)) (bi own js σ) H' []∧Reps G' es acc∧I i es d, ⟨_, rfl, Nat.zero_le _, Nat.le_refl _, G, [], d0, ay.refl _, cF, aV, i0⟩, ?_⟩
 rintro i m acc H' ⟨rfl, hi, ha, G', es, d, z, r', pa, w⟩
 obtain ⟨sp, go⟩ := jo C1 (owM k0) G' _ _ H' [] i z r'
 by_cases hlt : i<ds.length
 ·obtain ⟨g1, g2⟩ := go ds[i] (List.getElem?_eq_getElem hlt)
  refine .inr ⟨g1, bC (by omega), fun acc' H2 => acc'.length≤i + 1∧∃ G2 es2 d2, ay G G2∧R C1 (owM k0) G2 (ρ0.set k0 (some d2)) (bi own js σ) H2 []∧Reps G2 es2 acc'∧I (i + 1) es2 d2, fun acc' H2 h => ⟨ds.length - (i + 1), by omega, rfl, hlt, h.1, h.2⟩, fun x H1 hy => ?_⟩
  obtain ⟨G1, z1, r1, p1⟩ := g2 x H1 hy
  have step1 := cg.sg C1 G1 _ _ H1 [] ds[i] x _ (fun σ2 H2 => ∃ ρ2, (mt ρ2 fun b ρ3 => if b=true then me ρ3 fun y ρ4 => (match ρ4[k0]? with | some (some d') => I (i + 1) (es++[y]) d' | _ => False) else match ρ3[k0]? with | some (some d') => I (i + 1) es d' | _ => False)∧R C1 (owM k0) G1 ρ2 σ2 H2 []) hmu r1 p1 (turn i ds[i] es d (List.getElem?_eq_getElem hlt) w) (fun ρ2 σ2 h2 r2 => ⟨ρ2, h2, r2⟩)
  refine cg.mn _ _ _ _ _ ?_ (cg.kp (bi own js σ) gO (bi own js σ) x H1 _ (di _) step1)
  rintro σ2 H2 ⟨hkp, ρ2, h2, r2⟩
  refine ⟨hkp, st C1 G1 ρ2 σ2 H2 [] _ _ r2 h2 fun b ρ3 G3 H3 h3 z3 kp3 r3 => ?_⟩
  have bk : ∀ {G4 : Hp} {ρ4 : DSt} {H4 : Hp} {d' : D}, ρ4[k0]? = some (some d')→R C1 (owM k0) G4 ρ4 σ2 H4 []→R C1 (owM k0) G4 (ρ0.set k0 (some d')) (bi own js σ) H4 [] := fun e4 ⟨O4, r4⟩ => by
   obtain ⟨v, q1, q2⟩ := r4.sl k0 _ e4
   rw [if_pos (dg.mpr rfl)] at q2
   rw [cU hkp k0 v0 s0k] at q1
   cases q1
   exact ⟨O4, inner r4.g0 r4.gh r4.gn r4.og r4.fr r4.ft r4.al q2⟩
  cases b with
  | true =>
   rw [if_pos rfl] at h3 ⊢
   refine se C1 G3 ρ3 σ2 H3 [] _ _ r3 h3 fun y ρ4 v G4 H4 h4 z4 kp4 r4 p4 => ?_
   split at h4
   ·rename_i d' e4
    exact ⟨by simp; omega, G4, es++[y], d', z.trans (z1.trans (z3.trans z4)), bk e4 r4, cV (Reps.mono (z1.trans (z3.trans z4)) _ _ pa) (aT p4 aV), h4⟩
   ·exact h4.elim
  | false =>
   rw [if_neg (by decide)] at h3 ⊢
   split at h3
   ·rename_i d' e4
    exact ⟨by omega, G3, es, d', z.trans (z1.trans z3), bk e4 r3, Reps.mono (z1.trans z3) _ _ pa, h3⟩
   ·exact h3.elim
 ·have e : i=ds.length := by omega
  subst e
  refine .inl ⟨sp (Nat.le_refl _), cA (by omega), ?_⟩
  obtain ⟨O2, r2⟩ := r'
  refine k es d acc G' H' (fini es d w) z ⟨kY fin fbk O O2, ?_⟩ pa (by omega)
  refine ro.out (vs := []) r2 ?_ (by rw [List.length_set]; exact ro.len) ro.np ?_ ?_ fun O3 h1 h2 ts => ?_
  ·intro l0 l' l e1 e2
   obtain ⟨rfl, rfl⟩ := fino _ _ e1
   change (if 2 * k0=2 * k0 then _ else _)=_ at e2
   rw [if_pos rfl] at e2
   exact (Option.some.inj e2).symm
  ·intro i d' c e
   rcases cH e with ⟨rfl, _⟩ | ⟨_, e'⟩
   ·exact absurd ho c
   ·exact e'
  ·intro i d' c e
   rcases cH e with ⟨rfl, e'⟩ | ⟨hne, e'⟩
   ·cases e'
    exact .inr ⟨k0, v0, by show (if _ then _ else _)=_; rw [if_pos rfl], dg.mpr rfl, by rw [List.getElem?_set_self r0l], hv0, s0k⟩
   ·exact .inl ⟨by show (if _ then _ else _)=_; rw [if_neg (by omega)], e'⟩
  ·exact bA.keep ts (fun a j π hj e => h1 a _ _ e (by show (if _ then _ else _)=_; rw [if_neg (by omega)])) ro.pn
section
variable {X : Cx} {ow : List Bool} {elt tg iter : Expr} {ifs : List Expr} {pos : Pos} {mi : MA} {mg : MG} {mt : MT} {me : ME} {scope : Scope} {cl : List (Str×Addr)}
theorem iD {wi : TI} {g : TG} {own : List Str} {js : List Nat} {j0 k0 : Nat} (si : SI ow wi mi) (cg : CGM k0 own.length g mg) (ho : ow[j0]? = some true) (hk0 : own.length≤k0) (hjk : js[k0 - own.length]? = some j0) (hj : ∀ (i j : Nat), js[i]? = some j→i ≠ k0 - own.length→ow[j]? ≠ some true) :
 SF ow (kd wi g (canT (owM k0) mt) (canE (owM k0) me) own js) (jg mi mg mt me own.length js j0 k0) := fun C G ρ σ H pd q Q r h k =>
 si C G ρ σ H pd _ _ r h fun ds ρ' G' H' J hq z kp r' jo => by
  obtain ⟨hl, hq⟩ := hq
  split at hq
  ·rename_i d0 e0
   refine iC r' ho hk0 hjk hj e0 jo cg lS ln hl hq fun es d vs G2 H2 hK z2 r2 p2 hl p hp => ?_
   obtain ⟨O2, r2⟩ := r2
   exact k _ _ _ _ _ hK.2 (z.trans z2) (kp.trans fun j hj => List.getElem?_set_ne (fun (zz : j0=j) => hj (zz ▸ ho))) (r2.newL hp hK.1 p2)
  ·exact hq.elim
structure CInnM (X : Cx) (k0 : Nat) (tg : Expr) (ifs : List Expr) (elt : Expr) (g : TG) (mt : MT) (me : ME) : Prop where
 pg : PG X tg g
 qi : QIf X (owM k0) ifs mt
 qe : QE X (owM k0) elt me
theorem il {g : TG} (own : List Str) (js : List Nat) (j0 k0 : Nat) (c : CompOk X scope cl own js) (hc : X.calm=true) (hi : QI X ow tg iter mi) (cg : CGM k0 own.length g mg)
 (inner : ∀ (C : Addr) (s₀ : Shared) (H₀ : Hp) (ex : List Addr), CInnM (a_ X scope cl (bY X own js) C s₀ H₀ ex) k0 tg ifs elt g mt me) (ho : ow[j0]? = some true := by decide) (hk0 : own.length≤k0 := by decide) (hjk : js[k0 - own.length]? = some j0 := by rfl)
 (hj : (js.mapIdx fun i j => decide (i=k0 - own.length) || !decide (ow[j]? = some true)).all id=true := by decide)
 (hs : ∀ x, foldedSetIterable iter X.env x=pure x := by intro _; rfl) : QF X ow (.ListComp elt [⟨tg, iter, ifs, 0⟩] scope pos) (jg mi mg mt me own.length js j0 k0) := by
 obtain ⟨wi, pi, si⟩ := hi
 have hj' : ∀ (i j : Nat), js[i]? = some j→i ≠ k0 - own.length→ow[j]? ≠ some true := fun i j e hne z => by
  rw [List.all_eq_true] at hj
  have := hj (decide (i=k0 - own.length) || !decide (ow[j]? = some true)) (List.mem_of_getElem? (i := i) (by rw [List.getElem?_mapIdx, e]; rfl))
  simp [hne, z] at this
 exact ⟨_, j7 own js c hc pi (fun C s₀ H₀ ex => ⟨(inner C s₀ H₀ ex).pg, (inner C s₀ H₀ ex).qi.can, (inner C s₀ H₀ ex).qe.can⟩) hs, iD si cg ho hk0 hjk hj'⟩
end
def tRev (K : PySem.W.Frag) (te : TE) : TE := fun σ H Q => te σ H fun x H1 => ∃ a xs, x = .ref a∧SqL K H1 a xs∧∀ p, H1 p=none→Q (.ref p) (upd H1 p (.lst xs.reverse))
section
variable {X : Cx} {M : Md} {a b c e : Expr} {ma mb mc : ME} {pos pos' p1 p2 p3 : Pos} {te : TE} {j1 : Nat} {ow : List Bool}
theorem rV (he : PE X e te) : PE X (.Subscript e (.Slice none none (some (.UnaryOp .USub (.Constant (.int 1) j1 p1) p2)) p3) pos) (tRev X.K te) := by
 refine ⟨?_⟩; intro pins s σ H Q I h
 refine Subscript_ (thn (he pins s σ H _ I h) fun v s1 ⟨x, H1, I1, r1, q1⟩ => ?_)
 obtain ⟨l, xs, rfl, hx, q⟩ := q1
 cases r1
 refine wpAny_Slice ?_
 rw [evalPart_none]
 refine wpAny_pure (wpAny_pure ?_)
 rw [evalPart_some]
 have step := (pK (X := X) (pos := p2) nj (nR (X := X) (i := 1) (j := j1) (pos := p1))).go pins s1 σ H1 (fun v H' => v = .int (-1)∧H'=H1) I1 ⟨1, rfl, rfl, rfl⟩
 refine thn step fun vs s3 ⟨y, H3, I3, ry, ey, eH⟩ => ?_
 subst ey; subst eH
 obtain ⟨t, rfl⟩ := ry
 have I4 : Inv X pins σ H3 { s3 with heap := s3.heap.push { cls := .type "slice", data := .fields #[.none, .none, .int (-1) t] } } := I3.kept (t' := s3.toks) fun b ob z => Heap.get?_push_of_some _ z
 obtain ⟨its, r, ht, hz⟩ := I4.list hx
 have hlen := r.length
 show wpAny (model X.prog X.w) X.A (subscriptTail e (.Slice none none (some (.UnaryOp .USub (.Constant (.int 1) j1 p1) p2)) p3) (.ref l) (.ref s3.heap.objs.size)) (EP X pins σ Q) X.xe { s3 with heap := s3.heap.push { cls := .type "slice", data := .fields #[.none, .none, .int (-1) t] } }
 refine tail_any (ops := [.ref l, .ref s3.heap.objs.size]) ht.isList.typeIs slot_list_getitem.lookup ?_ (by with_unfolding_all rfl)
 refine wpAny_getItem_list_slice ht.isList (Heap.IsSliceOf.new ..) .none .none (.int (-1) t) (by simp) ?_ (by rw [List.size_toArray] <;> omega)
 rw [PySem.W.krv_pick]
 refine ⟨.ref _, _, I4.laid (t' := s3.toks) (o := .lst xs.reverse) (fun b ob z => Heap.get?_push_of_some _ z) (Nat.le_refl _) ?_, rfl, q _ (I4.hok.fresh (Nat.le_refl _))⟩
 exact ⟨by rw [List.length_reverse]; exact hz, its.reverse, 0, r.reverse, Heap.get?_push_size _ rfl⟩
theorem dZ {G : Hp} : ∀ {ds : List D} {xs : List V}, Reps G ds xs→Reps G ds.reverse xs.reverse
 | [], xs, h => by rw [Reps] at h; subst h; exact aV
 | d :: ds, xs, h => by
  rw [Reps] at h
  obtain ⟨v, vs, rfl, h1, h2⟩ := h
  rw [List.reverse_cons, List.reverse_cons]
  exact cV (dZ h2) (aT h1 aV)
def mRev (m : ME) : ME := fun ρ q => m ρ fun d ρ' => match d with
 | .lst ds => imms ds=true∧q (.lst ds.reverse) ρ'
 | _ => False
theorem iB : ∀ {a b : List D}, imms a=true→imms b=true→imms (a++b)=true
 | [], b, _, h => h
 | d :: a, b, h, h2 => by rw [imms, Bool.and_eq_true] at h; rw [List.cons_append, imms, h.1, iB h.2 h2]; rfl
theorem ik : ∀ {a : List D}, imms a=true→imms a.reverse=true
 | [], _ => rfl
 | d :: a, h => by rw [imms, Bool.and_eq_true] at h; rw [List.reverse_cons]; exact iB (ik h.2) (by rw [imms, h.1]; rfl)
theorem rl (h : QE X ow e ma) : QF X ow (.Subscript e (.Slice none none (some (.UnaryOp .USub (.Constant (.int 1) j1 p1) p2)) p3) pos) (mRev ma) := by
 obtain ⟨t, p, s⟩ := h
 refine ⟨_, rV p, fun C G ρ σ H pd q Q r hm k => s C G ρ σ H pd _ _ r hm fun d ρ' v G' H' hq z kp r' p => ?_⟩
 cases d with
 | lst ds =>
  obtain ⟨l, xs, rfl, h1, h2⟩ := aG p
  refine ⟨l, xs, rfl, SqL.of (r'.gh _ _ h1), fun b hb => ?_⟩
  obtain ⟨O, r'⟩ := r'
  exact k _ ρ' _ _ _ hq.2 z kp (r'.newL hb (ik hq.1) (dZ h2))
 | _ => exact hq.elim
end
def isW : D→Bool
 | .int _ => true
 | _ => false
def btw (lo hi : Int) : D→Bool
 | .int i => decide (lo≤i)&&decide (i≤hi)
 | _ => false
structure Tree (ps rs : List Int) : Prop where
 len : ps.length=rs.length
 lo : 1≤ps.length
 hi : ps.length≤23
 par : ∀ (i : Nat) (x : Int), ps[i]? = some x→0≤x∧x≤i
 room : ∀ (i : Nat) (x : Int), rs[i]? = some x→1≤x∧x≤1000000
def oU : SpD := fun ds q => ∃ d, ds=[d]∧d.isS=false∧q (.bl (isW d)) []
def ku : SpD := fun ds q => ∃ d lo hi, ds=[d, .int lo, .int hi]∧d.isS=false∧q (.bl (btw lo hi d)) []
def rO : SpD := fun ds q => ∃ ps rs, ds=[aO ps rs]∧Tree ps rs∧q (.bl true) []
def qa : SpD := fun ds q => ∃ ps rs, ds=[aO ps rs]∧Tree ps rs∧q .non []
def kf (K : PySem.W.Frag) (φ : Addr→Prop) (ns : List Int) : Prop := ∀ a H, φ a→SqL K H a (ns.map V.int)
def qy (K : PySem.W.Frag) : SpD := fun ds q => ∃ φ ns k, ds=[.scr φ ns, .int k]∧kf K φ ns∧0≤k∧k≤1000∧∀ c m, 0≤c→q (ak [c, m]) []
def rj : SpD := fun ds q => ∃ c m many, ds=[ak [c, m], .int many]∧0≤c∧0<many∧Sm many∧∀ r c' m', 0≤r→r<many→0≤c'→q (.int r) [some (ak [c', m'])]
def mw (K : PySem.W.Frag) : SpD := fun ds q => ∃ φ ns, ds=[.scr φ ns]∧kf K φ ns∧ns.length≤63∧q (.bl true) []
def jK (K : PySem.W.Frag) : Sp := fun vs H Q _ => ∃ (a : Addr) (ns : List Int), vs=[.ref a]∧Only H∧SqL K H a (ns.map V.int)∧ns.length≤63∧∀ H', Q (.bl true) H'
theorem lO {K : PySem.W.Frag} {vs : List V} {H : Hp} {Q : VK} {E : XK} (h : jK K vs H Q E) : a7 [false] false (mw K) vs H Q E := by
 obtain ⟨a, ns, rfl, hO, hS, hl, hq⟩ := h
 have main : ∀ φ : Addr→Prop, kf K φ ns→Rep H (.scr φ ns) (.ref a)→a7 [false] false (mw K) [.ref a] H Q E := fun φ hφ r => by
  refine ⟨⟨H, H, fun _ => none, [none], 0⟩, H, [.scr φ ns], fun d _ => d = .bl true, rfl, rfl, ⟨fun _ => none, rfl, ay.refl _, ay.refl _, fun _ _ e => .inl e, fun a l e => by (first | cases e), fun a l π e => by (first | cases e), fun _ _ e _ _ => e, (fun a ps q e => by rcases hO a with z | ⟨o, xs, z⟩ <;> (rw [e] at z; cases z)), fun _ e => e, fun i v e => ?_, ?_, trivial, Nat.le_refl _⟩, ⟨φ, ns, rfl, hφ, hl, rfl⟩, rfl, ?_⟩
  ·cases i with
   | zero => simp at e
   | succ i => simp at e
  ·intro i d e
   cases i with
   | zero => simp at e; subst e; exact ⟨_, rfl, by simpa using r⟩
   | succ i => simp at e
  ·intro d ρ' σ' v G' H' hd _ _ hr
   subst hd
   unfold Ret at hr
   rw [if_neg (by decide)] at hr
   rw [bc hr.2]
   exact hq H'
 rcases hS with (h1 | ⟨o, h1⟩) | h1
 ·rcases hO a with z | ⟨o, xs, z⟩
  ·rw [h1] at z; cases z
  ·rw [h1] at z; cases z
 ·exact main (fun _ => False) (fun _ _ z => z.elim) (by rw [Rep]; exact ⟨a, rfl, .inl ⟨o, h1⟩⟩)
 ·exact main (fun b => b=a) (fun b H' z => by subst z; exact .inr h1) (by rw [Rep]; exact ⟨a, rfl, .inr rfl⟩)
theorem fw {ns : List Int} {k : Int} (h0 : 0≤k) (h1 : k<ns.length) : atI (ns.map D.int) k=some (.int (ns.getD k.toNat 0)) := by
 have ek : k=((k.toNat : Nat) : Int) := by omega
 have hl : k.toNat<ns.length := by omega
 have : atI (ns.map D.int) ((k.toNat : Nat) : Int)=some (.int (ns.getD k.toNat 0)) := fq (by rw [List.getElem?_map, List.getD_eq_getElem?_getD, List.getElem?_eq_getElem hl]; rfl)
 rw [← ek] at this
 exact this
theorem rQ {ns : List Int} {k : Int} (h0 : 0≤k) (h1 : k<ns.length) : atI ns k=some (ns.getD k.toNat 0) := by
 have ek : k=((k.toNat : Nat) : Int) := by omega
 have hl : k.toNat<ns.length := by omega
 have : atI ns ((k.toNat : Nat) : Int)=some (ns.getD k.toNat 0) := fq (by rw [List.getD_eq_getElem?_getD, List.getElem?_eq_getElem hl]; rfl)
 rw [← ek] at this
 exact this
theorem b8 {ds : List D} {k : Int} {d : D} {q : D→Prop} (h : atI ds k=some d) (hq : q d) : atD ds k q := by unfold atD; rw [h]; exact hq
theorem mo {ns : List Int} {i : Nat} {d : D} (h : (ns.map D.int)[i]? = some d) : ∃ z, ns[i]? = some z∧d = .int z := by
 rw [List.getElem?_map] at h
 cases e : ns[i]? with
 | none => rw [e] at h; cases h
 | some z => rw [e] at h; exact ⟨z, rfl, (Option.some.inj h).symm⟩
theorem cz {lo hi z : Int} (h1 : lo≤z) (h2 : z≤hi) : btw lo hi (.int z)=true := by show (decide (lo≤z)&&decide (z≤hi))=true; rw [decide_eq_true h1, decide_eq_true h2]; rfl
abbrev cE (ps : List Int) (k : Int) : Int := ps.getD (k - 1).toNat 0
theorem Tree.up {ps rs : List Int} (hT : Tree ps rs) {k : Int} (h0 : 0<k) (h1 : k≤ps.length) : 0≤cE ps k∧cE ps k<k := by
 have hl : (k - 1).toNat<ps.length := by omega
 have e : ps[(k - 1).toNat]? = some (cE ps k) := by unfold cE; rw [List.getD_eq_getElem?_getD, List.getElem?_eq_getElem hl]; rfl
 have := hT.par _ _ e
 omega
inductive Up (ps : List Int) : Int→List Int→Prop
 | zero : Up ps 0 [0]
 | step {k : Int} {u : List Int} (h : 0<k) : Up ps (cE ps k) u→Up ps k (k :: u)
theorem Up.det {ps : List Int} {k : Int} {u : List Int} (h : Up ps k u) : ∀ {v : List Int}, Up ps k v→u=v := by
 induction h with
 | zero => intro v h; cases h with | zero => rfl | step h0 _ => omega
 | step h0 _ ih => intro v h; cases h with | zero => omega | step _ h => rw [ih h]
theorem Up.all {ps rs : List Int} (hT : Tree ps rs) : ∀ (n : Nat) (k : Int), k.toNat=n→0≤k→k≤ps.length→∃ u, Up ps k u
 | n, k, hn, h0, h1 => by
  by_cases hk : k=0
  ·subst hk; exact ⟨_, .zero⟩
  ·have hp := hT.up (k := k) (by omega) h1
   obtain ⟨u, hu⟩ := Up.all hT (cE ps k).toNat (cE ps k) rfl hp.1 (by omega)
   exact ⟨_, .step (by omega) hu⟩
termination_by n k hn => n
decreasing_by omega
theorem Up.le {ps rs : List Int} (hT : Tree ps rs) {k : Int} {u : List Int} (h : Up ps k u) : k≤ps.length→∀ x∈u, 0≤x∧x≤k := by
 induction h with
 | zero => intro _ x hx; simp at hx; omega
 | step h0 _ ih =>
  intro h1 x hx
  have hp := hT.up h0 h1
  rcases List.mem_cons.mp hx with rfl | hx
  ·omega
  ·have := ih (by omega) x hx; omega
theorem Up.dec {ps rs : List Int} (hT : Tree ps rs) {k : Int} {u : List Int} (h : Up ps k u) : k≤ps.length→u.Pairwise (· > ·) := by
 induction h with
 | zero => intro _; simp
 | step h0 hu ih =>
  intro h1
  have hp := hT.up h0 h1
  refine List.pairwise_cons.mpr ⟨fun x hx => ?_, ih (by omega)⟩
  have := hu.le hT (by omega) x hx
  omega
theorem Up.len {ps rs : List Int} (hT : Tree ps rs) {k : Int} {u : List Int} (h : Up ps k u) : k≤ps.length→(u.length : Int)≤k + 1 := by
 induction h with
 | zero => intro _; simp
 | step h0 hu ih => intro h1; have hp := hT.up h0 h1; have := ih (by omega); simp; omega
theorem Up.head {ps : List Int} {k : Int} {u : List Int} (h : Up ps k u) : k∈u := by cases h <;> simp
inductive Climb (ps : List Int) : Int→Int→List Int→Int→Prop
 | same (a : Int) : Climb ps a a [] a
 | left {a b : Int} {w : List Int} {m : Int} (h : b<a) : Climb ps b (cE ps a) w m→Climb ps a b (a :: w) m
 | right {a b : Int} {w : List Int} {m : Int} (h : a<b) : Climb ps a (cE ps b) w m→Climb ps a b (b :: w) m
theorem Climb.meet {ps rs : List Int} (hT : Tree ps rs) {a b m : Int} {w : List Int} (h : Climb ps a b w m) : 0≤a→0≤b→a≤ps.length→b≤ps.length→∀ {ua ub : List Int}, Up ps a ua→Up ps b ub→m∈ua∧m∈ub∧∀ x∈ua, x∈ub→x≤m := by
 induction h with
 | same a => intro a0 _ a1 _ ua ub ha hb; have := ha.det hb; subst this; exact ⟨ha.head, ha.head, fun x hx _ => (ha.le hT a1 x hx).2⟩
 | left hlt hc ih =>
  intro a0 b0 a1 b1 ua ub ha hb
  cases ha with
  | zero => omega
  | step h0 hu =>
   have hp := hT.up h0 a1
   obtain ⟨m1, m2, m3⟩ := ih b0 hp.1 b1 (by omega) hb hu
   refine ⟨List.mem_cons_of_mem _ m2, m1, fun x hx hxb => ?_⟩
   rcases List.mem_cons.mp hx with rfl | hx
   ·have := (hb.le hT b1 _ hxb).2; omega
   ·exact m3 x hxb hx
 | right hlt hc ih =>
  intro a0 b0 a1 b1 ua ub ha hb
  cases hb with
  | zero => omega
  | step h0 hu =>
   have hp := hT.up h0 b1
   obtain ⟨m1, m2, m3⟩ := ih a0 hp.1 a1 (by omega) ha hu
   refine ⟨m1, List.mem_cons_of_mem _ m2, fun x hx hxb => ?_⟩
   rcases List.mem_cons.mp hxb with rfl | hxb
   ·have := (ha.le hT a1 _ hx).2; omega
   ·exact m3 x hx hxb
theorem Climb.low {ps rs : List Int} (hT : Tree ps rs) {a b m : Int} {w : List Int} (h : Climb ps a b w m) : 0≤a→0≤b→a≤ps.length→b≤ps.length→0≤m∧m≤a∧m≤b := by
 induction h with
 | same a => intro a0 _ _ _; omega
 | left hlt hc ih => intro a0 b0 a1 b1; have hp := hT.up (show 0<_ by omega) a1; have := ih b0 hp.1 b1 (by omega); omega
 | right hlt hc ih => intro a0 b0 a1 b1; have hp := hT.up (show 0<_ by omega) b1; have := ih a0 hp.1 a1 (by omega); omega
theorem Climb.perm {ps rs : List Int} (hT : Tree ps rs) {a b m : Int} {w : List Int} (h : Climb ps a b w m) : 0≤a→0≤b→a≤ps.length→b≤ps.length→∀ {ua ub um : List Int}, Up ps a ua→Up ps b ub→Up ps m um→w.Perm ((ua++ub).filter fun x => !um.contains x) := by
 induction h with
 | same a =>
  intro a0 _ a1 _ ua ub um ha hb hm
  have := ha.det hb; subst this
  have := ha.det hm; subst this
  have : (ua++ua).filter (fun x => !ua.contains x)=[] := by
   rw [List.filter_eq_nil_iff]; intro x hx; simp at hx; simp [hx]
  rw [this]
 | @left a b w m hlt hc ih =>
  intro a0 b0 a1 b1 ua ub um ha hb hm
  cases ha with
  | zero => omega
  | step h0 hu =>
   have hp := hT.up h0 a1
   have hl := hc.low hT b0 hp.1 b1 (by omega)
   have ih' := ih b0 hp.1 b1 (by omega) hb hu hm
   have hn : ¬ um.contains a=true := fun z => by
    have := (hm.le hT (by omega) _ (List.contains_iff_mem.mp z)).2
    omega
   rw [List.cons_append, List.filter_cons_of_pos (by simpa using hn)]
   refine List.Perm.cons _ (ih'.trans ?_)
   exact List.Perm.filter _ List.perm_append_comm
 | @right a b w m hlt hc ih =>
  intro a0 b0 a1 b1 ua ub um ha hb hm
  cases hb with
  | zero => omega
  | step h0 hu =>
   have hp := hT.up h0 b1
   have hl := hc.low hT a0 hp.1 a1 (by omega)
   have ih' := ih a0 hp.1 a1 (by omega) ha hu hm
   have hn : ¬ um.contains b=true := fun z => by
    have := (hm.le hT (by omega) _ (List.contains_iff_mem.mp z)).2
    omega
   refine (List.Perm.cons _ ih').trans ?_
   refine List.Perm.trans ?_ (List.Perm.filter _ (List.perm_middle (l₁ := _)).symm)
   rw [List.filter_cons_of_pos (by simpa using hn)]
theorem Climb.mem {ps rs : List Int} (hT : Tree ps rs) {a b m : Int} {w : List Int} (h : Climb ps a b w m) : 0≤a→0≤b→a≤ps.length→b≤ps.length→∀ x∈w, 0<x∧x≤ps.length := by
 induction h with
 | same a => intro _ _ _ _ x hx; cases hx
 | left hlt hc ih =>
  intro a0 b0 a1 b1 x hx
  have hp := hT.up (show 0<_ by omega) a1
  rcases List.mem_cons.mp hx with rfl | hx
  ·omega
  ·exact ih b0 hp.1 b1 (by omega) x hx
 | right hlt hc ih =>
  intro a0 b0 a1 b1 x hx
  have hp := hT.up (show 0<_ by omega) b1
  rcases List.mem_cons.mp hx with rfl | hx
  ·omega
  ·exact ih a0 hp.1 a1 (by omega) x hx
theorem Climb.len {ps rs : List Int} (hT : Tree ps rs) {a b m : Int} {w : List Int} (h : Climb ps a b w m) : 0≤a→0≤b→a≤ps.length→b≤ps.length→(w.length : Int)≤a + b := by
 induction h with
 | same a => intro _ _ _ _; simp; omega
 | left hlt hc ih => intro a0 b0 a1 b1; have hp := hT.up (show 0<_ by omega) a1; have := ih b0 hp.1 b1 (by omega); simp; omega
 | right hlt hc ih => intro a0 b0 a1 b1; have hp := hT.up (show 0<_ by omega) b1; have := ih a0 hp.1 a1 (by omega); simp; omega
theorem Climb.det {ps : List Int} {a b m : Int} {w : List Int} (h : Climb ps a b w m) : ∀ {m' : Int} {w' : List Int}, Climb ps a b w' m'→w=w'∧m=m' := by
 induction h with
 | same a => intro m' w' h; cases h with | same => exact ⟨rfl, rfl⟩ | left h _ => omega | right h _ => omega
 | left hlt hc ih => intro m' w' h; cases h with | same => omega | left _ h => have := ih h; exact ⟨by rw [this.1], this.2⟩ | right h _ => omega
 | right hlt hc ih => intro m' w' h; cases h with | same => omega | right _ h => have := ih h; exact ⟨by rw [this.1], this.2⟩ | left h _ => omega
structure Ends2 (ps : List Int) (a b : Int) : Prop where
 a0 : 0≤a
 a1 : a≤ps.length
 b0 : 0≤b
 b1 : b≤ps.length
 ne : a ≠ b
def pq : SpD := fun ds q => ∃ ps rs d, ds=[aO ps rs, d]∧d.isS=false∧q (.bl (btw 0 ps.length d)) []
def rB : SpD := fun ds q => ∃ ps rs a b, ds=[aO ps rs, .int a, .int b]∧Ends2 ps a b∧q (.bl true) []
def jk : SpD := fun ds q => ∃ ps rs a b, ds=[aO ps rs, .int a, .int b]∧Tree ps rs∧Ends2 ps a b∧q .non []
def oD : SpD := fun ds q => ∃ ps rs a b, ds=[aO ps rs, .int a, .int b]∧Tree ps rs∧0≤a∧a≤ps.length∧0≤b∧b≤ps.length∧∀ w m, Climb ps a b w m→q (.tup [ak (bO w), .int m]) []
def sdWay : SpD := fun ds q => ∃ ps rs a b, ds=[aO ps rs, .int a, .int b]∧Tree ps rs∧Ends2 ps a b∧∀ w m, Climb ps a b w m→q (ak (bO w)) []
theorem gD (ps : List Int) (y : Int) : D.lst (ps.map D.int++[D.int y])=ak (ps++[y]) := by unfold ak; rw [List.map_append]; rfl
theorem aB (ps : List Int) : (ps.map D.int).length=ps.length := List.length_map _
theorem jJ {P : Nat→Int→Prop} {ps : List Int} {y : Int} (h : ∀ (j : Nat) (x : Int), ps[j]? = some x→P j x) (hy : P ps.length y) : ∀ (j : Nat) (x : Int), (ps++[y])[j]? = some x→P j x := by
 intro j x hj
 by_cases hjl : j<ps.length
 ·rw [List.getElem?_append_left hjl] at hj; exact h j x hj
 ·rw [List.getElem?_append_right (by omega)] at hj
  cases e : j - ps.length with
  | zero => rw [e] at hj; have : y = x := by simpa using hj
            subst this; rw [show j=ps.length by omega]; exact hy
  | succ q => rw [e] at hj; simp at hj
def filD (p : Int→Bool) : D→Option D
 | .int x => if p x=true then some (.int x) else none
 | _ => none
theorem eQ {p : Int→Bool} : ∀ (ns : List Int), (ns.map D.int).filterMap (filD p)=(ns.filter p).map D.int
 | [] => rfl
 | n :: r => by
  have ih := eQ (p := p) r
  have e0 : filD p (.int n)=if p n=true then some (.int n) else none := rfl
  cases e : p n with
  | true => rw [e, if_pos rfl] at e0; rw [List.map_cons, List.filterMap_cons, e0, List.filter_cons_of_pos e, List.map_cons, ← ih]
  | false => rw [e, if_neg (by decide)] at e0; rw [List.map_cons, List.filterMap_cons, e0, List.filter_cons_of_neg (by rw [e]; decide), ← ih]
theorem cY (ns : List Int) : (ns.map D.int).all ck=true := by
 induction ns with
 | nil => rfl
 | cons n r ih => rw [List.map_cons, List.all_cons, ih]; rfl
theorem et (x : Int) (ns : List Int) : inD (.int x) (ns.map D.int)=ns.contains x := by
 unfold inD
 induction ns with
 | nil => rfl
 | cons n r ih =>
  rw [List.map_cons, List.any_cons, ih, List.contains_cons]
  show ((n == x)||_)=_
  rw [Bool.beq_comm]
theorem ce {ns : List Int} {d : D} (h : d∈ns.map D.int) : ∃ x∈ns, d = .int x := by
 obtain ⟨x, h1, h2⟩ := List.mem_map.mp h
 exact ⟨x, h1, h2.symm⟩
theorem ip (ns : List Int) : okD (ak ns)=true := iV ns
theorem eqDi (ns ms : List Int) : eqD (ak ns) (ak ms)=decide (ns=ms) := mL ns ms
def lay : Nat→D→Bool
 | _, .int _ => true
 | _, .bl _ => true
 | _, .non => true
 | n + 1, .tup ds => ds.all (lay n)
 | n + 1, .lst ds => ds.all (lay n)
 | _, _ => false
structure Ask where
 one : Int
 other : Int
 size : Int
 worth : Int
def gm (a : Ask) : D := .tup [.int a.one, .int a.other, .int a.size, .int a.worth]
def cj (as : List Ask) : D := .lst (as.map gm)
structure AskOk (ps : List Int) (a : Ask) : Prop where
 ends : Ends2 ps a.one a.other
 s0 : 1≤a.size
 s1 : a.size≤1000000
 w0 : 1≤a.worth
 w1 : a.worth≤1000000000000
structure AsksOk (ps : List Int) (as : List Ask) : Prop where
 len : as.length≤30
 ok : ∀ a∈as, AskOk ps a
theorem oF {as : List Ask} {i : Nat} {d : D} (h : (as.map gm)[i]? = some d) : ∃ a, as[i]? = some a∧d=gm a := by
 rw [List.getElem?_map] at h
 cases e : as[i]? with
 | none => rw [e] at h; cases h
 | some z => rw [e] at h; exact ⟨z, rfl, (Option.some.inj h).symm⟩
theorem fM (as : List Ask) : (as.map gm).length=as.length := List.length_map _
def oW : SpD := fun ds q => ∃ ps rs a, ds=[aO ps rs, gm a]∧AskOk ps a∧q (.bl true) []
def ja : SpD := fun ds q => ∃ ps rs as, ds=[aO ps rs, cj as]∧Tree ps rs∧AsksOk ps as∧q .non []
def f8 (ps : List Int) : Nat→Int→Int→List Int
 | 0, _, _ => []
 | f + 1, a, b => if b<a then a :: f8 ps f b (cE ps a) else if a<b then b :: f8 ps f a (cE ps b) else []
def fR (ps : List Int) : Nat→Int→Int→Int
 | 0, a, _ => a
 | f + 1, a, b => if b<a then fR ps f b (cE ps a) else if a<b then fR ps f a (cE ps b) else a
theorem dW {ps rs : List Int} (hT : Tree ps rs) : ∀ (f : Nat) (a b : Int), (a + b).toNat≤f→0≤a→0≤b→a≤ps.length→b≤ps.length→Climb ps a b (f8 ps f a b) (fR ps f a b)
 | 0, a, b, hf, a0, b0, _, _ => by
  have : a=b := by omega
  subst this
  exact .same a
 | f + 1, a, b, hf, a0, b0, a1, b1 => by
  unfold f8 fR
  by_cases h1 : b<a
  ·rw [if_pos h1, if_pos h1]
   have hp := hT.up (show 0<a by omega) a1
   exact .left h1 (dW hT f b _ (by omega) b0 hp.1 b1 (by omega))
  ·rw [if_neg h1, if_neg h1]
   by_cases h2 : a<b
   ·rw [if_pos h2, if_pos h2]
    have hp := hT.up (show 0<b by omega) b1
    exact .right h2 (dW hT f a _ (by omega) a0 hp.1 a1 (by omega))
   ·rw [if_neg h2, if_neg h2]
    have : a=b := by omega
    subst this
    exact .same a
def ia (ps : List Int) (a b : Int) : List Int := bO (f8 ps 100 a b)
def eU (ps : List Int) (a b : Int) : Int := fR ps 100 a b
theorem Climb.way {ps rs : List Int} (hT : Tree ps rs) {a b m : Int} {w : List Int} (h : Climb ps a b w m) (a0 : 0≤a) (b0 : 0≤b) (a1 : a≤ps.length) (b1 : b≤ps.length) : bO w=ia ps a b∧m=eU ps a b := by
 have hi := hT.hi
 have := h.det (dW hT 100 a b (by omega) a0 b0 a1 b1)
 exact ⟨by rw [this.1]; rfl, this.2⟩
theorem fi {ps rs : List Int} (hT : Tree ps rs) {a b : Int} (a0 : 0≤a) (b0 : 0≤b) (a1 : a≤ps.length) (b1 : b≤ps.length) : ∃ w, Climb ps a b w (eU ps a b)∧ia ps a b=bO w := by
 have hi := hT.hi
 exact ⟨_, dW hT 100 a b (by omega) a0 b0 a1 b1, rfl⟩
theorem ka {ps rs : List Int} (hT : Tree ps rs) {a b : Int} (he : Ends2 ps a b) {x : Int} (hx : x∈ia ps a b) : 0<x∧x≤ps.length := by
 obtain ⟨w, hw, e⟩ := fi hT he.a0 he.b0 he.a1 he.b1
 rw [e] at hx
 exact hw.mem hT he.a0 he.b0 he.a1 he.b1 x ((bw w).mem_iff.mp hx)
def bD (ps : List Int) (a : Ask) : List Int := ia ps a.one a.other
def o_ : SpD := fun ds q => ∃ ps rs a, ds=[aO ps rs, gm a]∧Tree ps rs∧Ends2 ps a.one a.other∧q (ak (bD ps a)) []
theorem jj {ps : List Int} {a r : Int} (a0 : 0≤a) (a1 : a<1 + (ps.length : Int)) (r0 : 0≤r) (r1 : r<ps.length) : Ends2 ps a ((a + 1 + r) % (1 + (ps.length : Int))) := by
 refine ⟨a0, by omega, Int.emod_nonneg _ (by omega), ?_, ?_⟩
 ·have := Int.emod_lt_of_pos (a + 1 + r) (show 0<1 + (ps.length : Int) by omega); omega
 ·intro he
  by_cases hlt : a + 1 + r<1 + (ps.length : Int)
  ·rw [Int.emod_eq_of_lt (by omega) hlt] at he; omega
  ·have e : (a + 1 + r) % (1 + (ps.length : Int))=a + 1 + r - (1 + (ps.length : Int)) := by
    rw [← Int.sub_emod_right, Int.emod_eq_of_lt (by omega) (by omega)]
   omega
theorem eu {α β : Type} (f : α→β) : ∀ (l : List α) (j : Nat), (l.eraseIdx j).map f=(l.map f).eraseIdx j
 | [], _ => rfl
 | _ :: _, 0 => rfl
 | x :: r, j + 1 => by rw [List.eraseIdx_cons_succ, List.map_cons, List.map_cons, List.eraseIdx_cons_succ, eu f r j]
section
variable {X : Cx}
end
section
variable {X : Cx} {M : Md} {e : Expr} {ma : ME} {pos : Pos}
end
section
variable {X : Cx}
variable {ow : List Bool} {e : Expr} {ma : ME}
end
section
variable {X : Cx}
variable {ow : List Bool} {e : Expr} {ma : ME} {pos p1 p2 p3 : Pos}
end
end L2
namespace L2
open PySem
theorem Up.chain {ps rs : List Int} (hT : Tree ps rs) {b : Int} {u : List Int} (h : Up ps b u) : b≤ps.length→∀ {x y : Int}, x∈u→y∈u→x≤y→∃ uy, Up ps y uy∧x∈uy∧∀ z∈uy, z∈u := by
 induction h with
 | zero =>
  intro _ x y hx hy _
  have e : y=0 := by simpa using hy
  subst e
  exact ⟨[0], .zero, hx, fun z hz => hz⟩
 | @step k u h0 hu ih =>
  intro h1 x y hx hy hxy
  have hp := hT.up h0 h1
  have hle := hu.le hT (by omega)
  rcases List.mem_cons.mp hy with hy' | hy'
  ·subst hy'; exact ⟨_, .step h0 hu, hx, fun z hz => hz⟩
  ·rcases List.mem_cons.mp hx with hx' | hx'
   ·have := (hle y hy').2; omega
   ·obtain ⟨uy, g1, g2, g3⟩ := ih (by omega) hx' hy' hxy
    exact ⟨uy, g1, g2, fun z hz => .tail _ (g3 z hz)⟩
end L2
namespace L2
open PySem PySem.Spec PyProof.Rows
section
variable {prog : Program} {w : World} {A : Around} {E : Value→Shared→Prop} {s : Shared}
end
section
variable {X : Cx} {M : Md} {e : Expr} {es : List Expr} {mgs : MGs} {pos : Pos}
end
section
variable {X : Cx} {M : Md} {pos : Pos}
theorem h8 {g : TG} {mg : MG} {mt : MT} {me : ME} {mi : MA} {tg iter elt : Expr} {ifs : List Expr} {scope : Scope} {cl : List (Str×Addr)} {i : Nat} {y : Str} {spos py : Pos} (own : List Str) (js : List Nat) (j0 k0 : Nat) (c : CompOk X scope cl own js) (hc : X.calm=true) (hN : X.N.Nodup) (hy : X.N[i]? = some y) (hx : Loc X.env.scope y) (hi : QI X M.ow tg iter mi) (cg : CGM k0 own.length g mg)
 (inner : ∀ (C : Addr) (s₀ : Shared) (H₀ : Hp) (ex : List Addr), CInnM (a_ X scope cl (bY X own js) C s₀ H₀ ex) k0 tg ifs elt g mt me) (hoj : M.ow[j0]? = some true := by decide) (hk0 : own.length≤k0 := by decide) (hjk : js[k0 - own.length]? = some j0 := by rfl)
 (hj : (js.mapIdx fun i j => decide (i=k0 - own.length) || !decide (M.ow[j]? = some true)).all id=true := by decide) (ho : M.ow[i]? = some true := by decide) (hu : M.mu[i]? ≠ some true := by decide)
 (hsw : swapsWith (.ListComp elt [⟨tg, iter, ifs, 0⟩] scope pos) (some (.Name y py)) spos.line X.env=pure true := by rfl)
 (hs : ∀ x, foldedSetIterable iter X.env x=pure x := by intro _; rfl) (hf : X.fn y=true∨X.env.scope.names.lookup y=some .local := by first | exact .inl rfl | exact .inr rfl | assumption) :
 QS X M (.Assign [.Name y py] (.ListComp elt [⟨tg, iter, ifs, 0⟩] scope pos) spos) (kr i (jg mi mg mt me own.length js j0 k0)) := by
 obtain ⟨wi, pi, si⟩ := hi
 have hj' : ∀ (i j : Nat), js[i]? = some j→i ≠ k0 - own.length→M.ow[j]? ≠ some true := fun i j e hne z => by
  rw [List.all_eq_true] at hj
  have := hj (decide (i=k0 - own.length) || !decide (M.ow[j]? = some true)) (List.mem_of_getElem? (i := i) (by rw [List.getElem?_mapIdx, e]; rfl))
  simp [hne, z] at this
 exact ⟨_, fZ own js c hc hN hy hx pi (fun C s₀ H₀ ex => ⟨(inner C s₀ H₀ ex).pg, (inner C s₀ H₀ ex).qi.can, (inner C s₀ H₀ ex).qe.can⟩) hsw hs hf, j5 (iD si cg hoj hk0 hjk hj') ho hu⟩
end
section
variable {X : Cx} {es : List Expr} {k : Nat} {tpos : Pos}
variable {ow : List Bool} {a b : Expr} {mr : MA} {pos : Pos}
end
end L2
namespace L2
open PySem
theorem gJ {ps rs : List Int} (hT : Tree ps rs) {a b : Int} (he : Ends2 ps a b) : (ia ps a b).length≤46 := by
 obtain ⟨w, hw, e⟩ := fi hT he.a0 he.b0 he.a1 he.b1
 have h1 := hw.len hT he.a0 he.b0 he.a1 he.b1
 have h2 := hT.hi
 have h3 := he.a1; have h4 := he.b1
 rw [e]
 have := (bw w).length_eq
 omega
theorem jX {ps rs : List Int} (hT : Tree ps rs) {a b : Int} (he : Ends2 ps a b) : 0<(ia ps a b).length := by
 obtain ⟨w, hw, e⟩ := fi hT he.a0 he.b0 he.a1 he.b1
 rw [e]
 have := (bw w).length_eq
 have hne := he.ne
 generalize eU ps a b=m at hw
 cases hw with
 | same => exact absurd rfl hne
 | left _ _ => rw [List.length_cons] at this; omega
 | right _ _ => rw [List.length_cons] at this; omega
end L2
namespace L2
open PySem PySem.Spec PyProof.Rows
section
variable {M : Model} {A : Around} {E : Value→Shared→Prop} {s : Shared}
end
section
variable {X : Cx} {pins : List (Addr×Obj)} {σ : St} {H H' : Hp} {s s' : Shared} {e : Addr} {cls : Value} {dx : Option Addr} {T : Option Addr}
end
section
variable {X : Cx} {x : Str} {p pos : Pos} {e : Expr} {es : List Expr} {t : TA} {k : Nat} {f : Addr} {fd : FuncData} {ps : List Str} {sp : Sp} {xk : XS}
end
section
variable {X : Cx} {pins : List (Addr×Obj)} {σ : St} {H : Hp} {s : Shared} {xk : XS}
variable {x : Str} {C : Addr} {bm : List Value} {e : Expr} {args : List Expr} {np cpos pos : Pos} {t : TA}
end
section
variable {X : Cx} {pins p : List (Addr×Obj)} {σ : St} {H : Hp} {s : Shared} {E : Value→Shared→Prop} {v : Value}
variable {e : Addr} {cls : Value} {dx T : Option Addr}
variable {x n : Str} {i : Nat} {C D0 : Addr} {bm bmD : List Value} {ini iniD : Option Value} {b0 : Stmt} {suite : List Stmt} {np npos : Pos} {ts : TS} {D : Ends} {t : Addr}
end
abbrev XD := Addr→List Str→List D→DSt→Prop
section
variable {X : Cx} {E : Value→Shared→Prop} {p : List (Addr×Obj)}
end
abbrev MEX := XD→ME
section
variable {X : Cx} {M : Md} {a b c e : Expr} {mt : MT} {pos pos' : Pos} {st : Stmt} {rest : List Stmt} {m : MS} {m1 m2 : MSX} {mex : MEX}
variable {mg : MG}
variable {es : List Expr} {ks : List AK} {mr : MA} {x : Str} {p' : Pos} {ow : List Bool}
end
section
variable {X : Cx} {M : Md} {e : Expr} {es : List Expr} {ks : List AK} {mr : MA} {x : Str} {pos p' : Pos} {ow : List Bool} {mu : List Bool} {k : Nat} {f : Addr} {fd : FuncData} {ps : List Str} {sd : SpX}
end
end L2
namespace L2
open PySem PySem.Spec PyProof.Rows PySem.W Builtin.ObjectAttr
section
variable {prog : Program} {w : World} {A : Around} {E : Value→Shared→Prop} {s : Shared} {K : PySem.W.Frag} {x D : Addr} {ox : Obj} {od : Option Obj} {name : Str} {bm : List Value} {ini : Option Value} {tk : Tok}
end
end L2
namespace L2
open PySem PySem.Spec PyProof.Rows
section
variable {X : Cx}
variable {ow : List Bool} {a : Expr} {ma : ME} {pos : Pos}
end
section
variable {K : PySem.W.Frag} {C a N : Addr} {dd nd : Option Addr} {nm qn : Str} {bs bm sub : List Value} {hd ab : Bool} {sn : List Str} {col : Option Bool} {k0 k1 k2 k3 k5 ini : Option Value} {no : Value} {es : Array DictEntry} {np : Nat} {nl : Array (Option Value)} {sl : Array (Option Value)} {oc : Value} {cd : ClassData}
end
section
variable {X : Cx}
variable {ow : List Bool} {a : Expr} {ma : ME} {pos : Pos}
end
section
variable {K : PySem.W.Frag} {t c : Value} {cs : List Value} {b : Bool}
end
section
variable {prog : Program} {w : World} {A : Around} {E : Value→Shared→Prop} {h : Heap} {g : Array GenState} {d : Drawn} {t : Nat} {os : OsState}
variable {nm q : Str} {C N : Addr} {bs bm : List Value} {hdct : Bool} {sn : List Str} {sub : List Value} {ab : Bool} {col : Option Bool} {dd : Option Addr} {k0 k1 k2 k3 k5 : Option Value}
end
section
variable {prog : Program} {w : World} {A : Around} {E : Value→Shared→Prop} {h : Heap} {g : Array GenState} {d : Drawn} {t : Nat} {os : OsState}
variable {nm q : Str} {C N : Addr} {bs bm : List Value} {hdct : Bool} {sn : List Str} {sub : List Value} {ab : Bool} {col : Option Bool} {dd : Option Addr} {k0 k1 k2 k3 k5 : Option Value}
end
end L2
namespace L2
open PySem PySem.Spec PyProof.Rows PySem.W Builtin.ObjectAttr Builtin
section
variable {prog : Program} {w : World} {A : Around} {E : Value→Shared→Prop} {s : Shared} {K : PySem.W.Frag} {x C : Addr} {ox : Obj} {od : Option Obj} {name : Str} {bm : List Value} {ini : Option Value} {v : Value}
end
end L2
namespace L2
open PySem PySem.Spec PyProof.Rows
section
variable {X : Cx} {pins : List (Addr×Obj)} {σ : St} {H : Hp} {s : Shared} {e C fI : Addr} {bm : List Value}
end
section
variable {prog : Program} {w : World} {A : Around} {E : Value→Shared→Prop} {s : Shared} {env : Env}
end
section
variable {X : Cx} {xk : XS} {x : Str} {C fI : Addr} {bm : List Value} {e : Expr} {args : List Expr} {np cpos pos : Pos} {t : TA} {k : Nat} {fd : FuncData} {ps ns : List Str}
end
section
variable {X : Cx} {M : Md} {e : Expr} {es : List Expr} {mr : MA} {x : Str} {pos : Pos} {k : Nat} {fd : FuncData} {ps ns : List Str}
end
section
variable {X : Cx} {es : List Expr} {c : St→Prop}
end
section
variable {X : Cx} {C B : Addr} {bm : List Value} {ini : Option Value} {x : Str} {a b : Expr} {np apos pos pos' : Pos} {t : TA}
end
section
variable {X : Cx} {pins : List (Addr×Obj)} {σ : St} {H : Hp} {s : Shared} {h' : Heap} {a : Addr} {oa od : HO}
end
section
variable {X : Cx} {C : Addr} {bm : List Value} {ini : Option Value} {f : Str} {o value : Expr} {pos pos' : Pos} {ta tv : TE}
end
section
variable {X : Cx} {ow : List Bool} {a : Expr} {ma : ME} {pos : Pos} {f : Str}
end
section
variable {X : Cx}
variable {ow : List Bool} {e : Expr} {ma : ME}
end
section
variable {X : Cx} {M : Md} {ow : List Bool} {a e : Expr} {es : List Expr} {pos : Pos} {mex : MEX} {m1 : MSX} {mg : MG}
def miEnuX (m : MEX) : XD→MA := fun xx ρ q => m xx ρ fun d ρ' => match d with
 | .lst ds => q (jc ds) ρ'
 | _ => False
theorem lT : QE X ow (.Dict [] [] pos) (mC .dct) := by
 refine ⟨_, lm, fun C G ρ σ H pd q Q r hm k => fun p hp => ?_⟩
 obtain ⟨O, ro⟩ := r
 obtain ⟨r2, s2⟩ := ro.new hp (.dK [])
 exact k _ ρ _ _ _ hm s2 Kp.refl ⟨O, r2⟩ (by rw [Rep]; exact ⟨p, [], rfl, aA⟩)
variable {x : Str} {p' : Pos} {ma : ME}
def rN (m : ME) : ME := fun ρ q => m ρ fun d ρ' => match d with
 | .lst ds => q (.tup ds) ρ'
 | _ => False
theorem mO (hg : Gl X x) (hm : X.mg x=none) (hv : bootBuiltins x=some (.type "tuple")) (ha : QE X ow e ma) (hn : x ≠ "__name__" := by decide) (hdb : (x == ("__debug__" : Str))=false := by decide)
 (he : starEach [e] X.env=[(false, eval e X.env)] := by rfl) : QE X ow (.Call (.Name x p') [e] [] pos) (rN ma) := by
 obtain ⟨t, p, s⟩ := ha
 refine ⟨_, de gg hg hm hv (ba p b3 he) hn hdb he rfl, fun C G ρ σ H pd q Q r hm k => s C G ρ σ H pd _ _ r hm fun d ρ' v G' H' hq z kp r' p1 => ?_⟩
 cases d with
 | lst ds =>
  obtain ⟨a, xs, rfl, h1, h2⟩ := aG p1
  refine ⟨a, xs, rfl, .inl ⟨SqL.of (r'.gh _ _ h1), fun l hl => ?_⟩⟩
  obtain ⟨O, ro⟩ := r'
  obtain ⟨r2, s2⟩ := ro.new hl (.tup xs)
  exact k _ ρ' _ _ _ hq (z.trans s2) kp ⟨O, r2⟩ (h_ aA (Reps.mono s2 _ _ h2))
 | _ => exact hq.elim
end
section
variable {C : Ctx} {ow : List Bool} {G : Hp} {ρ : DSt} {σ : St} {H : Hp} {pd : List (D×V)} {O : Own} {p : Addr} {xs : List V}
end
section
variable {X : Cx} {ow : List Bool} {a b e : Expr} {es : List Expr} {ma mb : ME} {mr : MA} {pos : Pos} {x : Str} {p' : Pos}
end
section
variable {X : Cx} {M : Md} {i : Nat} {st : Stmt} {rest : List Stmt} {m1 m2 : MFl} {me : MFe} {ms : MS} {pos pos' : Pos}
variable {e b c : Expr} {ma mb : ME} {mt : MT}
end
section
variable {C : Ctx} {ow : List Bool} {i : Nat} {G : Hp} {ρ : DSt} {σ : St} {H : Hp} {p : Addr} {ds : List D}
end
section
variable {X : Cx} {M : Md} {i : Nat} {pos pos' : Pos} {e c : Expr} {ma : ME} {mt : MT} {m1 m2 : MFl}
end
section
variable {X : Cx} {M : Md} {a b e : Expr} {ma mb : ME} {pos : Pos}
end
section
variable {X : Cx} {M : Md} {a b : Expr} {ma mb : ME} {pos : Pos}
end
section
variable {X : Cx} {pos p1 p2 q1 q2 : Pos} {n1 n2 : Nat} {k1 k2 x y : Str} {i j : Nat} {ow : List Bool}
end
section
variable {X : Cx} {ow : List Bool} {a b e : Expr} {ma mb : ME} {pos p2 : Pos} {lo hi : Option Expr} {ml mh : MO}
end
section
variable {X : Cx} {M : Md} {i : Nat} {st : Stmt} {m : MFl}
end
mutual
def pln : D→Bool
 | .tup ds => plns ds
 | .lst ds => plns ds
 | .scr _ _ => false
 | .ext _ => false
 | _ => true
def plns : List D→Bool
 | [] => true
 | d :: ds => pln d&&plns ds
end
theorem nY {d : D} (h : pln d=true) : d.isS=false := by
 cases d <;> first | rfl | (rw [pln] at h; cases h)
theorem eP {d : D} {ds : List D} : plns (d :: ds)=true↔pln d=true∧plns ds=true := by rw [plns, Bool.and_eq_true]
theorem fe : ∀ {ds : List D}, (∀ d∈ds, pln d=true)→plns ds=true
 | [], _ => rfl
 | d :: ds, h => eP.mpr ⟨h d (by simp), fe fun x hx => h x (by simp [hx])⟩
theorem fu : ∀ {ds : List D} {d : D}, plns ds=true→d∈ds→pln d=true
 | x :: ds, d, h, e => by
  rcases List.mem_cons.mp e with rfl | e
  ·exact (eP.mp h).1
  ·exact fu (eP.mp h).2 e
theorem kW (ns : List Int) : plns (ns.map D.int)=true := fe fun d h => by
 obtain ⟨x, _, rfl⟩ := List.mem_map.mp h; rfl
theorem kA (ns : List Int) : pln (ak ns)=true := by unfold ak; rw [pln]; exact kW ns
theorem gE {lo hi : Int} {d : D} (h : btw lo hi d=true) : ∃ i, d = .int i∧lo≤i∧i≤hi := by
 cases d with
 | int i => simp only [btw, Bool.and_eq_true, decide_eq_true_eq] at h; exact ⟨i, rfl, h.1, h.2⟩
 | _ => cases h
theorem gB {xs : List D} {k : Int} (h0 : 0≤k) : cI xs none (some k)=xs.take k.toNat := by
 have ek : k=((k.toNat : Nat) : Int) := by omega
 unfold cI
 rw [HT.sIx_none, ek, HT.sIx_nat, List.drop_zero, Nat.sub_zero, Int.toNat_natCast]
 by_cases h : k.toNat≤xs.length
 ·rw [show min k.toNat xs.length=k.toNat by omega]
 ·rw [show min k.toNat xs.length=xs.length by omega, List.take_length, List.take_of_length_le (by omega)]
theorem gx {xs : List D} {k : Int} (h0 : 0≤k) : cI xs (some k) none=xs.drop k.toNat := by
 have ek : k=((k.toNat : Nat) : Int) := by omega
 unfold cI
 rw [HT.sIx_none, ek, HT.sIx_nat, Int.toNat_natCast]
 by_cases h : k.toNat≤xs.length
 ·rw [show min k.toNat xs.length=k.toNat by omega, List.take_of_length_le (by simp)]
 ·rw [show min k.toNat xs.length=xs.length by omega, List.drop_length, List.drop_of_length_le (by omega)]; simp
section
variable {X : Cx}
end
end L2
namespace L2
open PySem
end L2
namespace L2
open PySem PySem.Spec PyProof.Rows
section
variable {X : Cx}
end
section
variable {X : Cx} {M : Md} {e : Expr} {ma : ME} {pos : Pos}
end
section
variable {X : Cx} {M : Md} {i : Nat} {st : Stmt} {rest : List Stmt} {m1 m2 : MFl} {me : MFe} {pos pos' : Pos} {e : Expr} {ma : ME}
end
section
variable {X : Cx} {M : Md} {elt tg iter : Expr} {ifs : List Expr} {pos : Pos} {mi : MA} {mg : MG} {mt : MT} {me : ME} {scope : Scope} {cl : List (Str×Addr)} {rest : List Stmt} {mf : MFe}
end
section
variable {X : Cx} {ow : List Bool} {e : Expr} {ma : ME} {pos p2 : Pos} {lo hi : Option Expr} {ml mh : MO}
end
end L2
namespace L2
open PySem
end L2
namespace L2
open PySem PySem.Spec PyProof.Rows
section
variable {X : Cx} {pins p : List (Addr×Obj)} {σ : St} {H : Hp} {s : Shared} {E : Value→Shared→Prop} {v : Value} {e : Addr} {cls : Value} {dx T : Option Addr}
variable {x : Str} {C D0 : Addr} {bm bmD : List Value} {ini iniD : Option Value} {b0 : Stmt} {suite : List Stmt} {np npos : Pos} {ts : TS} {D : Ends} {t : Addr}
end
section
variable {X : Cx} {ow : List Bool} {a b : Expr} {mex : MEX} {mb : ME} {pos : Pos}
end
end L2
namespace L2
open PySem
end L2
namespace L2
open PySem PySem.Spec PyProof.Rows
section
variable {X : Cx} {pos p1 q1 : Pos} {n1 : Nat} {k1 : Int} {x : Str} {i : Nat} {ow : List Bool}
end
section
variable {X : Cx} {ow : List Bool} {es : List Expr} {mr : MA} {pos : Pos}
end
end L2
namespace L2
open PySem
end L2
namespace L2
open PySem PySem.Spec PyProof.Rows
theorem qx : bootBuiltins "all" = some (.builtin "all") := by decide +kernel
section
variable {X : Cx}
end
section
variable {X : Cx} {M : Md} {e e' : Expr} {mr : MA} {pos : Pos}
end
end L2
namespace L2
open PySem
def d7 (ws : List (List Int)) : D := .lst (ws.map ak)
def br (ps : List Int) (as : List Ask) : List (List Int) := as.map (bD ps)
def nM : SpD := fun ds q => ∃ ps rs as, ds=[aO ps rs, cj as]∧Tree ps rs∧AsksOk ps as∧q (d7 (br ps as)) []
def wayF (ps : List Int) : D→D
 | .tup [.int a, .int b, _, _] => ak (ia ps a b)
 | d => d
theorem iY (ps : List Int) (as : List Ask) : (as.map gm).map (wayF ps)=(br ps as).map ak := by
 unfold br; rw [List.map_map, List.map_map]; rfl
def md : SpD := fun ds q => ∃ c m most, ds=[ak [c, m], .int most]∧0≤c∧1≤most∧most≤1000000000000∧∀ n c' m', 1≤n→n≤most→0≤c'→q (.int n) [some (ak [c', m'])]
structure ParOk (ps : List Int) : Prop where
 lo : 1≤ps.length
 hi : ps.length≤23
 par : ∀ (i : Nat) (x : Int), ps[i]? = some x→0≤x∧x≤i
structure RoomOk (n : Nat) (least : Int) (rs : List Int) : Prop where
 len : rs.length=n
 room : ∀ (i : Nat) (x : Int), rs[i]? = some x→least≤x∧x≤1000000
theorem ParOk.tree {ps rs : List Int} {least : Int} (h : ParOk ps) (r : RoomOk ps.length least rs) (hl : 1≤least) : Tree ps rs := ⟨r.len.symm, h.lo, h.hi, h.par, fun i x e => by have := r.room i x e; omega⟩
def k8 : SpD := fun ds q => ∃ c m most, ds=[ak [c, m], .int most]∧0≤c∧1≤most∧most≤23∧∀ ps c' m', ParOk ps→(ps.length : Int)≤most→0≤c'→q (ak ps) [some (ak [c', m'])]
def nV : SpD := fun ds q => ∃ c m n least, ds=[ak [c, m], .int ((n : Nat) : Int), .int least]∧0≤c∧1≤n∧n≤23∧1≤least∧least≤2∧∀ rs c' m', RoomOk n least rs→0≤c'→q (ak rs) [some (ak [c', m'])]
def nU : SpD := fun ds q => ∃ c m n, ds=[ak [c, m], .int ((n : Nat) : Int)]∧0≤c∧1≤n∧n≤23∧∀ a b c' m', 0≤a→a≤(n : Int)→0≤b→b≤(n : Int)→a ≠ b→0≤c'→q (.tup [.int a, .int b]) [some (ak [c', m'])]
def sdUpP : SpD := fun ds q => ∃ ps rs k, ds=[ak ps, .int k]∧Tree ps rs∧0≤k∧k≤ps.length∧∀ v, Up ps k (v++[0])→q (ak v) []
def qh : SpD := fun ds q => ∃ ps rs a b rest, ds=[ak ps, .tup (.int a :: .int b :: rest)]∧Tree ps rs∧0≤a∧a≤ps.length∧0≤b∧b≤ps.length∧q (ak (ia ps a b)) []
theorem Up.split {ps : List Int} {k : Int} {u : List Int} (h : Up ps k u) : ∃ v, u=v++[0] := by
 induction h with
 | zero => exact ⟨[], rfl⟩
 | step hk h ih => obtain ⟨v, e⟩ := ih; exact ⟨_ :: v, by rw [e]; rfl⟩
theorem Up.pos {ps rs : List Int} (hT : Tree ps rs) {k : Int} {v : List Int} (h : Up ps k (v++[0])) (hk : k≤ps.length) : ∀ x∈v, 0<x := by
 intro x hx
 have := (List.pairwise_append.mp (h.dec hT hk)).2.2 x hx 0 (.head _)
 exact this
theorem f6 {p q : Int→Bool} : ∀ {l : List Int}, (∀ x∈l, p x=q x)→l.filter p=l.filter q := fun h => List.filter_congr h
theorem oR {ps rs : List Int} (hT : Tree ps rs) {a b : Int} (a0 : 0≤a) (b0 : 0≤b) (a1 : a≤ps.length) (b1 : b≤ps.length) {va vb : List Int} (hua : Up ps a (va++[0])) (hub : Up ps b (vb++[0])) :
 ia ps a b=bO (va.filter (fun x => !vb.contains x)++vb.filter (fun x => !va.contains x)) := by
 obtain ⟨w, hw, e⟩ := fi hT a0 b0 a1 b1
 have hm := hw.low hT a0 b0 a1 b1
 obtain ⟨um, hum⟩ := Up.all hT _ (eU ps a b) rfl hm.1 (by omega)
 have hp := hw.perm hT a0 b0 a1 b1 hua hub hum
 obtain ⟨ma, mb, mx⟩ := hw.meet hT a0 b0 a1 b1 hua hub
 obtain ⟨va', hsp⟩ := hum.split
 have h0 : (0 : Int)∈um := by rw [hsp]; simp
 have pa := Up.pos hT hua a1
 have pb := Up.pos hT hub b1
 have inA : ∀ x, x∈um→x∈va++[0] := fun x hx => by
  obtain ⟨uy, h1, _, h3⟩ := hua.chain hT a1 (x := eU ps a b) (y := eU ps a b) ma ma (Int.le_refl _)
  rw [← hum.det h1] at h3; exact h3 x hx
 have inB : ∀ x, x∈um→x∈vb++[0] := fun x hx => by
  obtain ⟨uy, h1, _, h3⟩ := hub.chain hT b1 (x := eU ps a b) (y := eU ps a b) mb mb (Int.le_refl _)
  rw [← hum.det h1] at h3; exact h3 x hx
 have both : ∀ x, x∈va++[0]→x∈vb++[0]→x∈um := fun x h1 h2 => by
  obtain ⟨uy, h3, h4, _⟩ := hua.chain hT a1 h1 ma (mx x h1 h2)
  rw [hum.det h3]; exact h4
 have ea : va.filter (fun x => !um.contains x)=va.filter (fun x => !vb.contains x) := f6 fun x hx => by
  have hx0 := pa x hx
  have : (x∈um)↔(x∈vb) := ⟨fun h => by rcases List.mem_append.mp (inB x h) with h | h; exact h; have := List.mem_singleton.mp h; omega, fun h => both x (List.mem_append.mpr (.inl hx)) (List.mem_append.mpr (.inl h))⟩
  have e2 : um.contains x=vb.contains x := by rw [Bool.eq_iff_iff, List.contains_iff_mem, List.contains_iff_mem]; exact this
  show (!um.contains x)=(!vb.contains x)
  rw [e2]
 have eb : vb.filter (fun x => !um.contains x)=vb.filter (fun x => !va.contains x) := f6 fun x hx => by
  have hx0 := pb x hx
  have : (x∈um)↔(x∈va) := ⟨fun h => by rcases List.mem_append.mp (inA x h) with h | h; exact h; have := List.mem_singleton.mp h; omega, fun h => both x (List.mem_append.mpr (.inl h)) (List.mem_append.mpr (.inl hx))⟩
  have e2 : um.contains x=va.contains x := by rw [Bool.eq_iff_iff, List.contains_iff_mem, List.contains_iff_mem]; exact this
  show (!um.contains x)=(!va.contains x)
  rw [e2]
 have e0 : ([(0 : Int)].filter fun x => !um.contains x)=[] := by
  rw [List.filter_cons_of_neg]; rfl
  rw [List.contains_iff_mem.mpr h0]; decide
 rw [List.filter_append, List.filter_append, List.filter_append, e0, List.append_nil, List.append_nil, ea, eb] at hp
 rw [e]
 exact iE ((bw w).trans hp) (cr w)
end L2
namespace L2
open PySem PySem.Spec PyProof.Rows
section
variable {X : Cx}
end
end L2
namespace L2
open PySem
end L2
namespace L2
open PySem PySem.Spec PyProof.Rows
section
variable {X : Cx}
variable {ow : List Bool} {e e2 : Expr} {ma mb : ME}
end
end L2
namespace L2
open PySem
end L2
namespace L2
open PySem PySem.Spec PyProof.Rows
structure RprOk (d : D) : Prop where
 lay : (toP d).canLay0=true
 dep : (toP d).depth≤40
 shw : (toP d).showable=true
 len : (toP d).shown.length≤sizeLine
section
variable {X : Cx}
theorem gM (hu : X.A.units + 64<cLine) (hg : X.A.guards=some []) : bH X (.builtin "repr") (fun xs H Q => ∃ (a : Addr) (d : D), xs=[.ref a]∧Rep H d (.ref a)∧RprOk d∧Q (.str (toP d).shown) H) := by
 intro pins s σ H xs us Q I r h
 obtain ⟨a, d, rfl, hR, ok, q⟩ := h
 obtain ⟨u, rfl, ru⟩ := du r
 cases ru
 obtain ⟨as, hr⟩ := bW I d (.ref a) (.ref a) hR rfl ok.lay
 have hd := ok.dep
 exact repr_of_reads' hr ok.shw (PyData.noDict_hsm (PyData.hasDict_of_canLay _ ok.lay)) hg (by omega) (fun _ _ e => e) (fun h' u tk hk => ⟨.str _, H, I.kept hk, ⟨u, rfl⟩, q⟩) ok.len
end
def isSeq : D→Bool
 | .lst _ => true
 | .tup _ => true
 | _ => false
def pB : List D→(D→Prop)→Prop := fun ds q => match ds with
 | [d] => isSeq d=true∧RprOk d∧q (.str (toP d).shown)
 | _ => False
theorem pD : eV (fun xs H Q => ∃ (a : Addr) (d : D), xs=[.ref a]∧Rep H d (.ref a)∧RprOk d∧Q (.str (toP d).shown) H) pB := fun G H xs ds q Q s p hf k => by
 unfold pB at hf
 split at hf
 ·rename_i d
  obtain ⟨hd, ok, hq⟩ := hf
  obtain ⟨v, rfl, p1⟩ := bq p
  cases d with
  | lst ds =>
   obtain ⟨a, xs, rfl, h1, h2⟩ := aG p1
   exact ⟨a, _, rfl, Rep.mono s _ _ p1, ok, k _ _ hq (gW _)⟩
  | tup ds =>
   have p2 := p1
   rw [Rep] at p1
   obtain ⟨a, xs, rfl, h1, h2⟩ := p1
   exact ⟨a, _, rfl, Rep.mono s _ _ p2, ok, k _ _ hq (gW _)⟩
  | _ => cases hd
 ·exact hf.elim
def fNeS : D→D→(D→Prop)→Prop := fun a b q => match a, b with
 | .str x, .str y => q (.bl (!decide (x=y)))
 | _, _ => False
theorem dNeS : DOp rNe fNeS := fun G H x y dx dy q Q s p1 p2 hf k => by
 unfold fNeS at hf
 split at hf
 ·rename_i x' y'
  have e1 : x = .str x' := by rw [Rep] at p1; exact p1
  have e2 : y = .str y' := by rw [Rep] at p2; exact p2
  subst e1; subst e2
  refine ⟨rfl, k _ _ ?_ (bh _)⟩
  have e : decide (V.str x'=V.str y')=decide (x'=y') := by
   rw [Bool.eq_iff_iff, decide_eq_true_iff, decide_eq_true_iff]; exact ⟨fun h => by injection h, fun h => by rw [h]⟩
  rw [e]; exact hf
 ·exact hf.elim
end L2
namespace L2
open PySem
structure Sml (n W : Nat) (d : D) : Prop where
 lay : (toP d).canLay0=true
 dep : (toP d).depth≤n
 shw : (toP d).showable=true
 sho : (toP d).intsShort 20=true
 wt : (toP d).weight≤W
theorem Sml.mono {n W n' W' : Nat} {d : D} (h : Sml n W d) (h1 : n≤n') (h2 : W≤W') : Sml n' W' d := ⟨h.lay, Nat.le_trans h.dep h1, h.shw, h.sho, Nat.le_trans h.wt h2⟩
theorem df {i : Int} (h : i.natAbs≤1000000000000) : Sml 0 41 (.int i) := by
 have hl : i.natAbs.log2<40 := by
  by_cases h0 : i.natAbs=0
  ·rw [h0]; decide
  ·exact (Nat.log2_lt h0).mpr (by omega)
 refine ⟨rfl, Nat.le_refl _, ?_, ?_, ?_⟩
 ·show decide (i.natAbs.log2<1920)=true
  exact decide_eq_true (by omega)
 ·show decide ((Str.ofString (toString i)).length≤20)=true
  have h1 := int_text_length_le10 (a := i) (k := 13) (by decide) (by omega)
  refine decide_eq_true ?_
  rw [ofString_length]; omega
 ·show (if i == 0 then 0 else i.natAbs.log2 + 1)≤41
  split <;> omega
theorem ii {n W : Nat} : ∀ {ds : List D}, (∀ d∈ds, Sml n W d)→PyData.canLayAll0 (toPs ds)=true∧PyData.depthAll (toPs ds)≤n∧PyData.showableAll (toPs ds)=true∧PyData.intsShortAll 20 (toPs ds)=true∧PyData.weightAll (toPs ds)≤ds.length * (W + 1)
 | [], _ => ⟨rfl, Nat.zero_le _, rfl, rfl, by show 0≤_; omega⟩
 | d :: ds, h => by
  obtain ⟨a1, a2, a3, a4, a5⟩ := ii fun x hx => h x (.tail _ hx)
  have b := h d (.head _)
  refine ⟨?_, ?_, ?_, ?_, ?_⟩
  ·rw [toPs, PyData.canLayAll0, b.lay, a1]; rfl
  ·rw [toPs, PyData.depthAll]; have := b.dep; omega
  ·rw [toPs, PyData.showableAll, b.shw, a3]; rfl
  ·rw [toPs, PyData.intsShortAll, b.sho, a4]; rfl
  ·rw [toPs, PyData.weightAll, List.length_cons, Nat.succ_mul]; have := b.wt; omega
theorem fh {n W N : Nat} {ds : List D} (h : ∀ d∈ds, Sml n W d) (hl : ds.length≤N) : Sml (n + 1) (N * (W + 1)) (.lst ds) := by
 obtain ⟨a1, a2, a3, a4, a5⟩ := ii h
 have hm := Nat.mul_le_mul_right (W + 1) hl
 refine ⟨?_, ?_, ?_, ?_, ?_⟩ <;> rw [toP]
 ·rw [PyData.canLay0]; exact a1
 ·rw [PyData.depth]; omega
 ·rw [PyData.showable]; exact a3
 ·rw [PyData.intsShort]; exact a4
 ·rw [PyData.weight]; omega
theorem g_ {n W N : Nat} {ds : List D} (h : ∀ d∈ds, Sml n W d) (hl : ds.length≤N) : Sml (n + 1) (N * (W + 1)) (.tup ds) := by
 obtain ⟨a1, a2, a3, a4, a5⟩ := ii h
 have hm := Nat.mul_le_mul_right (W + 1) hl
 refine ⟨?_, ?_, ?_, ?_, ?_⟩ <;> rw [toP]
 ·rw [PyData.canLay0]; exact a1
 ·rw [PyData.depth]; omega
 ·rw [PyData.showable]; exact a3
 ·rw [PyData.intsShort]; exact a4
 ·rw [PyData.weight]; omega
theorem Sml.rpr {n W : Nat} {d : D} (h : Sml n W d) (hn : n≤40) (hW : W≤700000) : RprOk d := by
 have h1 := h.dep; have h2 := h.wt
 refine ⟨h.lay, by omega, h.shw, ?_⟩
 have h3 := PyData.shown_le 20 (by decide) (toP d) (PyData.leavesShort_of_canLay0 20 _ h.lay h.sho)
 refine Nat.le_trans h3 ?_
 show (20 + 2) * (toP d).weight + 20≤2 ^ 24
 have : (22 : Nat) * (toP d).weight≤22 * 700000 := Nat.mul_le_mul_left 22 (Nat.le_trans h2 hW)
 omega
theorem lM {ps rs : List Int} (hT : Tree ps rs) : Sml 2 5000 (aO ps rs) := by
 have h1 := hT.hi; have h2 := hT.len
 have a : ∀ l : List Int, l.length≤23→(∀ z∈l, z.natAbs≤1000000000000)→Sml 1 (23 * 42) (ak l) := fun l hl hz => fh (fun d hd => by obtain ⟨z, hm, rfl⟩ := List.mem_map.mp hd; exact df (hz z hm)) (by rw [List.length_map]; exact hl)
 have hp := a ps h1 fun z hz => by obtain ⟨i, hi⟩ := List.getElem?_of_mem hz; have := hT.par i z hi; have := (List.getElem?_eq_some_iff.mp hi).1; omega
 have hr := a rs (by omega) fun z hz => by obtain ⟨i, hi⟩ := List.getElem?_of_mem hz; have := hT.room i z hi; omega
 exact (g_ (N := 2) (ds := [ak ps, ak rs]) (fun d hd => by
  rcases List.mem_cons.mp hd with rfl | hd
  ·exact hp
  ·rw [List.mem_singleton.mp hd]; exact hr) (Nat.le_refl _)).mono (by decide) (by decide)
theorem lD {ps : List Int} {as : List Ask} (hp : ps.length≤23) (ha : AsksOk ps as) : Sml 2 6000 (cj as) := by
 refine (fh (n := 1) (W := 4 * 42) (N := 30) (fun d hd => ?_) (by rw [List.length_map]; exact ha.len)).mono (by decide) (by decide)
 obtain ⟨a, hm, rfl⟩ := List.mem_map.mp hd
 have hok := ha.ok a hm
 have e := hok.ends
 have e1 := e.a0; have e2 := e.a1; have e3 := e.b0; have e4 := e.b1; have e5 := hok.s0; have e6 := hok.s1; have e7 := hok.w0; have e8 := hok.w1
 refine g_ (N := 4) (fun d hd => ?_) (Nat.le_refl _)
 simp only [List.mem_cons, List.not_mem_nil, or_false] at hd
 rcases hd with rfl | rfl | rfl | rfl
 ·exact df (by omega)
 ·exact df (by omega)
 ·exact df (by omega)
 ·exact df (by omega)
theorem ki : Sml 0 41 .non := ⟨rfl, Nat.le_refl _, rfl, rfl, Nat.zero_le _⟩
theorem qE (b : Bool) : Sml 0 41 (.bl b) := ⟨rfl, Nat.le_refl _, rfl, rfl, Nat.zero_le _⟩
theorem oy : Sml 0 41 (.str "1") := ⟨by decide +kernel, Nat.le_refl _, rfl, rfl, by decide +kernel⟩
structure BentOk (x : D) : Prop where
 pl : pln x=true
 len : ∀ ds, x = .lst ds→ds.length≤100
 sm : Sml 3 20000 x
theorem ca {ds : List D} (h : ∀ d∈ds, Sml 1 100 d∧pln d=true) (hl : ds.length≤100) : BentOk (.lst ds) :=
 ⟨by rw [pln]; exact fe fun d hd => (h d hd).2, fun ds e => by cases e; exact hl, (fh (N := 100) (fun d hd => (h d hd).1) hl).mono (by decide) (by decide)⟩
theorem dN {z : Int} (h : z.natAbs≤1000000000000) : Sml 1 100 (.int z)∧pln (.int z)=true := ⟨(df h).mono (by decide) (by decide), rfl⟩
end L2
namespace L2
open PySem PySem.Spec PyProof.Rows
section
variable {κ : Type} [DecidableEq κ]
end
section
variable {P : Program} {w : World} {H : Hp} {h : Heap} {a : Addr}
end
section
variable {X : Cx} {pins : List (Addr×Obj)} {σ : St} {H : Hp} {s : Shared} {a : Addr} {y v : V} {u r : Value} {o : Option V} {A : Around} {E : Value→Shared→Prop}
end
section
variable {X : Cx} {pins : List (Addr×Obj)} {σ : St} {H : Hp} {s : Shared} {a : Addr} {kvs : List (Key×V)} {k : Key} {u : Value} {A : Around} {E : Value→Shared→Prop}
end
section
variable {X : Cx} {o i e value : Expr} {pos pos' tpos : Pos} {td ty tv : TE}
end
section
variable {X : Cx} {pos : Pos}
end
section
variable {X : Cx} {pins : List (Addr×Obj)} {σ : St} {H : Hp} {s : Shared} {a : Addr} {y d : V} {u r : Value} {o : Option V} {A : Around} {E : Value→Shared→Prop}
end
section
variable {X : Cx} {o e f : Expr} {apos cpos : Pos} {td ty tx : TE}
end
section
variable {X : Cx} {pins : List (Addr×Obj)} {σ : St} {H : Hp} {s : Shared} {a : Addr} {kvs : List (Key×V)} {A : Around} {E : Value→Shared→Prop}
end
section
variable {X : Cx} {pins : List (Addr×Obj)} {σ : St} {H : Hp} {s : Shared} {a : Addr} {y : V} {u : Value} {A : Around} {E : Value→Shared→Prop}
end
section
variable {C : Ctx} {ow : List Bool} {G : Hp} {ρ : DSt} {σ : St} {H : Hp} {pd : List (D×V)} {O : Own}
end
section
variable {X : Cx} {M : Md} {ow : List Bool} {a b c e : Expr} {ma mb mc : ME} {pos : Pos}
end
section
variable {C : Ctx} {ow : List Bool} {G : Hp} {ρ : DSt} {σ : St} {H : Hp} {pd : List (D×V)} {O : Own}
end
section
variable {X : Cx} {ow : List Bool} {a b e : Expr} {pos : Pos} {ma mb : MN0}
end
section
variable {X : Cx} {M : Md} {ow : List Bool} {i : Nat} {a b e : Expr} {pos : Pos} {mp : MPt} {mz : MN0} {ma : ME}
end
section
variable {X : Cx} {M : Md} {i : Nat} {pos : Pos} {mg : MG} {m : MS}
end
end L2
namespace L2
open PySem
end L2
namespace L2
open PySem PySem.Spec PyProof.Rows
section
variable {X : Cx}
end
section
variable {X : Cx} {pins : List (Addr×Obj)} {σ : St} {H : Hp} {s : Shared}
end
section
variable {X : Cx} {ow : List Bool} {pos : Pos}
def nK : R2 := fun x y H Q => ∃ a xs b, x = .ref a∧H a=some (.lst xs)∧y = .ref b∧H b=some (.lst [])∧Q (.bl (!xs.isEmpty)) H
def l6 : R2 := fun x y H Q => ∃ a xs b, x = .ref a∧H a=some (.lst xs)∧y = .ref b∧H b=some (.lst [])∧Q (.bl xs.isEmpty) H
theorem lQ (hu : X.A.units + 64<cLine) : OpR X (compareOp .NotEq) nK := by
 intro pins s σ H x y v u Q I rx ry h
 obtain ⟨a, xs, b, rfl, ha, rfl, hb, q⟩ := h
 cases rx; cases ry
 obtain ⟨_, its, m, rv, e1⟩ := (show aS X.prog X.w H s.heap a (.lst xs) from I.hok a _ ha)
 obtain ⟨_, its', m', rv', e1'⟩ := (show aS X.prog X.w H s.heap b (.lst []) from I.hok b _ hb)
 cases rv'
 have i1 : s.heap.IsList a its.toArray := ⟨_, e1, rfl, m, rfl⟩
 have i2 : s.heap.IsList b ([] : List Value).toArray := ⟨_, e1', rfl, m', rfl⟩
 cases rv with
 | nil =>
  have z := SeqAt.RcNeAt.lists (A := X.A) (e := fun _ => true) i1 i2 rfl (by omega) (fun j j1 j2 => absurd j1 (Nat.not_lt_zero _))
  exact z _ _ _ _ ⟨.bl false, H, I, rfl, q⟩
 | cons r t => exact SeqAt.RcNeAt.lists_lengths i1 i2 (by simp) (by omega) _ _ _ _ ⟨.bl true, H, I, rfl, q⟩
theorem iL (hu : X.A.units + 64<cLine) : OpR X (compareOp .Eq) l6 := by
 intro pins s σ H x y v u Q I rx ry h
 obtain ⟨a, xs, b, rfl, ha, rfl, hb, q⟩ := h
 cases rx; cases ry
 obtain ⟨_, its, m, rv, e1⟩ := (show aS X.prog X.w H s.heap a (.lst xs) from I.hok a _ ha)
 obtain ⟨_, its', m', rv', e1'⟩ := (show aS X.prog X.w H s.heap b (.lst []) from I.hok b _ hb)
 cases rv'
 have i1 : s.heap.IsList a its.toArray := ⟨_, e1, rfl, m, rfl⟩
 have i2 : s.heap.IsList b ([] : List Value).toArray := ⟨_, e1', rfl, m', rfl⟩
 cases rv with
 | nil =>
  have z := SeqAt.RcAt.lists (A := X.A) (e := fun _ => true) i1 i2 rfl (by omega) (fun j j1 j2 => absurd j1 (Nat.not_lt_zero _))
  exact z _ _ _ _ ⟨.bl true, H, I, rfl, q⟩
 | cons r t => exact SeqAt.RcAt.lists_lengths i1 i2 (by simp) (by omega) _ _ _ _ ⟨.bl false, H, I, rfl, q⟩
def mT : D→D→(D→Prop)→Prop := fun a b q => match a, b with
 | .lst ds, .lst [] => q (.bl (!ds.isEmpty))
 | _, _ => False
def nD : D→D→(D→Prop)→Prop := fun a b q => match a, b with
 | .lst ds, .lst [] => q (.bl ds.isEmpty)
 | _, _ => False
theorem iy {G : Hp} : ∀ {ds : List D} {xs : List V}, Reps G ds xs→xs.isEmpty=ds.isEmpty
 | [], xs, h => by rw [Reps] at h; subst h; rfl
 | d :: ds, xs, h => by rw [Reps] at h; obtain ⟨v, vs, rfl, _, _⟩ := h; rfl
theorem q_ : DOp nK mT := fun G H x y dx dy q Q s p1 p2 hf k => by
 unfold mT at hf
 split at hf
 ·obtain ⟨a, xs, rfl, h1, h2⟩ := aG p1
  obtain ⟨b, ys, rfl, h3, h4⟩ := aG p2
  rw [Reps] at h4; subst h4
  exact ⟨a, xs, b, rfl, s _ _ h1, rfl, s _ _ h3, by rw [iy h2]; exact k _ _ hf (bh _)⟩
 ·exact hf.elim
theorem li : DOp l6 nD := fun G H x y dx dy q Q s p1 p2 hf k => by
 unfold nD at hf
 split at hf
 ·obtain ⟨a, xs, rfl, h1, h2⟩ := aG p1
  obtain ⟨b, ys, rfl, h3, h4⟩ := aG p2
  rw [Reps] at h4; subst h4
  exact ⟨a, xs, b, rfl, s _ _ h1, rfl, s _ _ h3, by rw [iy h2]; exact k _ _ hf (bh _)⟩
 ·exact hf.elim
end
section
open AutoSeq1 (wpAny_loadPart')
open MeetsSeq MeetsSeq2 MeetsSeq3
end
section
variable {prog : Program} {w : World} {A : Around} {E : Value→Shared→Prop} {s : Shared}
end
section
variable {X : Cx}
end
section
variable {X : Cx} {ow : List Bool} {pos p1 p2 p3 p4 : Pos} {j1 j2 j3 j4 : Nat}
end
end L2
namespace L2
open PySem
end L2
namespace L2
open PySem PySem.Spec PyProof.Rows
section
variable {X : Cx} {ow : List Bool} {a b : Expr} {ma mb : DSt→(Int→Prop)→Prop} {pos : Pos}
end
section
variable {C : Ctx} {ow : List Bool} {G G' : Hp} {ρ : DSt} {σ : St} {H H' : Hp} {pd : List (D×V)} {O O' : Own}
end
section
variable {X : Cx} {ow : List Bool} {tg iter : Expr} {ifs : List Expr} {pos pos' : Pos} {mi : MA} {mg : MG} {scope : Scope} {cl : List (Str×Addr)}
end
section
variable {X : Cx}
theorem iF : bH X (.type "range") (fun xs H Q => ∃ i j : Int, xs=[.int i, .int j]∧∀ p, H p=none→Q (.ref p) (upd H p (.rng i j))) := by
 intro pins s σ H xs us Q I r h
 obtain ⟨i, j, rfl, q⟩ := h
 obtain ⟨u, v, rfl, ⟨t, rfl⟩, ⟨t', rfl⟩⟩ := j6 r
 refine call_range_2 ⟨.ref s.heap.objs.size, _, I.laid (a := s.heap.objs.size) (o := .rng i j) (fun _ _ e => Heap.get?_push_of_some _ e) (Nat.le_refl _) ⟨_, _, _, Heap.get?_push_size _ rfl⟩, rfl, q _ (I.hok.fresh (Nat.le_refl _))⟩
theorem fD (hc : X.calm=true) : bH X (.type "list") (fun xs H Q => ∃ (r : Addr) (i j : Int), xs=[.ref r]∧H r=some (.rng i j)∧0≤i∧i≤j∧j≤1000∧∀ p, H p=none→Q (.ref p) (upd H p (.lst ((ji i (j - i).toNat).map V.int)))) := by
 intro pins s σ H xs us Q I r h
 obtain ⟨a, lo, j, rfl, ha, h0, hij, h1, q⟩ := h
 obtain ⟨u, rfl, ru⟩ := du r
 cases ru
 obtain ⟨t, u, v, e⟩ := (show aS X.prog X.w H s.heap a (.rng lo j) from I.hok a _ ha)
 refine call_list_range (n := (j - lo).toNat) (I.ok.hd hc) e (small_one (by omega) (by omega) (by omega) (by omega)) (by rw [rangeSize_one]; split <;> omega) (by omega) fun h' tk acc' c' hk hS hacc => ?_
 refine ⟨.ref s.heap.objs.size, _, I.laid (a := s.heap.objs.size) (o := .lst ((ji lo (j - lo).toNat).map V.int)) hk (Nat.le_refl _) ?_, rfl, q _ (I.hok.fresh (Nat.le_refl _))⟩
 have hl : ((ji lo (j - lo).toNat).map V.int).length=(j - lo).toNat := by simp [ji]
 refine ⟨Nat.le_of_lt (bC (by rw [hl]; omega)), acc'.toList, c', eR (by rw [hl]; simpa using hacc.1.symm) (fun i x w e1 e2 => ?_), by simpa using hS⟩
 have e3 := hacc.2 i w (by simpa using e2)
 obtain ⟨t', rfl⟩ := e3
 rw [List.getElem?_map] at e1
 unfold ji at e1
 rw [List.getElem?_map] at e1
 have hi : i<(j - lo).toNat := by
  cases z : (List.range (j - lo).toNat)[i]? with
  | none => rw [z] at e1; cases e1
  | some k => have := (List.getElem?_eq_some_iff.mp z).1; simpa using this
 rw [List.getElem?_range hi] at e1
 have e1' : V.int (lo + (i : Int))=x := Option.some.inj e1
 subst e1'
 exact ⟨t', by simp⟩
def rz (m : MA) : ME := fun ρ q => m ρ fun ds ρ' => match ds with
 | [.int i, .int j] => (0≤i∧i≤j∧j≤1000)∧q (.lst (e9 i (j - i).toNat)) ρ'
 | _ => False
theorem gF (lo : Int) (n : Nat) : e9 lo n=(ji lo n).map D.int := by unfold e9 ji; rw [List.map_map]; rfl
variable {a b : Expr} {mr : MA} {pos : Pos}
theorem nQ {ow : List Bool} {x y : Str} {p1 p2 pos2 : Pos} (hc : X.calm=true) (hgl : Gl X x) (hml : X.mg x=none) (hvl : bootBuiltins x=some (.type "list")) (hgr : Gl X y) (hmr : X.mg y=none) (hvr : bootBuiltins y=some (.type "range")) (ha : QA X ow [a, b] mr)
 (hn1 : x ≠ "__name__" := by decide) (hd1 : (x == ("__debug__" : Str))=false := by decide) (hn2 : y ≠ "__name__" := by decide) (hd2 : (y == ("__debug__" : Str))=false := by decide)
 (hs1 : starEach [a, b] X.env=(false, eval a X.env) :: starEach [b] X.env := by rfl) (hs3 : (backTo pos2 (starEach [b] X.env)).any (·.1)=false := by rfl) (hs2 : starEach [.Call (.Name y p2) [a, b] [] pos2] X.env=[(false, eval (.Call (.Name y p2) [a, b] [] pos2) X.env)] := by rfl) :
 QF X ow (.Call (.Name x p1) [.Call (.Name y p2) [a, b] [] pos2] [] pos) (rz mr) := by
 obtain ⟨t, p, s⟩ := ha
 refine ⟨_, de (fD hc) hgl hml hvl (ba (de iF hgr hmr hvr p hn2 hd2 hs1 hs3) b3 hs2) hn1 hd1 hs2 (by rfl), fun C G ρ σ H pd q Q r hm k => s C G ρ σ H pd _ _ r hm fun ds ρ' vs G' H' hq z kp r' p hn => ?_⟩
 split at hq
 ·rename_i i j
  obtain ⟨v, u, rfl, p1, p2⟩ := cM p
  rw [au p1, au p2]
  refine ⟨i, j, rfl, fun b hb => ⟨b, i, j, rfl, aA, hq.1.1, hq.1.2.1, hq.1.2.2, fun l hl => ?_⟩⟩
  obtain ⟨O, r'⟩ := r'
  obtain ⟨r2, z2⟩ := r'.new hb (.rng i j)
  refine k _ ρ' _ _ _ hq.2 (z.trans z2) kp (r2.newL hl ?_ ?_)
  ·rw [gF]; exact bj _
  ·rw [gF]; exact c0 _
 ·exact hq.elim
end
section
variable {X : Cx} {tg : Expr}
variable {ow : List Bool} {a : Expr} {mr : MA} {pos : Pos}
end
section
variable {X : Cx}
open PySem.Builtin.Str (partsBetween occurrences)
variable {ow : List Bool} {e a b : Expr} {ma mb : ME}
end
section
variable {X : Cx} {tg : Expr}
variable {ow : List Bool} {e : Expr} {ma : ME}
end
end L2
namespace L2
open PySem PySem.Spec PyProof.Rows
section
variable {X : Cx}
end
end L2
namespace L2
open PySem
end L2
namespace L2
open PySem PySem.Spec PyProof.Rows
section
variable {prog : Program} {w : World} {A : Around} {E : Value→Shared→Prop} {s : Shared}
end
section
variable {X : Cx}
end
end L2
namespace L2
open PySem
end L2
namespace L2
open PySem PySem.Spec PyProof.Rows
section
variable {X : Cx} {ow : List Bool} {a b : Expr} {mex : MEX} {mb : ME} {pos : Pos}
end
section
variable {X : Cx} {pos p1 q1 : Pos} {n1 n2 : Nat} {k1 z : Int} {ow : List Bool}
end
section
variable {X : Cx} {ow : List Bool} {a b : Expr} {ma mb : ME} {pos : Pos}
end
section
variable {K : PySem.W.Frag} {mg : Str→Option Value} {n : Str} {st : Stmt} {ps : List Str} {f : Addr} {d : FuncData}
structure FT (K : PySem.W.Frag) (mg : Str→Option Value) (n : Str) (st : Stmt) (ps : List Str) (f : Addr) (d : FuncData) : Prop where
 F : Fun K n n st f d
 b : eY K d ps []
 m : mg n=some (.ref f)
structure FH (K : PySem.W.Frag) (n : Str) (st : Stmt) (f : Addr) (d : FuncData) : Prop where
 a : PySem.W.nsIn K mainGlobals n=some (some (.ref f))
 F : Fun K n n st f d
theorem aQ {oc : Value} {od an : Option Addr} {osl : Array (Option Value)} {kV doc pm cdv ct : Value} (a : PySem.W.nsIn K mainGlobals n=some (some (.ref f))) (l : K.lookup f=some ⟨oc, od, .func (PySem.W.fnOf n n (cx st) (bT st) (ai st) .none kV doc pm an cdv ct), osl⟩)
 (c : PySem.W.codeIn K cdv n=true) (k : PySem.W.keepIn K (.ref f)=true) : FH K n st f (PySem.W.fnOf n n (cx st) (bT st) (ai st) .none kV doc pm an cdv ct) := ⟨a, p9 l c k⟩
theorem FH.ft {h : Heap} (z : FH K n st f d) (X : K.In h) (G : h.Ns mainGlobals mg)
 (hb : ∀ (kV doc pm : Value) (an : Option Addr) (cdv ct : Value) (us : List Value), us.length=ps.length→bindArgs (PySem.W.fnOf n n (cx st) (bT st) (ai st) .none kV doc pm an cdv ct) ⟨us, []⟩=pure (ps.zip us)) : FT K mg n st ps f d := ⟨z.F, z.F.binds hb, PySem.W.mg_of X G z.a⟩
theorem aP {N P : List Str} {sc : Scope} (a : sc.kind = .function := by rfl) (b : sc.isCoroutine=false := by rfl) (c : sc.isGenerator=false := by rfl) (d : N.Nodup := by decide +kernel) (e : N.take P.length=P := by rfl)
 (g : ∀ x∈P, sc.names.lookup x=some .local∨sc.names.lookup x=some .cell := by decide +kernel) (h : ∀ y∈sc.names, y.2 ≠ .free := by decide +kernel) : FnScope N P sc := ⟨a, b, c, d, e, g, h⟩
end
section
variable {X : Cx} {ow : List Bool} {k j : Nat} {f : Addr} {fd : FuncData} {ps : List Str} {mu : List Bool} {sd : SpD} {sx : SpX} {x : Str} {st : Stmt} {ks : List AK} {e : Expr} {es : List Expr} {mr : MA} {pos p' : Pos}
theorem ag (F : FnOk X.prog X.w X.K X.mg X.base CX0 k f fd ps (a7 mu false sd)) (hr : Room j X.A) (t : FT X.K X.mg x st ps f fd) (ha : QAk X ow ks (e :: es) mr) (hj : k≤j := by decide) (hg : Gl X x := by rfl) (hmu : mu=ks.map AK.isM := by rfl) (nd : (ar ks).Nodup := by decide) (hw : ∀ i∈ar ks, ow[i]? = some true := by decide) (hdb : (x == ("__debug__" : Str))=false := by decide)
 (he : starEach (e :: es) X.env=(false, eval e X.env) :: starEach es X.env := by rfl) (hpl : (backTo pos (starEach es X.env)).any (·.1)=false := by rfl) : QE X ow (.Call (.Name x p') (e :: es) [] pos) (ke ks sd mr) := oQ F (hr.mono hj) hg t.m t.F.kp t.b ha hmu nd hw hdb he hpl
theorem aX (F : FnOk X.prog X.w X.K X.mg X.base CX0 k f fd ps (a7 mu true sd)) (hr : Room j X.A) (t : FT X.K X.mg x st ps f fd) (ha : QAk X ow ks (e :: es) mr) (hj : k≤j := by decide) (hg : Gl X x := by rfl) (hmu : mu=ks.map AK.isM := by rfl) (nd : (ar ks).Nodup := by decide) (hw : ∀ i∈ar ks, ow[i]? = some true := by decide) (hdb : (x == ("__debug__" : Str))=false := by decide)
 (he : starEach (e :: es) X.env=(false, eval e X.env) :: starEach es X.env := by rfl) (hpl : (backTo pos (starEach es X.env)).any (·.1)=false := by rfl) : QF X ow (.Call (.Name x p') (e :: es) [] pos) (ke ks sd mr) := oN F (hr.mono hj) hg t.m t.F.kp t.b ha hmu nd hw hdb he hpl
end
section
variable {K : PySem.W.Frag} {C a N : Addr} {dd nd : Option Addr} {nm qn x : Str} {bs bm sub : List Value} {hd ab : Bool} {sn : List Str} {col : Option Bool} {k0 k1 k2 k3 k5 ini : Option Value} {no : Value} {es : Array DictEntry} {np : Nat} {nl : Array (Option Value)}
end
end L2
namespace L2
open PySem PySem.Spec PyProof.Rows PySem.W Att
section
variable {prog : Program} {w : World} {A : Around} {E : Value→Shared→Prop} {s : Shared}
variable {h₀ : Heap} {L : Addr} {m : Str→Option Value} {news : List (Addr×Obj)}
end
section
variable {X : Cx} {pins : List (Addr×Obj)} {σ : St} {H : Hp} {s : Shared} {args : Arguments} {body : Expr} {scope : Scope} {pos : Pos} {c P : Addr} {clos : List (Str×Addr)}
end
section
variable {prog : Program} {w : World} {A : Around} {s : Shared} {X : Cx} {args : Arguments} {scope : Scope} {clos : List (Str×Addr)} {cv ctv : Value} {f cc p : Addr} {x y : Str} {p1 p2 p3 p4 : Pos}
end
section
variable {X : Cx} {pins : List (Addr×Obj)} {σ : St} {H : Hp} {s : Shared} {args : Arguments} {scope : Scope} {clos : List (Str×Addr)} {cv ctv : Value} {f cc p r : Addr} {x y : Str} {p1 p2 p3 p4 : Pos} {n : Nat} {ns : List Int} {t u v : Tok} {Q : Value→Shared→Prop}
end
section
variable {X : Cx} {e : Expr} {te : TE} {x y : Str} {j : Nat} {c P : Addr} {args : Arguments} {scope : Scope} {p1 p2 p3 p4 q1 q2 q3 lp kp pos : Pos}
end
end L2
namespace L2
open PySem PySem.Spec PyProof.Rows PySem.W
section
variable {C : Ctx} {ow : List Bool} {G : Hp} {ρ : DSt} {σ : St} {H H2 : Hp} {pd : List (D×V)} {O : Own}
end
section
variable {X : Cx} {ow : List Bool} {e : Expr} {me : ME} {x y : Str} {j : Nat} {c P : Addr} {args : Arguments} {scope : Scope} {p1 p2 p3 p4 q1 q2 q3 lp kp pos : Pos} {k : Nat}
end
end L2
namespace L2
open PySem
end L2
namespace L2
open PySem PySem.Spec PyProof.Rows PySem.W
end L2
namespace L2
open PySem
end L2
namespace L2
open PySem PySem.Spec PyProof.Rows
section
variable {X : Cx} {M : Md} {a b c e : Expr} {ma mb mc : ME} {pos pos' : Pos}
end
end L2
namespace L2
open PySem
def cC (ws : List (List Int)) (cu : List Int) : Bool := ws.all fun w => w.any fun t => cu.contains t
theorem jB {ws : List (List Int)} {cu : List Int} : cC ws cu=true↔∀ w∈ws, ∃ t∈w, t∈cu := by
 unfold cC
 rw [List.all_eq_true]
 constructor
 ·intro h w hw
  obtain ⟨t, t1, t2⟩ := List.any_eq_true.mp (h w hw)
  exact ⟨t, t1, by simpa using t2⟩
 ·intro h w hw
  obtain ⟨t, t1, t2⟩ := h w hw
  exact List.any_eq_true.mpr ⟨t, t1, by simpa using t2⟩
end L2
namespace L2
open PySem PySem.Spec PyProof.Rows
section
variable {X : Cx}
end
section
variable {X : Cx} {o e : Expr} {apos cpos : Pos} {te : TE} {a : Addr} {kv : List (Str×Int)}
end
section
variable {X : Cx} {ow : List Bool} {b : Expr} {mb : ME} {pos apos cpos : Pos}
end
theorem gt {G : Hp} : ∀ {ds : List D} {xs : List V} {k : Nat} {d : D}, Reps G ds xs→ds[k]? = some d→∃ v, xs[k]? = some v∧Rep G d v
 | [], _, _, _, _, h => by cases h
 | d :: ds, xs, k, d', h, e => by
  rw [Reps] at h
  obtain ⟨v, vs, rfl, h1, h2⟩ := h
  cases k with
  | zero => cases e; exact ⟨v, rfl, h1⟩
  | succ k =>
   obtain ⟨v', q1, q2⟩ := gt (k := k) (d := d') h2 (by simpa using e)
   exact ⟨v', by simpa using q1, q2⟩
theorem fH {G : Hp} : ∀ {ds : List D} {xs : List V}, Reps G ds xs→∀ k : Nat, Reps G (ds.eraseIdx k) (xs.eraseIdx k)
 | [], xs, h, k => by rw [Reps] at h; subst h; rw [List.eraseIdx_nil, List.eraseIdx_nil]; exact aV
 | d :: ds, xs, h, k => by
  rw [Reps] at h
  obtain ⟨v, vs, rfl, h1, h2⟩ := h
  cases k with
  | zero => exact h2
  | succ k => exact aT h1 (fH h2 k)
theorem fL : ∀ {ds : List D}, imms ds=true→∀ k : Nat, imms (ds.eraseIdx k)=true
 | [], h, k => by rw [List.eraseIdx_nil]; exact h
 | d :: ds, h, k => by
  rw [imms, Bool.and_eq_true] at h
  cases k with
  | zero => exact h.2
  | succ k => show imms (d :: ds.eraseIdx k)=true; rw [imms, h.1, fL h.2 k]; rfl
section
variable {X : Cx}
def rPopD : V→List V→Hp→VK→Prop := fun x vs H Q => ∃ (l : Addr) (xs : List V) (k : Int) (v : V), x = .ref l∧vs=[.int k]∧H l=some (.lst xs)∧0≤k∧xs[k.toNat]? = some v∧Q v (upd H l (.lst (xs.eraseIdx k.toNat)))
theorem o3 : MtM X "list.pop" rPopD := by
 (try refine ⟨?_⟩); intro pins s σ H x vs v us Q I rx rv h
 obtain ⟨l, xs, k, vv, rfl, rfl, hH, k0, hv, q⟩ := h
 cases rx
 obtain ⟨u, rfl, ru⟩ := rv.one
 obtain ⟨t, rfl⟩ := ru
 obtain ⟨z, its, n, r, hl, e⟩ := I.lstM hH
 obtain ⟨w', hw, rw'⟩ := r.get hv
 have hk : k.toNat<its.length := (List.getElem?_eq_some_iff.mp hw).1
 have hz : its.length≤sizeLine := by
  have := r.length
  rw [← this]; exact z
 refine call_meets F.slot_list_pop ⟨_, e, rfl⟩ F.entry_list_pop (F.args_list_pop_2 _ _)
  (MeetsSeq.list_pop_at l its.toArray n k t k.toNat w' ?_ ?_ ?_ (by rw [List.size_toArray]; exact hz)) ⟨e, ?_⟩
 ·have hz2 : its.length≤2 ^ 24 := hz
  unfold Builtin.List.listFitsIndex
  simp
  omega
 ·unfold seqIndex?
  simp [show ¬ k<0 by omega]
  omega
 ·rw [List.getElem?_toArray]; exact hw
 ·refine ⟨vv, _, I.lset (its' := its.eraseIdx k.toNat) hH e ?_ ?_ ?_, rw', q⟩
  ·rw [List.eraseIdxIfInBounds_toArray]
  ·exact r.eraseIdx _
  ·have := List.length_eraseIdx_le (l := xs) (i := k.toNat)
   omega
end
section
variable {X : Cx} {M : Md} {e : Expr} {ma : ME} {pos : Pos}
def pE (i : Nat) (m : ME) : ME := fun ρ q => match ρ[i]? with
 | some (some (.lst _)) => m ρ fun d ρ1 => match ρ1[i]? with
  | some (some (.lst ds)) => ∃ (dv : D) (k : Int), d = .int k∧imms ds=true∧0≤k∧ds[k.toNat]? = some dv∧q dv (ρ1.set i (some (.lst (ds.eraseIdx k.toNat))))
  | _ => False
 | _ => False
theorem ph {ow : List Bool} {i : Nat} {x : Str} {apos cpos npos : Pos} (hN : X.N[i]? = some x) (he : QE X ow e ma) (ho : ow[i]? = some true := by decide)
 (hv : Vis X.env.scope x := by first | exact Or.inl rfl | exact Or.inr (Or.inl rfl) | exact Or.inr (Or.inr rfl)) (hd : (x == ("__debug__" : Str))=false := by decide) (hcd : (x == ("__classdict__" : Str))=false := by decide)
 (hbase : attributeBase (.Name x npos) "pop" X.env (eval (.Name x npos) X.env)=eval (.Name x npos) X.env := by rfl)
 (hfew : ((backTo cpos (starEach [e] X.env)).all (fun x => !x.1)&&(backToKw cpos (keywordEach [] X.env)).all (fun x => x.1.isSome)
  && decide ([e].length + ([] : List Keyword).length + (if ([] : List Keyword).isEmpty then 0 else 1)<30))=true := by rfl)
 (hline : (apos.endLine == cpos.line)=true := by rfl) (hst : starEach [e] X.env=[(false, eval e X.env)] := by rfl) :
 QE X ow (.Call (.Attribute (.Name x npos) "pop" apos) [e] [] cpos) (pE i ma) := by
 obtain ⟨t, p, s⟩ := he
 refine ⟨_, pL PySem.F.plainAttrs_list PySem.F.slot_list_pop PySem.F.type_list_pop o3 (eC hN hv hd hcd) (ba p b3 hst) hbase hfew hline hst (by rfl), fun C G ρ σ H pd q Q r h k => ?_⟩
 unfold pE at h
 split at h
 ·rename_i ds e1
  obtain ⟨O, ro⟩ := r
  obtain ⟨a, xs, h1, h2, _, _⟩ := ro.write e1 ho
  refine ⟨.ref a, h1, .inl ⟨rfl, xs, SqL.of h2⟩, ?_⟩
  refine s C G ρ σ H pd _ _ ⟨O, ro⟩ h fun d ρ' v G' H' hq z kp r' pd' => ?_
  split at hq
  ·rename_i ds' e2
   obtain ⟨dv, kk, rfl, him, k0, hdv, hq⟩ := hq
   obtain ⟨O', r'⟩ := r'
   obtain ⟨a', xs', g1, g2, g3, g4⟩ := r'.write e2 ho
   rw [h1] at g1; cases g1
   have hr := Seps.imm _ _ _ _ him g3
   obtain ⟨vv, hv1, hv2⟩ := gt hr hdv
   refine ⟨a, xs', kk, vv, rfl, by rw [au pd'], g2, k0, hv1, ?_⟩
   exact k _ _ _ G' _ hq z (fun j hj => (List.getElem?_set_ne (fun (z : i=j) => hj (z ▸ ho))).trans (kp j hj)) ⟨O', g4 _ _ (Reps.sep _ _ _ _ (fL him _) (fH hr _))⟩ hv2
  ·exact hq.elim
 ·exact h.elim
end
section
variable {X : Cx}
end
section
variable {X : Cx} {pos : Pos}
end
section
variable {X : Cx} {M : Md} {a b c : Expr} {ma mb mc : ME} {pos : Pos}
end
end L2
namespace L2
open PySem
theorem jC (xs : Array Nat) (j : Nat) (up : xs.toList.Pairwise (· < ·)) : ∀ fuel lo hi, hi - lo≤fuel→lo≤hi→hi≤xs.size→(∀ i x, i<lo→xs[i]? = some x→x<j)→(∀ i x, hi≤i→xs[i]? = some x→j≤x) →
 (SetTable.below.go xs j fuel lo hi≤xs.size∧(∀ i x, i<SetTable.below.go xs j fuel lo hi→xs[i]? = some x→x<j)∧∀ i x, SetTable.below.go xs j fuel lo hi≤i→xs[i]? = some x→j≤x)
 | 0, lo, hi, h1, h2, h3, h4, h5 => by
  have e : lo=hi := by omega
  subst e
  exact ⟨h3, h4, h5⟩
 | fuel + 1, lo, hi, h1, h2, h3, h4, h5 => by
  rw [SetTable.below.go]
  by_cases c : lo<hi
  ·rw [if_pos c]
   have hm : (lo + hi) / 2<xs.size := by omega
   have hg : xs.getD ((lo + hi) / 2) j=xs[(lo + hi) / 2] := by simp [Array.getD, hm]
   have srt : ∀ a b (ha : a<xs.size) (hb : b<xs.size), a<b→xs[a]<xs[b] := fun a b ha hb hab => by
    have := List.pairwise_iff_getElem.mp up a b (by simpa using ha) (by simpa using hb) hab
    simpa using this
   dsimp only
   rw [hg]
   by_cases d : xs[(lo + hi) / 2]<j
   ·rw [if_pos d]
    refine jC xs j up fuel _ _ (by omega) (by omega) h3 (fun i x hi' hx => ?_) h5
    have hl := (Array.getElem?_eq_some_iff.mp hx).1
    have hx' := (Array.getElem?_eq_some_iff.mp hx).2
    by_cases e : i=(lo + hi) / 2
    ·subst e; omega
    ·have := srt i ((lo + hi) / 2) hl hm (by omega); omega
   ·rw [if_neg d]
    refine jC xs j up fuel _ _ (by omega) (by omega) (by omega) h4 (fun i x hi' hx => ?_)
    have hl := (Array.getElem?_eq_some_iff.mp hx).1
    have hx' := (Array.getElem?_eq_some_iff.mp hx).2
    by_cases e : i=(lo + hi) / 2
    ·subst e; omega
    ·have := srt ((lo + hi) / 2) i hm hl (by omega); omega
  ·rw [if_neg c]
   have e : lo=hi := by omega
   subst e
   exact ⟨h3, h4, h5⟩
theorem bel (xs : Array Nat) (j : Nat) (up : xs.toList.Pairwise (· < ·)) : SetTable.below xs j≤xs.size∧(∀ i x, i<SetTable.below xs j→xs[i]? = some x→x<j)∧∀ i x, SetTable.below xs j≤i→xs[i]? = some x→j≤x :=
 jC xs j up xs.size 0 xs.size (by omega) (by omega) (Nat.le_refl _) (fun i x h => by omega) (fun i x h hx => by have := (Array.getElem?_eq_some_iff.mp hx).1; omega)
theorem nq (xs : Array Nat) (up : xs.toList.Pairwise (· < ·)) : SetTable.below xs 0=0 := by
 obtain ⟨h1, h2, -⟩ := bel xs 0 up
 by_cases c : SetTable.below xs 0=0
 ·exact c
 ·have hs : 0<xs.size := by omega
  have := h2 0 xs[0] (by omega) (Array.getElem?_eq_getElem hs)
  omega
theorem lG (xs : Array Nat) (up : xs.toList.Pairwise (· < ·)) {i x : Nat} (h : xs[i]? = some x) : SetTable.below xs (x + 1)=i + 1 := by
 obtain ⟨h1, h2, h3⟩ := bel xs (x + 1) up
 have hl := (Array.getElem?_eq_some_iff.mp h).1
 have hx := (Array.getElem?_eq_some_iff.mp h).2
 have srt : ∀ a b (ha : a<xs.size) (hb : b<xs.size), a<b→xs[a]<xs[b] := fun a b ha hb hab => by
  have := List.pairwise_iff_getElem.mp up a b (by simpa using ha) (by simpa using hb) hab
  simpa using this
 by_cases c : SetTable.below xs (x + 1)≤i
 ·have := h3 i x c h; omega
 ·by_cases d : i + 1<SetTable.below xs (x + 1)
  ·have hs : i + 1<xs.size := by omega
   have a1 := h2 (i + 1) xs[i + 1] d (Array.getElem?_eq_getElem hs)
   have a2 := srt i (i + 1) hl hs (by omega)
   omega
  ·omega
theorem o0 (xs : Array Nat) (up : xs.toList.Pairwise (· < ·)) {j : Nat} (h : j∈xs.toList) : xs[SetTable.below xs j]? = some j := by
 obtain ⟨h1, h2, h3⟩ := bel xs j up
 obtain ⟨i, hi⟩ := List.getElem?_of_mem h
 have hi' : xs[i]? = some j := by simpa using hi
 have hl := (Array.getElem?_eq_some_iff.mp hi').1
 have srt : ∀ a b (ha : a<xs.size) (hb : b<xs.size), a<b→xs[a]<xs[b] := fun a b ha hb hab => by
  have := List.pairwise_iff_getElem.mp up a b (by simpa using ha) (by simpa using hb) hab
  simpa using this
 have e : SetTable.below xs j=i := by
  by_cases c : i<SetTable.below xs j
  ·have := h2 i j c hi'; omega
  ·by_cases d : SetTable.below xs j<i
   ·have hs : SetTable.below xs j<xs.size := by omega
    have a1 := h3 _ xs[SetTable.below xs j] (Nat.le_refl _) (Array.getElem?_eq_getElem hs)
    have a2 := srt _ i hs hl d
    have a3 := (Array.getElem?_eq_some_iff.mp hi').2
    omega
   ·omega
 rw [e]; exact hi'
theorem kO {t : SetTable} (up : t.place.toList.Pairwise (· < ·)) {j : Nat} (h : j∈t.place.toList) : ∃ i, t.slot j = .live i := by
 unfold SetTable.slot
 dsimp only
 rw [o0 _ up h]
 exact ⟨_, if_pos (by simp)⟩
theorem i_ {t : SetTable} (dm : t.dummies = #[]) {j : Nat} (h : j ∉ t.place.toList) : t.slot j = .empty := by
 unfold SetTable.slot
 dsimp only
 rw [if_neg (fun c => by
  have c' : t.place[SetTable.below t.place j]? = some j := by simpa using c
  exact h (by simpa using Array.mem_of_getElem? c')), if_neg (by rw [dm]; unfold SetTable.has; simp)]
theorem rX {xs : Array Nat} (up : xs.toList.Pairwise (· < ·)) {j : Nat} (h : j ∉ xs.toList) : (SetTable.insertAt xs (SetTable.below xs j) j).toList.Pairwise (· < ·) := by
 rw [SetTable.toList_insertAt]
 obtain ⟨h1, h2, h3⟩ := bel xs j up
 have m1 : ∀ x∈xs.toList.take (SetTable.below xs j), x<j := fun x hx => by
  obtain ⟨i, hi⟩ := List.getElem?_of_mem hx
  rw [List.getElem?_take] at hi
  split at hi
  ·rename_i c; exact h2 i x c (by simpa using hi)
  ·cases hi
 have m2 : ∀ x∈xs.toList.drop (SetTable.below xs j), j<x := fun x hx => by
  obtain ⟨i, hi⟩ := List.getElem?_of_mem hx
  rw [List.getElem?_drop] at hi
  have := h3 _ x (Nat.le_add_right _ i) (by simpa using hi)
  have hn : x ≠ j := fun e => h (e ▸ List.mem_of_getElem? hi)
  omega
 refine List.pairwise_append.mpr ⟨up.sublist (List.take_sublist ..), List.pairwise_cons.mpr ⟨m2, up.sublist (List.drop_sublist ..)⟩, fun a ha b hb => ?_⟩
 rcases List.mem_cons.mp hb with rfl | hb
 ·exact m1 a ha
 ·exact Nat.lt_trans (m1 a ha) (m2 b hb)
abbrev Prb := SetTable.Probe
def lR (mask : Nat) (p : Prb) : Prb :=
 if p.more > 0 then { p with j := p.j + 1, more := p.more - 1 } else
 { p with j := (SetTable.leap mask p.i p.perturb).1, more := SetTable.runEnd mask (SetTable.leap mask p.i p.perturb).1 - (SetTable.leap mask p.i p.perturb).1, i := (SetTable.leap mask p.i p.perturb).1, perturb := (SetTable.leap mask p.i p.perturb).2 }
theorem qC (mask : Nat) (p : Prb) : (lR mask p).dummy=p.dummy := by unfold lR; split <;> rfl
def kx (mask : Nat) : Nat→Prb→List Nat
 | 0, _ => []
 | n + 1, p => p.j :: kx mask n (lR mask p)
def seqI (mask : Nat) : Nat→Nat→Nat→List Nat
 | 0, _, _ => []
 | n + 1, i, pt => i :: seqI mask n (SetTable.leap mask i pt).1 (SetTable.leap mask i pt).2
def cN (l : List Nat) : Nat := l.foldl (fun m j => m ||| (1 <<< j)) 0
theorem jZ (s : Nat) : ∀ (l : List Nat) (m : Nat), (l.foldl (fun m j => m ||| (1 <<< j)) m).testBit s=true→m.testBit s=true∨s∈l
 | [], m, h => .inl h
 | j :: l, m, h => by
  rcases jZ s l _ h with h | h
  ·rw [Nat.testBit_or, Bool.or_eq_true] at h
   rcases h with h | h
   ·exact .inl h
   ·right
    rw [Nat.testBit_shiftLeft] at h
    simp only [Bool.and_eq_true, decide_eq_true_eq] at h
    have e : s - j=0 := by
     have := Nat.testBit_one_eq_true_iff_self_eq_zero.mp h.2
     exact this
    have : s=j := by omega
    rw [this]; exact List.mem_cons_self
  ·exact .inr (List.mem_cons_of_mem _ h)
theorem iz {l : List Nat} {n : Nat} (h : cN l=2 ^ n - 1) {s : Nat} (hs : s<n) : s∈l := by
 have : (cN l).testBit s=true := by rw [h, Nat.testBit_two_pow_sub_one]; exact decide_eq_true hs
 rcases jZ s l 0 this with h | h
 ·simp at h
 ·exact h
def fU (mask h : Nat) : Prb := { j := h % (mask + 1), more := SetTable.runEnd mask (h % (mask + 1)) - h % (mask + 1), i := h % (mask + 1), perturb := h, dummy := none }
def cvrJ (mask : Nat) : Bool := (List.range 32).all fun h => cN (kx mask (10 * SetTable.turns mask) (fU mask h)) == 2 ^ (mask + 1) - 1
def cvrI (mask : Nat) : Bool := (List.range 32).all fun h => cN (seqI mask (SetTable.turns mask) (h % (mask + 1)) h) == 2 ^ (mask + 1) - 1
theorem cvrJ7 : cvrJ 7=true := by decide +kernel
theorem qw : cvrJ 31=true := by decide +kernel
theorem nW : cvrJ 127=true := by decide +kernel
theorem cvrI7 : cvrI 7=true := by decide +kernel
theorem rm : cvrI 31=true := by decide +kernel
theorem o4 : cvrI 127=true := by decide +kernel
def Msk (m : Nat) : Prop := m=7∨m=31∨m=127
theorem oH {l : List Nat} {n : Nat} (h : cN l=2 ^ n - 1) {s : Nat} (hs : s∈l) : s<n := by
 have key : ∀ (l : List Nat) (m : Nat), (s∈l∨m.testBit s=true)→(l.foldl (fun m j => m ||| (1 <<< j)) m).testBit s=true := by
  intro l
  induction l with
  | nil => intro m h; rcases h with h | h; cases h; exact h
  | cons j l ih =>
   intro m h
   refine ih _ ?_
   rcases h with h | h
   ·rcases List.mem_cons.mp h with rfl | h
    ·right; rw [Nat.testBit_or, Nat.testBit_shiftLeft]; simp
    ·exact .inl h
   ·right; rw [Nat.testBit_or, h]; rfl
 have := key l 0 (.inl hs)
 change (cN l).testBit s=true at this
 rw [h, Nat.testBit_two_pow_sub_one] at this
 exact of_decide_eq_true this
theorem cov_J {m h : Nat} (hm : Msk m) (hh : h<32) : cN (kx m (10 * SetTable.turns m) (fU m h))=2 ^ (m + 1) - 1 := by
 have a : cvrJ m=true := by rcases hm with rfl | rfl | rfl; exact cvrJ7; exact qw; exact nW
 exact eq_of_beq (List.all_eq_true.mp a h (List.mem_range.mpr hh))
theorem cov_I {m h : Nat} (hm : Msk m) (hh : h<32) : cN (seqI m (SetTable.turns m) (h % (m + 1)) h)=2 ^ (m + 1) - 1 := by
 have a : cvrI m=true := by rcases hm with rfl | rfl | rfl; exact cvrI7; exact rm; exact o4
 exact eq_of_beq (List.all_eq_true.mp a h (List.mem_range.mpr hh))
theorem iZ {t : SetTable} (up : t.place.toList.Pairwise (· < ·)) (dm : t.dummies = #[]) (h : Int) : ∀ (n : Nat) (p : Prb), p.dummy=none→(∃ j∈kx t.mask n p, j ∉ t.place.toList) →
 ∃ j, j∈kx t.mask n p∧j ∉ t.place.toList∧SetTable.probe.go t (fun _ => h + 1) h n p=some (.empty j none)
 | 0, p, _, ⟨j, hj, _⟩ => by cases hj
 | n + 1, p, hd, ⟨j, hj, hn⟩ => by
  rw [SetTable.probe.go]
  by_cases c : p.j∈t.place.toList
  ·obtain ⟨i, hi⟩ := kO up c
   rw [hi]
   dsimp only
   have e : (h + 1 == h)=false := by simp; omega
   rw [e]
   have hj' : j∈kx t.mask n (lR t.mask p) := by
    rcases List.mem_cons.mp hj with rfl | hj
    ·exact absurd c hn
    ·exact hj
   obtain ⟨k, k1, k2, k3⟩ := iZ up dm h n (lR t.mask p) (by rw [qC]; exact hd) ⟨j, hj', hn⟩
   exact ⟨k, List.mem_cons_of_mem _ k1, k2, k3⟩
  ·rw [i_ dm c]
   dsimp only
   exact ⟨p.j, List.mem_cons_self, c, by rw [hd]⟩
theorem fV {h : Nat} (hh : h<32) : SetTable.bits (h : Int)=h := by
 unfold SetTable.bits
 have : ((h : Int) % (2 ^ 64 : Int))=(h : Int) := Int.emod_eq_of_lt (by omega) (by omega)
 rw [this]; rfl
theorem gH : ∀ {l m : List Nat}, l.Nodup→(∀ x∈l, x∈m)→l.length≤m.length
 | [], m, _, _ => Nat.zero_le _
 | a :: l, m, hn, hs => by
  have ha := hs a List.mem_cons_self
  have hl : l.length≤(m.erase a).length := gH (List.nodup_cons.mp hn).2 fun x hx => by
   have hxa : x ≠ a := fun e => (List.nodup_cons.mp hn).1 (by rw [← e]; exact hx)
   exact (List.mem_erase_of_ne hxa).mpr (hs x (List.mem_cons_of_mem _ hx))
  rw [List.length_erase_of_mem ha] at hl
  have := List.length_pos_of_mem ha
  show l.length + 1≤m.length
  omega
theorem kz {t : SetTable} (hn : t.place.size≤t.mask) : ∃ s, s<t.mask + 1∧s ∉ t.place.toList := by
 refine Classical.byContradiction fun c => ?_
 have hs : ∀ s∈List.range (t.mask + 1), s∈t.place.toList := fun s hs => Classical.byContradiction fun d => c ⟨s, List.mem_range.mp hs, d⟩
 have : (List.range (t.mask + 1)).length≤t.place.toList.length := gH List.nodup_range hs
 simp at this
 omega
theorem kP {t : SetTable} (hm : Msk t.mask) (up : t.place.toList.Pairwise (· < ·)) (dm : t.dummies = #[]) (hn : t.place.size≤t.mask) {h : Nat} (hh : h<32) : ∃ j, j≤t.mask∧j ∉ t.place.toList∧t.freeSlot (h : Int)=some (j, false) := by
 obtain ⟨s, s1, s2⟩ := kz hn
 have cv := cov_J hm hh
 obtain ⟨j, j1, j2, j3⟩ := iZ (t := t) up dm (h : Int) (10 * SetTable.turns t.mask) (fU t.mask h) rfl ⟨s, iz cv s1, s2⟩
 refine ⟨j, by have := oH cv j1; omega, j2, ?_⟩
 unfold SetTable.freeSlot SetTable.probe
 have e : t.probeStart (h : Int)=fU t.mask h := by unfold SetTable.probeStart fU; rw [fV hh]
 rw [e, j3]; rfl
theorem jN {mask : Nat} {owner : Array (Option Nat)} (hs : owner.size=mask + 1) : ∀ (n i pt : Nat), (∃ s∈seqI mask n i pt, s<mask + 1∧owner.getD s (some 0)=none) →
 ∃ j, j<mask + 1∧owner.getD j (some 0)=none∧SetTable.layClean.free mask owner n i pt=some j
 | 0, i, pt, ⟨s, h, _⟩ => by cases h
 | n + 1, i, pt, ⟨s, h, h1, h2⟩ => by
  rw [SetTable.layClean.free]
  cases e : (List.range (SetTable.runEnd mask i + 1 - i)).find? fun k => (owner.getD (i + k) (some 0)).isNone with
  | some k =>
   have hk := List.find?_some e
   have hn : owner.getD (i + k) (some 0)=none := by simpa using hk
   refine ⟨i + k, ?_, hn, rfl⟩
   refine Classical.byContradiction fun c => ?_
   have : owner.getD (i + k) (some 0)=some 0 := by simp [Array.getD, hs]; omega
   rw [this] at hn; cases hn
  | none =>
   have hne := List.find?_eq_none.mp e
   rcases List.mem_cons.mp h with rfl | h
   ·have hr : s≤SetTable.runEnd mask s := by unfold SetTable.runEnd; split <;> omega
    have := hne 0 (List.mem_range.mpr (by omega))
    rw [Nat.add_zero, h2] at this
    simp at this
   ·exact jN hs n _ _ ⟨s, h, h1, h2⟩
structure OwnT (mask : Nat) (owner : Array (Option Nat)) (k : Nat) : Prop where
 sz : owner.size=mask + 1
 pm : (owner.toList.filterMap id).Perm (List.range k)
theorem mq : ∀ (l : List (Option Nat)) (j k : Nat), l[j]? = some none→((l.set j (some k)).filterMap id).Perm (k :: l.filterMap id)
 | [], j, k, h => by simp at h
 | x :: l, 0, k, h => by
  have e : x=none := by simpa using h
  subst e
  exact .refl _
 | x :: l, j + 1, k, h => by
  have h' : l[j]? = some none := by simpa using h
  have ih := mq l j k h'
  cases x with
  | none => exact ih
  | some y => exact (List.Perm.cons y ih).trans (.swap k y _)
theorem m_ : ∀ (l : List (Option Nat)), (∀ x∈l, x ≠ none)→(l.filterMap id).length=l.length
 | [], _ => rfl
 | x :: l, h => by
  cases x with
  | none => exact absurd rfl (h none List.mem_cons_self)
  | some y => show ((l.filterMap id).length + 1)=l.length + 1; rw [m_ l fun x hx => h x (List.mem_cons_of_mem _ hx)]
theorem OwnT.step {mask : Nat} (hm : Msk mask) {owner : Array (Option Nat)} {k : Nat} (h : OwnT mask owner k) (hk : k≤mask) {a : Nat} (ha : a<32) : ∃ j, SetTable.layClean.free mask owner (SetTable.turns mask) (SetTable.bits (a : Int) % (mask + 1)) (SetTable.bits (a : Int))=some j∧OwnT mask (owner.setIfInBounds j (some k)) (k + 1) := by
 rw [fV ha]
 have hl : (owner.toList.filterMap id).length=k := by rw [h.pm.length_eq, List.length_range]
 have hex : ∃ s, s<mask + 1∧owner.getD s (some 0)=none := by
  refine Classical.byContradiction fun c => ?_
  have : ∀ x∈owner.toList, x ≠ none := fun x hx e => by
   obtain ⟨i, hi⟩ := List.getElem?_of_mem hx
   have hi' : owner[i]? = some x := by simpa using hi
   obtain ⟨h1, h2⟩ := Array.getElem?_eq_some_iff.mp hi'
   exact c ⟨i, by rw [← h.sz]; exact h1, by simp [Array.getD, h1, h2, e]⟩
  have := m_ _ this
  rw [hl, Array.length_toList, h.sz] at this
  omega
 obtain ⟨s, s1, s2⟩ := hex
 obtain ⟨j, j1, j2, j3⟩ := jN h.sz (SetTable.turns mask) (a % (mask + 1)) a ⟨s, iz (cov_I hm ha) s1, s1, s2⟩
 refine ⟨j, j3, ⟨by rw [Array.size_setIfInBounds]; exact h.sz, ?_⟩⟩
 have hj : owner.toList[j]? = some none := by
  have hlt : j<owner.size := by rw [h.sz]; exact j1
  have : owner[j]=none := by simpa [Array.getD, hlt] using j2
  rw [Array.getElem?_toList, Array.getElem?_eq_getElem hlt, this]
 rw [Array.toList_setIfInBounds]
 refine (mq _ j k hj).trans ?_
 rw [List.range_succ]
 exact (List.Perm.cons k h.pm).trans (List.perm_append_singleton k _).symm
theorem kT {mask : Nat} (hm : Msk mask) (hs : Array Int) (hl : hs.size≤mask) (ha : ∀ x∈hs.toList, ∃ a : Nat, a<32∧x=(a : Int)) : ∃ owner, SetTable.layClean mask hs=some owner∧OwnT mask owner hs.size := by
 have key : ∀ (l : List Int) (k : Nat) (owner : Array (Option Nat)), OwnT mask owner k→k + l.length≤mask→(∀ x∈l, ∃ a : Nat, a<32∧x=(a : Int)) →
  ∃ owner', l.foldl (fun acc h => (do
   let (owner, k) ← acc
   let j ← SetTable.layClean.free mask owner (SetTable.turns mask) (SetTable.bits h % (mask + 1)) (SetTable.bits h)
   pure (owner.setIfInBounds j (some k), k + 1) : Option (Array (Option Nat)×Nat))) (some (owner, k))=some (owner', k + l.length)∧OwnT mask owner' (k + l.length) := by
  intro l
  induction l with
  | nil => intro k owner h _ _; exact ⟨owner, rfl, h⟩
  | cons x l ih =>
   intro k owner h hk hx
   obtain ⟨a, a1, rfl⟩ := hx x List.mem_cons_self
   have hk' : k + (l.length + 1)≤mask := hk
   obtain ⟨j, j1, j2⟩ := h.step hm (by omega) a1
   rw [List.foldl_cons]
   have e : (do
    let (owner, k) ← some (owner, k)
    let j ← SetTable.layClean.free mask owner (SetTable.turns mask) (SetTable.bits (a : Int) % (mask + 1)) (SetTable.bits (a : Int))
    pure (owner.setIfInBounds j (some k), k + 1) : Option (Array (Option Nat)×Nat))=some (owner.setIfInBounds j (some k), k + 1) := by
    show (SetTable.layClean.free mask owner (SetTable.turns mask) (SetTable.bits (a : Int) % (mask + 1)) (SetTable.bits (a : Int))).bind _=_
    rw [j1]; rfl
   rw [e]
   obtain ⟨o', e1, e2⟩ := ih (k + 1) _ j2 (by omega) fun x hx' => hx x (List.mem_cons_of_mem _ hx')
   have el : k + 1 + l.length=k + ((a : Int) :: l).length := by show _=k + (l.length + 1); omega
   rw [el] at e1 e2
   exact ⟨o', e1, e2⟩
 have h0 : OwnT mask (Array.replicate (mask + 1) none) 0 := ⟨by simp, by
  rw [Array.toList_replicate]
  have : ∀ n, (List.replicate n (none : Option Nat)).filterMap id=[] := fun n => by induction n with
   | zero => rfl
   | succ n ih => rw [List.replicate_succ]; exact ih
  rw [this]; exact .refl _⟩
 obtain ⟨o', e1, e2⟩ := key hs.toList 0 _ h0 (by rw [Array.length_toList]; omega) ha
 refine ⟨o', ?_, by rw [Nat.zero_add, Array.length_toList] at e2; exact e2⟩
 unfold SetTable.layClean
 rw [← Array.foldl_toList]
 rw [e1]; rfl
structure Tab (led : Bool) (n : Nat) (t : SetTable) : Prop where
 ms : Msk t.mask
 le : n≤t.mask
 sz : t.place.size=n
 up : t.place.toList.Pairwise (· < ·)
 dm : t.dummies = #[]
 pl : t.plain=true
 ld : t.led=led
theorem Tab.fits {led : Bool} {n : Nat} {t : SetTable} (h : Tab led n t) : t.fits n=true := by
 unfold SetTable.fits SetTable.fill
 rw [h.dm, h.sz]
 simp
 exact h.le
def fC (es : List (Int×Value)) : Prop := ∀ e∈es, ∃ (a : Nat) (tk : Tok), a<32∧e=((a : Int), Value.int (a : Int) tk)
def bM (e : Int×Value) : Int := e.1
theorem oY {led : Bool} {n : Nat} {t : SetTable} (h : Tab led n t) {es : Array (Int×Value)} (hs : es.size=n) (hn : n + 1≤t.mask) {a : Nat} (ha : a<32) (x : Value) :
 ∃ t' es', layNew t es (a : Int) x=(es', t', false, false)∧Tab led (n + 1) t'∧t'.mask=t.mask := by
 obtain ⟨j, j1, j2, j3⟩ := kP h.ms h.up h.dm (by rw [h.sz]; exact h.le) ha
 unfold layNew
 rw [j3]
 dsimp only
 have ed : (if SetTable.has t.dummies j=true then SetTable.eraseAt t.dummies (SetTable.below t.dummies j) else t.dummies) = #[] := by
  rw [h.dm, if_neg (by unfold SetTable.has; simp)]
 have T : Tab led (n + 1) (t.put j).1 := by
  refine ⟨h.ms, hn, ?_, rX h.up j2, ed, h.pl, h.ld⟩
  show (SetTable.insertAt t.place (SetTable.below t.place j) j).size=n + 1
  have := (SetTable.insertAt_perm t.place (SetTable.below t.place j) j).length_eq
  rw [Array.length_toList, Array.length_toList, Array.size_push, h.sz] at this
  exact this
 have hsz : (SetTable.insertAt es (t.put j).2 ((a : Int), x)).size=n + 1 := by
  have := (SetTable.insertAt_perm es (t.put j).2 ((a : Int), x)).length_eq
  rw [Array.length_toList, Array.length_toList, Array.size_push, hs] at this
  exact this
 have hf : (t.put j).1.fits (SetTable.insertAt es (t.put j).2 ((a : Int), x)).size=true := by rw [hsz]; exact T.fits
 refine ⟨(t.put j).1, SetTable.insertAt es (t.put j).2 ((a : Int), x), ?_, T, rfl⟩
 show (SetTable.insertAt es (t.put j).2 ((a : Int), x), (t.put j).1.orStandIn (SetTable.insertAt es (t.put j).2 ((a : Int), x)).size, false, !(t.put j).1.fits (SetTable.insertAt es (t.put j).2 ((a : Int), x)).size)=_
 have eo : (t.put j).1.orStandIn (SetTable.insertAt es (t.put j).2 ((a : Int), x)).size=(t.put j).1 := by unfold SetTable.orStandIn; rw [if_pos hf]
 rw [eo, hf]; rfl
theorem iA (owner : Array (Option Nat)) : ∀ n, n≤owner.size→((List.range n).filterMap fun j => (owner.getD j none).map (j, ·)).map (·.2)=(owner.toList.take n).filterMap id
 | 0, _ => by simp
 | n + 1, h => by
  have hn : n<owner.toList.length := by rw [Array.length_toList]; omega
  rw [List.range_succ, List.filterMap_append, List.map_append, iA owner n (by omega), List.take_succ_eq_append_getElem hn, List.filterMap_append]
  congr 1
  have e : owner.getD n none=owner.toList[n] := by simp [Array.getD, show n<owner.size by omega]
  simp only [List.filterMap_cons, List.filterMap_nil, e]
  cases owner.toList[n] <;> rfl
theorem pU {led : Bool} {n : Nat} {t : SetTable} (h : Tab led n t) {es : Array (Int×Value)} (hs : es.size=n) (hE : fC es.toList) {wanted : Nat} {m : Nat} (hm : Msk m) (ew : SetTable.sizeAbove wanted - 1=m) (hn : n≤m) :
 ∃ t' es', relayAll t es wanted=(es', t', false)∧Tab led n t'∧t'.mask=m := by
 obtain ⟨owner, o1, o2⟩ := kT hm (es.map (·.1)) (by rw [Array.size_map, hs]; exact hn) fun x hx => by
  rw [Array.toList_map] at hx
  obtain ⟨e, he, rfl⟩ := List.mem_map.mp hx
  obtain ⟨a, tk, a1, rfl⟩ := hE e he
  exact ⟨a, a1, rfl⟩
 rw [Array.size_map, hs] at o2
 have hr : t.relaid (es.map (·.1)) wanted=some ({ mask := m, place := (((List.range (m + 1)).filterMap fun j => (owner.getD j none).map (j, ·)).map (·.1)).toArray, dummies := #[], finger := t.finger, led := t.led, moves := t.movedTo m, plain := t.plain }, (((List.range (m + 1)).filterMap fun j => (owner.getD j none).map (j, ·)).map (·.2)).toArray) := by
  unfold SetTable.relaid SetTable.laid
  rw [ew, o1]; rfl
 have h2 := iA owner (m + 1) (by rw [o2.sz]; exact Nat.le_refl _)
 rw [List.take_of_length_le (by rw [Array.length_toList, o2.sz]; exact Nat.le_refl _)] at h2
 have hp : (((List.range (m + 1)).filterMap fun j => (owner.getD j none).map (j, ·)).map (·.2)).Perm (List.range n) := by rw [h2]; exact o2.pm
 have hlen : ((List.range (m + 1)).filterMap fun j => (owner.getD j none).map (j, ·)).length=n := by
  have := hp.length_eq
  rw [List.length_map, List.length_range] at this
  exact this
 have hup : (((List.range (m + 1)).filterMap fun j => (owner.getD j none).map (j, ·)).map (·.1)).Pairwise (· < ·) := by
  have e : ((List.range (m + 1)).filterMap fun j => (owner.getD j none).map (j, ·)).map (·.1)=(List.range (m + 1)).filter fun j => (owner.getD j none).isSome := by
   generalize List.range (m + 1)=l
   induction l with
   | nil => rfl
   | cons a l ih =>
    rw [List.filterMap_cons, List.filter_cons]
    cases c : owner.getD a none with
    | none => simpa using ih
    | some b => simpa using ih
  rw [e]
  exact List.pairwise_lt_range.filter _
 clear h2
 generalize ((List.range (m + 1)).filterMap fun j => (owner.getD j none).map (j, ·))=lv at hr hp hlen hup
 unfold relayAll
 rw [hr]
 dsimp only
 have T : Tab led n ({ mask := m, place := (lv.map (·.1)).toArray, dummies := #[], finger := t.finger, led := t.led, moves := t.movedTo m, plain := t.plain } : SetTable) :=
  ⟨hm, hn, by simp [hlen], hup, rfl, h.pl, h.ld⟩
 have hes : ((lv.map (·.2)).toArray.filterMap (es[·]?)).size=n := by
  rw [← Array.length_toList, Array.toList_filterMap]
  have := (hp.filterMap (es[·]?)).length_eq
  have e2 : ((List.range n).filterMap (es[·]?)).length=n := by rw [← hs, filterMap_getElem?_range, Array.length_toList]
  rw [e2] at this
  exact this
 refine ⟨_, (lv.map (·.2)).toArray.filterMap (es[·]?), ?_, T, rfl⟩
 rw [if_pos]
 rw [hes, Bool.and_eq_true]
 exact ⟨by unfold coversAll; rw [hs]; exact List.isPerm_iff.mpr hp, T.fits⟩
end L2
namespace L2
open PySem PyProof.Rows
theorem i7 : ∀ a : Nat, a<32→hashInt (a : Int)=(a : Int) := by decide +kernel
structure TabS (led : Bool) (ns : List Int) (es : Array (Int×Value)) (t : SetTable) : Prop where
 sm : fC es.toList
 nd : (es.toList.map bM).Nodup
 mem : ∀ k, k∈es.toList.map bM↔k∈ns
 tab : Tab led es.size t
 fit : t.mask=7∧es.size<5∨t.mask=31∧es.size<19∨t.mask=127
 le : es.size≤ns.length
def ir (led : Bool) (ns : List Int) (o : Obj) : Prop := o.ExactSet∧∃ es ep t, o.data = .set es ep t∧TabS led ns es t
section
variable {prog : Program} {w : World} {A : Around} {E : Value→Shared→Prop} {s : Shared}
theorem ou {l : List (Int×Value)} (h : fC l) : ElemsOf (intKind prog w) l := fun e he => by
 obtain ⟨a, tk, a1, rfl⟩ := h e he
 exact ⟨⟨(a : Int), intKind_is _ _ _ _, (i7 a a1).symm⟩, rfl⟩
theorem qR {led : Bool} {ns : List Int} {es : Array (Int×Value)} {t : SetTable} (h : TabS led ns es t) (hn : ns.length≤40) : es.size<scanBound := by
 have := h.le; unfold scanBound; omega
theorem ly {k : Int} {e : Int×Value} {l : List (Int×Value)} (h : fC l) (he : e∈l) : (intKind prog w).is k e.2=decide (k=bM e) := by
 obtain ⟨a, tk, a1, rfl⟩ := h e he
 exact KeyKind.is_eq_decide (knd := intKind prog w) (intKind_is _ _ _ _) k
theorem rH {a : Addr} {o : Obj} {led : Bool} {ns : List Int} {k : Nat} {tk : Tok} {Q : Bool→Shared→Prop} (hk : k<32) (ho : s.heap.get? a=some o) (hO : ir led ns o) (hn : ns.length<40)
 (h : ∀ b h' o', Heap.SameBut a s.heap h'→h'.get? a=some o'→ir led (ns++[(k : Int)]) o'→Q b { s with heap := h' }) :
 wpAny (model prog w) A (setAddHashed a (.int (k : Int) tk) (k : Int)) Q E s := by
 obtain ⟨hex, es, ep, t, hd, T⟩ := hO
 have hf := T.tab.fits
 have hel := ou (prog := prog) (w := w) T.sm
 have hb := qR T (by omega)
 have hle := T.le
 have hkey : (intKind prog w).is (k : Int) (.int (k : Int) tk)=true := intKind_is _ _ _ _
 unfold setAddHashed setAddHashedIn
 refine wpAny_holding (wpAny_bind (wpAny_setState_of ho hd hf ?_))
 dsimp only
 rw [byScan_of (knd := intKind prog w) (x := .int (k : Int) tk) rfl hb hel]
 simp only [↓reduceIte]
 unfold setAddByScan
 refine wpAny_bind ?_
 refine wpAny_bind (wpAny_rule ?_)
 have hsc : ∀ {Q' : ScanMet→Shared→Prop}, Q' (match es.toList.findIdx? (fun e => (intKind prog w).is (k : Int) e.2) with | some j => .found (0 + j) | none => .absent) s→wpAny (model prog w) A (setScan a (.int (k : Int) tk) (k : Int) true es) Q' E s := fun q => by
  have := wpAny_setScan_of (A := A) (E := E) (adding := true) hkey ho hd hf hel q
  rwa [show (intKind prog w).hash (k : Int)=(k : Int) from i7 k hk] at this
 refine wpAny_bind (hsc ?_)
 cases hr : List.findIdx? (fun e => (intKind prog w).is (k : Int) e.2) es.toList with
 | some j =>
  dsimp only
  obtain ⟨hj, hpj, _⟩ := List.findIdx?_eq_some_iff_getElem.mp hr
  have hm := List.getElem_mem hj
  rw [ly T.sm hm] at hpj
  have hin : (k : Int)∈ns := (T.mem _).mp (by rw [of_decide_eq_true hpj]; exact List.mem_map_of_mem hm)
  refine wpAny_pure (wpAny_pure ?_)
  have e : s = { s with heap := s.heap } := by cases s; rfl
  rw [e]
  refine h _ s.heap o (Heap.SameBut.refl a s.heap) ho ⟨hex, es, ep, t, hd, ⟨T.sm, T.nd, fun k' => ?_, T.tab, T.fit, by rw [List.length_append]; omega⟩⟩
  rw [T.mem k', List.mem_append]
  exact ⟨.inl, fun z => z.elim id fun z => by rw [List.mem_singleton.mp z]; exact hin⟩
 | none =>
  dsimp only
  have hnk : (k : Int) ∉ es.toList.map bM := fun c => by
   obtain ⟨e, he, q⟩ := List.mem_map.mp c
   have := List.findIdx?_eq_none_iff.mp hr e he
   rw [ly T.sm he, q] at this
   simp at this
  have hmk : es.size + 1≤t.mask := by have := T.fit; omega
  obtain ⟨t1, es1, e1, T1, m1⟩ := oY T.tab rfl hmk hk (.int (k : Int) tk)
  have hperm := layNew_perm t es (k : Int) (.int (k : Int) tk)
  rw [e1] at hperm ⊢
  dsimp only at hperm ⊢
  rw [Array.toList_push] at hperm
  have hs1 : es1.size=es.size + 1 := by rw [← Array.length_toList, hperm.length_eq, List.length_append, Array.length_toList]; rfl
  rw [← hs1] at T1
  have sm1 : fC es1.toList := fun e he => by
   rcases List.mem_append.mp (hperm.mem_iff.mp he) with q | q
   ·exact T.sm e q
   ·rw [List.mem_singleton.mp q]; exact ⟨k, tk, hk, rfl⟩
  have hpk : (es1.toList.map bM).Perm (es.toList.map bM++[(k : Int)]) := by
   have := hperm.map bM
   rw [List.map_append] at this
   exact this
  have nd1 : (es1.toList.map bM).Nodup := hpk.nodup_iff.mpr (List.nodup_append.mpr ⟨T.nd, by simp, fun x hx y hy => by rw [List.mem_singleton.mp hy]; exact fun e => hnk (e ▸ hx)⟩)
  have mem1 : ∀ k', k'∈es1.toList.map bM↔k'∈ns++[(k : Int)] := fun k' => by rw [hpk.mem_iff, List.mem_append, List.mem_append, T.mem k']
  have hb1 : es1.size<scanBound := by unfold scanBound; omega
  refine wpAny_bind (wpAny_pure ?_)
  rw [T1.pl]
  simp only [↓reduceIte]
  refine wpAny_bind ?_
  rw [hashByValue_scannable 8 (x := .int (k : Int) tk) rfl]
  refine wpAny_pure ?_
  simp only [plainKind, ↓reduceIte]
  refine wpAny_bind (wpAny_storeSet_of ho hd ?_ (fits_of_scanBound hb1))
  have hg : (s.heap.update a (Obj.putSet es1 t1)).get? a=some { o with data := .set es1 (ep + 1) t1 } := by
   have := Heap.get?_update_self (Obj.putSet es1 t1) ho (by rw [putSet_of es1 t1 hd]; rfl)
   rw [putSet_of es1 t1 hd] at this; exact this
  have hsb1 := Heap.SameBut.update s.heap a (Obj.putSet es1 t1)
  have hfill : t1.fill=es1.size := by unfold SetTable.fill; rw [T1.dm, T1.sz]; rfl
  have fin : ∀ (es2 : Array (Int×Value)) (t2 : SetTable) (ep2 : Nat) (h2 : Heap), h2.get? a=some { o with data := .set es2 ep2 t2 } → Heap.SameBut a s.heap h2→es2.toList.Perm es1.toList→Tab led es2.size t2→(t2.mask=7∧es2.size<5∨t2.mask=31∧es2.size<19∨t2.mask=127)→Q true { s with heap := h2 } := fun es2 t2 ep2 h2 g2 sb2 p2 T2 f2 => by
   have hs2 : es2.size=es1.size := by rw [← Array.length_toList, p2.length_eq, Array.length_toList]
   refine h true h2 _ sb2 g2 ⟨hex, es2, ep2, t2, rfl, ⟨fun e he => sm1 e (p2.mem_iff.mp he), (p2.map bM).nodup_iff.mpr nd1, fun k' => by rw [(p2.map bM).mem_iff]; exact mem1 k', T2, f2, ?_⟩⟩
   rw [List.length_append]
   show es2.size≤ns.length + 1
   omega
  by_cases c : t1.tooFull=true
  ·rw [c]
   simp only [Bool.not_false, Bool.and_self, ↓reduceIte]
   have c' : t1.mask * 3≤es1.size * 5 := by unfold SetTable.tooFull at c; rw [hfill] at c; simpa using c
   obtain ⟨m, hm, ew, hle2, hfit2⟩ : ∃ m, Msk m∧SetTable.sizeAbove (SetTable.grown es1.size) - 1=m∧es1.size≤m∧(m=31∧es1.size<19∨m=127) := by
    rcases T.fit with ⟨f1, f2⟩ | ⟨f1, f2⟩ | f1
    ·have e5 : es1.size=5 := by omega
     rw [e5]
     exact ⟨31, .inr (.inl rfl), by decide +kernel, by decide, .inl ⟨rfl, by decide⟩⟩
    ·have e19 : es1.size=19 := by omega
     rw [e19]
     exact ⟨127, .inr (.inr rfl), by decide +kernel, by decide, .inr rfl⟩
    ·omega
   obtain ⟨t2, es2, e2, T2, m2⟩ := pU T1 rfl sm1 (wanted := SetTable.grown es1.size) hm ew hle2
   have hp2 := relayAll_perm t1 es1 (SetTable.grown es1.size)
   rw [e2] at hp2 ⊢
   dsimp only at hp2 ⊢
   have hs2 : es2.size=es1.size := by rw [← Array.length_toList, hp2.length_eq, Array.length_toList]
   refine wpAny_bind (wpAny_pure ?_)
   refine wpAny_bind (wpAny_storeSet_of hg rfl ?_ (fits_of_scanBound (by rw [hs2]; exact hb1)))
   have hg2 : ((s.heap.update a (Obj.putSet es1 t1)).update a (Obj.putSet es2 t2)).get? a=some { o with data := .set es2 (ep + 1 + 1) t2 } :=
    Heap.get?_update_self (Obj.putSet es2 t2) hg (by rw [putSet_of es2 t2 rfl]; rfl)
   refine wpAny_pure (wpAny_pure (fin es2 t2 _ _ hg2 (hsb1.trans (Heap.SameBut.update _ a _)) hp2 (by rw [hs2]; exact T2) ?_))
   rw [m2, hs2]; omega
  ·have c2 : t1.tooFull=false := by simpa using c
   rw [c2]
   simp only [Bool.and_false, Bool.false_eq_true, ↓reduceIte]
   have c' : es1.size * 5<t1.mask * 3 := by unfold SetTable.tooFull at c2; rw [hfill] at c2; simpa using c2
   refine wpAny_pure (wpAny_pure (fin es1 t1 _ _ hg hsb1 (.refl _) T1 ?_))
   have := T.fit
   omega
end
end L2
namespace L2
open PySem PyProof.Rows PySem.Spec
def b7 (w : World) : Bool := !w.params.followText "set-order"
def b5 (val : Nat→Nat) (i : Nat) : List Int := (List.range i).map fun j => (val j : Int)
theorem iJ (val : Nat→Nat) (i : Nat) : b5 val (i + 1)=b5 val i++[(val i : Int)] := by
 unfold b5; rw [List.range_succ, List.map_append]; rfl
theorem jm (val : Nat→Nat) (i : Nat) : (b5 val i).length=i := by unfold b5; rw [List.length_map, List.length_range]
section
variable {prog : Program} {w : World} {A : Around} {R : Result→Shared→Prop} {I : Addr} {fp wr : List Addr} {G : Array GenState→Array GenState→Prop} {n : Nat} {P : Nat→Value→Prop} {St : Nat→Shared→Prop}
theorem kX (led : Bool) (W : WalksS prog w A.in1 I fp wr G n P St) (S : Addr) (hSf : S ∉ fp) (val : Nat→Nat) (hval : ∀ i v, P i v→∃ t, v = .int (val i : Int) t) (hsm : ∀ i, i<n→val i<32) (hb : n≤40) :
 ∀ (k i : Nat) (s : Shared), n - i=k→i≤n→St i s→(∃ o, s.heap.get? S=some o∧ir led (b5 val i) o) →
  (∀ s', Moved (S :: wr) G s s'→(∃ o, s'.heap.get? S=some o∧ir led (b5 val n) o)→R (.ok (.ret .none)) s') →
  codeAny (model prog w) A (.builtin "set.update.loop" ⟨[.ref S, .ref I], []⟩) R s := by
 have nSw : S ∉ wr := fun c => hSf (W.sub _ c)
 have sub : ∀ b∈wr, b∈S :: wr := fun b c => List.mem_cons_of_mem _ c
 intro k
 induction k with
 | zero =>
  intro i s hk hi hst hS hR
  obtain rfl : i=n := by omega
  apply codeAny_builtin F.entry_set_update_loop
  rw [Around.under_plainId F.plain_set_update_loop _]
  show wpAny _ A.in1 (pyNext (.ref I) >>= _) _ _ s
  apply wpAny_bind
  refine W.done s _ _ hst fun s' hm => ?_
  show wpAny _ A.in1 (ret Value.none) _ _ s'
  obtain ⟨o, ho, rest⟩ := hS
  exact wpAny_pure (hR s' (hm.mono sub) ⟨o, hm.heap S _ nSw ho, rest⟩)
 | succ k ih =>
  intro i s hk hi hst hS hR
  have lt : i<n := by omega
  apply codeAny_builtin F.entry_set_update_loop
  rw [Around.under_plainId F.plain_set_update_loop _]
  show wpAny _ A.in1 (pyNext (.ref I) >>= _) _ _ s
  apply wpAny_bind
  refine W.item i s _ _ lt hst fun v s' hP st' hm => ?_
  obtain ⟨t, rfl⟩ := hval i v hP
  obtain ⟨o, ho, hO⟩ := hS
  have ho' := hm.heap S _ nSw ho
  show wpAny _ A.in1 (holding [Value.int (val i : Int) t] (setAdd S (.int (val i : Int) t)) >>= _) _ _ s'
  apply wpAny_bind
  apply wpAny_holding
  unfold setAdd
  apply wpAny_holding
  apply wpAny_bind
  refine (intKind prog w).pyHash (k := (val i : Int)) (intKind_is _ _ _ _) ?_
  rw [show (intKind prog w).hash (val i : Int)=(val i : Int) from i7 _ (hsm i lt)]
  refine rH (s := { s' with toks := s'.toks + 1 }) (hsm i lt) ho' hO (by rw [jm]; omega) fun b h' o' hsb g' O' => ?_
  rw [← iJ] at O'
  refine wpAny_pure ⟨plainId_quiet F.plain_set_update_loop _, ih (i + 1) _ (by omega) lt (W.frame _ s' _ _ st' (Nat.le_succ _) fun b hb o e => ?_) ⟨o', g', O'⟩ fun s'' m2 S2 => ?_⟩
  ·rw [hsb.2 b (fun c : b=S => hSf (by rw [← c]; exact hb))]; exact e
  ·refine hR s'' (Moved.trans W.gtrans ((hm.mono sub).then_heap (Nat.le_succ _) fun b o hb e => ?_) m2) S2
   rw [hsb.2 b (fun c : b=S => hb (by rw [c]; exact List.mem_cons_self))]; exact e
end
section
variable {prog : Program} {w : World} {A : Around} {E : Value→Shared→Prop} {s : Shared}
abbrev fz (w : World) : Obj := { cls := .type "set", dict := none, data := .set #[] 0 (.fresh 0 0 (b7 w)) }
theorem mG (w : World) : ir (b7 w) [] (fz w) := ⟨⟨rfl, rfl, rfl⟩, #[], 0, _, rfl, ⟨fun e he => by simp at he, by simp, fun k => by simp, ⟨.inl rfl, Nat.zero_le _, rfl, by simp [SetTable.fresh], rfl, rfl, rfl⟩, .inl ⟨rfl, by decide⟩, Nat.le_refl _⟩⟩
theorem lz (a : Value) {Q₁ : Value→Shared→Prop} (h : Q₁ (.ref s.heap.objs.size) { s with heap := s.heap.push (fz w) }) :
 codeAny (model prog w) A (.call (.builtin "set.__new__") ⟨[.type "set", a], []⟩) (wants Q₁ E) s := by
 apply codeAny_of_tree
 show wpAny _ A.in1 (do checkBuiltinCall "set.__new__" ⟨[.type "set", a], []⟩; again (.builtin "set.__new__" ⟨[.type "set", a], []⟩)) _ _ s
 apply wpAny_bind
 refine wpAny_of_eq (PySem.F.newCall_set_1 a) (wpAny_pure ⟨plainId_quiet F.plain_set_new _, codeAny_builtin F.entry_set_new ?_⟩)
 rw [Around.under_plainId F.plain_set_new _]
 unfold Builtin.«set.__new__» Builtin.Frozenset.newClass
 have hsub := sub_set_self
 obtain ⟨hp, g, d, tk, os⟩ := s
 dsimp only
 wp_walk
 refine wpAny_askSetting (wpAny_pure ?_)
 dsimp only
 simp only [newObj]
 refine wpAny_bind (wpAny_alloc (wpAny_pure ?_))
 exact wpAny_pure h
end
section
variable {prog : Program} {w : World} {A : Around} {E : Value→Shared→Prop} {s : Shared}
theorem kF {l : Addr} {items : Array Value} {val : Nat→Nat} {Q : Value→Shared→Prop}
 (hh : A.handled=none) (hl : s.heap.IsList l items) (hval : ∀ (i : Nat) (v : Value), items[i]? = some v→∃ t, v = .int (val i : Int) t) (hsm : ∀ i, i<items.size→val i<32) (hb : items.size≤40)
 (h : ∀ (h' : Heap) (tk : Nat) (o : Obj), h'.get? s.heap.objs.size=some o→ir (b7 w) (b5 val items.size) o →
  (∀ b o, b<s.heap.objs.size→s.heap.get? b=some o→h'.get? b=some o)→Q (.ref s.heap.objs.size) { s with heap := h', toks := tk }) :
 wpAny (model prog w) A (call (.type "set") [.ref l]) Q E s := by
 obtain ⟨c, tl, hmro⟩ := PySem.F.called_set.mro
 have hmade := PySem.F.called_set.made
 have hsub := PySem.F.called_set.sub
 refine wpAny_call (codeAny_of_tree ?_)
 show wpAny _ _ (callAny (.type "set") _) _ _ _
 refine wpAny_pure ⟨Code.quiet_builtin _ (by decide +kernel), codeAny_builtin F.entry_type_call ?_⟩
 rw [Around.under_plain (weight_type_call_type "set" [.ref l] []) rfl]
 have h1 := PySem.F.called_set.notType
 have h2 := PySem.F.called_set.canCreate
 have hct := PySem.F.typeCall_set_1 (.ref l)
 repeat (any_goals (first | assumption | wp_step))
 refine codeAny_mono (lz (.ref l) (E := E) (Q₁ := fun obj s₁ => obj = .ref s.heap.objs.size∧s₁ = { s with heap := s.heap.push (fz w) }) ⟨rfl, rfl⟩) fun r s₁ hr => ?_
 cases r with
 | error e => exact hr
 | ok fl =>
  cases fl with
  | ret obj =>
   obtain ⟨rfl, rfl⟩ := hr
   have hS : (s.heap.push (fz w)).get? s.heap.objs.size=some (fz w) := Heap.get?_push_size _ rfl
   have hT : Shared.TypeIs { s with heap := s.heap.push (fz w) } (.ref s.heap.objs.size) "set" := ⟨_, hS, rfl⟩
   have hli := PySem.F.called_set.init.lookup
   have hbi := PySem.F.called_set.init.bind (.ref s.heap.objs.size)
   repeat (any_goals (first | assumption | wp_step))
   refine codeAny_mono (codeAny_call_builtin (R := wants (fun r s₂ => r = .none∧∃ h' tk o, s₂ = { s with heap := h', toks := tk } ∧ h'.get? s.heap.objs.size=some o∧ir (b7 w) (b5 val items.size) o ∧
    (∀ b o, b<s.heap.objs.size→s.heap.get? b=some o→h'.get? b=some o)) E) PySem.F.called_set.init.plain F.entry_set_init (check_set_init_1 hT ?_)) fun r₂ s₂ hr₂ => ?_
   ·obtain ⟨ol, hol, hcl, nl, hdl⟩ := hl
    obtain ⟨ocls, odict, odata, oslots⟩ := ol
    simp only at hcl hdl
    subst hcl; subst hdl
    have hol' : (s.heap.push (fz w)).get? l=some { cls := .type "list", dict := odict, data := .seq items nl, slots := oslots } := Heap.get?_push_of_some _ hol
    have hsls := PySem.F.sub_list_set
    have hslf := PySem.F.sub_list_frozenset
    have hne : (Value.type "list" == Value.type "dict")=false := by decide
    have hl1 : (s.heap.push (fz w)).IsList l items := ⟨_, hol', rfl, nl, rfl⟩
    unfold Builtin.«set.__init__» noKeywords Builtin.Frozenset.updateFrom
    generalize hPI : pyIter=PI
    wp_walk
    subst hPI
    refine wpAny_pyIter_list hl1 ?_
    refine wpAny_bind (wpAny_runValue ?_)
    have hlS : l<s.heap.objs.size := Heap.lt_size hol
    have hh3 : A.in1.in1.in1.handled=none := by simp [hh]
    have hneI : l ≠ (s.heap.push (fz w)).objs.size := by
     rw [Heap.size_push]; exact Nat.ne_of_lt (Nat.lt_succ_of_lt hlS)
    have hSf : s.heap.objs.size ∉ [(s.heap.push (fz w)).objs.size, l] := by
     rw [Heap.size_push]; simp only [List.mem_cons, List.mem_singleton, List.not_mem_nil, or_false, not_or]
     exact ⟨Nat.ne_of_lt (Nat.lt_succ_self _), Nat.ne_of_gt hlS⟩
    refine kX (b7 w) ((Walks.list hh3 _ l hneI items).toS) s.heap.objs.size hSf val hval hsm hb (items.size - 0) 0 _ (by omega) (Nat.zero_le _)
     ⟨⟨_, Heap.get?_push_size _ rfl, rfl, rfl⟩, (hl1.push _)⟩ ⟨_, Heap.get?_push_of_some _ hS, mG w⟩ ?hR
    case hR =>
     intro s' hm hS'
     obtain ⟨h', g', d', tk', os'⟩ := s'
     have eg : g'=s.gens := hm.gens
     have ed : d'=s.drawn := hm.drawn
     have eo : os'=s.os := hm.os
     subst eg; subst ed; subst eo
     obtain ⟨o', g1, g2⟩ := hS'
     show wpAny _ _ _ _ _ _
     refine wpAny_pure ?_
     show wpAny _ _ (ret Value.none) _ _ _
     refine wpAny_pure ⟨rfl, h', tk', o', rfl, g1, g2, fun b o hb e => ?_⟩
     have hb1 : b ≠ s.heap.objs.size := Nat.ne_of_lt hb
     have hb2 : b ≠ (s.heap.push (fz w)).objs.size := by
      rw [Heap.size_push]; exact Nat.ne_of_lt (Nat.lt_succ_of_lt hb)
     exact hm.heap b o (by simp only [List.mem_cons, List.mem_singleton, List.not_mem_nil, or_false, not_or]; exact ⟨hb1, hb2⟩) (Heap.get?_push_of_some _ (Heap.get?_push_of_some _ e))
   ·cases r₂ with
    | error e => exact hr₂
    | ok fl₂ =>
     cases fl₂ with
     | ret r =>
      obtain ⟨rfl, h', tk, o', rfl, g1, g2, hk'⟩ := hr₂
      repeat (any_goals (first | assumption | wp_step))
      exact h _ _ _ g1 g2 hk'
     | _ => exact hr₂.elim
  | _ => exact hr.elim
end
theorem dr : Slot "set" "__iter__" "set.__iter__" :=
 .of (owner := "set") (n := "__iter__") (by rw [typeLookup_type, builtinLookup_eq_fast]; kernel_rfl) (by decide +kernel) (by decide +kernel) (by decide +kernel)
  (by first | exact .inl (by decide +kernel) | exact .inr (by decide +kernel)) (by rw [isSubtype_type]; kernel_rfl)
theorem fY : entryFor table "set.__iter__" = some Builtin.«frozenset.__iter__» :=
 entryFor_alias (id' := "frozenset.__iter__") (by kernel_rfl) (by first | rfl | decide +kernel | (unfold String.splitOn; simp +decide [String.splitOnAux])) (by decide +kernel) (by kernel_rfl)
theorem gc (a : Value) : argsOk "set.__iter__" ⟨[a], []⟩ := by unfold argsOk; kernel_rfl
theorem bo : Slot "set_iterator" "__next__" "set_iterator.__next__" :=
 .of (owner := "set_iterator") (n := "__next__") (by rw [typeLookup_type, builtinLookup_eq_fast]; kernel_rfl) (by decide +kernel) (by decide +kernel) (by decide +kernel)
  (by first | exact .inl (by decide +kernel) | exact .inr (by decide +kernel)) (by rw [isSubtype_type]; kernel_rfl)
theorem dq : entryFor table "set_iterator.__next__" = some Builtin.«set_iterator.__next__» := entryFor_of_tree (by kernel_rfl)
theorem dP (a : Value) : argsOk "set_iterator.__next__" ⟨[a], []⟩ := by unfold argsOk; kernel_rfl
theorem d6 : Slot "set_iterator" "__iter__" "set_iterator.__iter__" :=
 .of (owner := "set_iterator") (n := "__iter__") (by rw [typeLookup_type, builtinLookup_eq_fast]; kernel_rfl) (by decide +kernel) (by decide +kernel) (by decide +kernel)
  (by first | exact .inl (by decide +kernel) | exact .inr (by decide +kernel)) (by rw [isSubtype_type]; kernel_rfl)
theorem gT (a : Value) : argsOk "set_iterator.__iter__" ⟨[a], []⟩ := by unfold argsOk; kernel_rfl
theorem gi : entryFor table "set_iterator.__iter__" = some Builtin.«dict_keyiterator.__iter__» :=
 entryFor_alias (id' := "dict_keyiterator.__iter__") (by kernel_rfl) (by first | rfl | decide +kernel | (unfold String.splitOn; simp +decide [String.splitOnAux])) (by decide +kernel) (by kernel_rfl)
theorem eT {α : Type} : ∀ (l : List α) (i : Nat) (h : i<l.length), (l[i] :: l.eraseIdx i).Perm l
 | [], _, h => by simp at h
 | x :: l, 0, _ => .refl _
 | x :: l, i + 1, h => (List.Perm.swap x _ _).trans (List.Perm.cons x (eT l i (by simpa using h)))
theorem j_ {α : Type} (next : Nat→Nat) : ∀ (fuel k : Nat) (left : List α) (out : Array α), left.length≤fuel→(pickOrder.go next fuel k left out).toList.Perm (out.toList++left)
 | 0, k, left, out, h => by
  have : left=[] := List.length_eq_zero_iff.mp (by omega)
  subst this
  rw [pickOrder.go]; simp
 | fuel + 1, k, left, out, h => by
  rw [pickOrder.go]
  cases e : left[next k % left.length]? with
  | none =>
   cases left with
   | nil => simp
   | cons x l =>
    have := Nat.mod_lt (next k) (show 0<(x :: l).length by simp)
    rw [List.getElem?_eq_getElem this] at e; cases e
  | some x =>
   obtain ⟨hl, hx⟩ := List.getElem?_eq_some_iff.mp e
   have ih := j_ next fuel (k + 1) (left.eraseIdx (next k % left.length)) (out.push x) (by rw [List.length_eraseIdx_of_lt hl]; omega)
   refine ih.trans ?_
   rw [Array.toList_push, List.append_assoc]
   refine List.Perm.append_left _ ?_
   have := eT left _ hl
   rw [hx] at this
   exact this
theorem kR {α : Type} (next : Nat→Nat) (xs : Array α) : (pickOrder next xs).toList.Perm xs.toList := by
 have := j_ next xs.size 0 xs.toList #[] (by rw [Array.length_toList]; exact Nat.le_refl _)
 simpa [pickOrder] using this
def aY (w : World) (a : Addr) (ep : Nat) (es : Array (Int×Value)) : Array (Int×Value) := if w.params.followText "set-order" = true then pickOrder (w.params.setOrder a ep) es else es
theorem eK (w : World) (a : Addr) (ep : Nat) (es : Array (Int×Value)) : (aY w a ep es).toList.Perm es.toList := by
 unfold aY; split
 ·exact kR _ _
 ·exact .refl _
theorem ci (w : World) (a : Addr) (ep : Nat) (es : Array (Int×Value)) : (aY w a ep es).size=es.size := by
 have := (eK w a ep es).length_eq
 simpa using this
section
variable {prog : Program} {w : World} {A : Around} {E : Value→Shared→Prop} {s : Shared}
theorem jE {S : Addr} {o : Obj} {es : Array (Int×Value)} {ep : Nat} {t : SetTable} {ns : List Int} (ho : s.heap.get? S=some o) (hd : o.data = .set es ep t) (T : TabS (b7 w) ns es t) {slot i : Nat} (hs : w.params.followText "set-order" = false→SetTable.below t.place slot=i) (hi : i≤es.size) {Q : Option (Value×Nat)→Shared→Prop}
 (h1 : ∀ slot' x, (w.params.followText "set-order" = false→SetTable.below t.place slot'=i + 1)→(aY w S ep es)[i]? = some x→Q (some (x.2, slot')) s)
 (h2 : (aY w S ep es)[i]? = none→Q none s) :
 wpAny (model prog w) A (setNext S slot i ep) Q E s := by
 have hf := T.tab.fits
 unfold setNext setsByText
 refine wpAny_bind (wpAny_setState_of ho hd hf ?_)
 dsimp only
 refine wpAny_bind (wpAny_bind (wpAny_askSetting (wpAny_pure ?_)))
 dsimp only
 show wpAny _ _ (if w.params.followText "set-order" = true then _ else _) _ _ _
 by_cases c : w.params.followText "set-order" = true
 ·rw [if_pos c]
  show wpAny _ _ (if (ep != ep)=true then _ else _) _ _ _
  rw [if_neg (by simp)]
  unfold setWalk setsByText
  refine wpAny_bind (wpAny_bind (wpAny_setState_of ho hd hf ?_))
  dsimp only
  refine wpAny_bind (wpAny_bind (wpAny_askSetting (wpAny_pure ?_)))
  dsimp only
  show wpAny _ _ (if w.params.followText "set-order" = true then _ else _) _ _ _
  rw [if_pos c]
  refine wpAny_bind (wpAny_askSetting (wpAny_pure ?_))
  dsimp only
  refine wpAny_pure ?_
  have ew : aY w S ep es=pickOrder (w.params.setOrder S ep) es := by unfold aY; rw [if_pos c]
  rw [ew] at h1 h2
  show Q (((pickOrder (w.params.setOrder S ep) es)[i]?).map fun e => (e.2, slot)) s
  cases e : (pickOrder (w.params.setOrder S ep) es)[i]? with
  | none => exact h2 e
  | some x => exact h1 slot x (fun d => by rw [c] at d; cases d) e
 ·rw [if_neg c]
  have c' : w.params.followText "set-order" = false := by simpa using c
  have hl : t.led=true := by rw [T.tab.ld]; unfold b7; rw [c']; rfl
  show wpAny _ _ (if (!t.plain&&decide (es.size > 1))=true then _ else _) _ _ _
  rw [if_neg (by rw [T.tab.pl]; simp)]
  refine wpAny_bind ?_
  show wpAny _ _ (if (!t.led && !es.isEmpty)=true then _ else pure ()) _ _ _
  rw [if_neg (by rw [hl]; simp)]
  refine wpAny_pure ?_
  have hs' := hs c'
  have ew : aY w S ep es=es := by unfold aY; rw [if_neg c]
  rw [ew] at h1 h2
  (try dsimp only)
  rw [hs']
  refine wpAny_pure ?_
  have hsz := T.tab.sz
  by_cases d : i<es.size
  ·have e1 : es[i]? = some es[i] := Array.getElem?_eq_getElem d
   have e2 : t.place[i]? = some (t.place[i]'(by omega)) := Array.getElem?_eq_getElem (by omega)
   have q := h1 (t.place[i]'(by omega) + 1) es[i] (fun _ => lG _ T.tab.up e2) e1
   rw [e1, e2]
   exact q
  ·have e1 : es[i]? = none := Array.getElem?_eq_none (by omega)
   rw [e1]
   exact h2 e1
end
section
variable {prog : Program} {w : World} {A : Around} {E : Value→Shared→Prop} {s : Shared}
def gj (h : Heap) (I S : Addr) (slot i n ep : Nat) : Prop := ∃ o, h.get? I=some o∧o.cls = .type "set_iterator" ∧ o.data = .fields #[rawInt (slot : Int), rawInt (i : Int), .ref S, rawInt (n : Int), rawInt (ep : Int)]
theorem gj.typeIs {I S : Addr} {slot i n ep : Nat} (x : gj s.heap I S slot i n ep) : s.TypeIs (.ref I) "set_iterator" := let ⟨o, ho, hc, _⟩ := x; ⟨o, ho, hc⟩
theorem gj.at {h h' : Heap} {I S : Addr} {slot i n ep : Nat} (x : gj h I S slot i n ep) (e : ∀ o, h.get? I=some o→h'.get? I=some o) : gj h' I S slot i n ep := let ⟨o, ho, r⟩ := x; ⟨o, e _ ho, r⟩
theorem eX {a : Addr} {o : Obj} {vs : Array Value} {Q : Array Value→Shared→Prop} (ho : s.heap.get? a=some o) (hd : o.data = .fields vs) (h : Q vs s) : wpAny (model prog w) A (fieldsOf (.ref a)) Q E s := by
 unfold fieldsOf
 refine wpAny_bind (wpAny_load ho ?_)
 rw [hd]
 exact wpAny_pure h
theorem pe {I S : Addr} {o : Obj} {es : Array (Int×Value)} {ep : Nat} {t : SetTable} {ns : List Int} {slot i : Nat} {x : Int×Value} {Q : Option Value→Shared→Prop} (hit : gj s.heap I S slot i es.size ep) (ho : s.heap.get? S=some o) (hd : o.data = .set es ep t) (T : TabS (b7 w) ns es t) (hs : w.params.followText "set-order" = false→SetTable.below t.place slot=i) (hx : (aY w S ep es)[i]? = some x)
 (hQ : ∀ h' slot', gj h' I S slot' (i + 1) es.size ep→(w.params.followText "set-order" = false→SetTable.below t.place slot'=i + 1)→Heap.SameBut I s.heap h'→Q (some x.2) { s with heap := h' }) : wpAny (model prog w) A (pyNext (.ref I)) Q E s := by
 obtain ⟨oi, hoi, hci, hdi⟩ := id hit
 have hi : i<es.size := by rw [← ci w S ep es]; exact (Array.getElem?_eq_some_iff.mp hx).1
 unfold pyNext
 refine wpAny_bind (wpAny_attempt (wpAny_callSpecial?_slot (name := Str.ofString "__next__") hit.typeIs bo
  (wpAny_call_entry bo hit.typeIs dq ?_ (dP _))))
 unfold Builtin.«set_iterator.__next__»
 refine wpAny_bind (wpAny_of_eq (a := (Value.ref I, [])) rfl ?_)
 (try dsimp only)
 refine wpAny_bind (eX hoi hdi ?_)
 show wpAny _ _ (setEntries S >>= _) _ _ s
 refine wpAny_bind (wpAny_setEntries_of ho hd T.tab.fits ?_)
 show wpAny _ _ (if ((es.size : Int) != (es.size : Int))=true then _ else _) _ _ s
 rw [if_neg (by simp)]
 show wpAny _ _ (setNext S (Int.toNat (slot : Int)) (Int.toNat (i : Int)) (Int.toNat (ep : Int)) >>= _) _ _ s
 rw [Int.toNat_natCast, Int.toNat_natCast, Int.toNat_natCast]
 refine wpAny_bind (jE ho hd T hs (Nat.le_of_lt hi) (fun slot' y hb hy => ?_) (fun hn => by rw [hn] at hx; cases hx))
 rw [hx] at hy
 cases hy
 show wpAny _ _ (setField (.ref I) 0 (rawInt (slot' : Int)) >>= _) _ _ s
 refine wpAny_bind (wpAny_setField hoi hdi (by simp) ?_)
 have g1 := Heap.get?_update_self (Obj.mapFields (·.setIfInBounds 0 (rawInt (slot' : Int)))) hoi (Obj.isFreed_of_fields (Obj.data_mapFields hdi _))
 have d1 : (Obj.mapFields (·.setIfInBounds 0 (rawInt (slot' : Int))) oi).data = .fields #[rawInt (slot' : Int), rawInt (i : Int), .ref S, rawInt (es.size : Int), rawInt (ep : Int)] := by rw [Obj.data_mapFields hdi]; simp
 refine wpAny_bind (wpAny_setField g1 d1 (by simp) (wpAny_pure ⟨x.2, rfl, wpAny_pure (hQ _ slot' ?_ hb ((Heap.SameBut.update ..).trans (Heap.SameBut.update ..)))⟩))
 exact ⟨_, Heap.get?_update_self _ g1 (Obj.isFreed_of_fields (Obj.data_mapFields d1 _)), (Obj.cls_mapFields ..).trans ((Obj.cls_mapFields ..).trans hci), by
  rw [Obj.data_mapFields d1]; simp [rawInt]⟩
theorem p7 {I S : Addr} {o : Obj} {es : Array (Int×Value)} {ep : Nat} {t : SetTable} {ns : List Int} {slot : Nat} {Q : Option Value→Shared→Prop} (hh : A.handled=none) (hit : gj s.heap I S slot es.size es.size ep) (ho : s.heap.get? S=some o) (hd : o.data = .set es ep t) (T : TabS (b7 w) ns es t) (hs : w.params.followText "set-order" = false→SetTable.below t.place slot=es.size)
 (hQ : ∀ h', Heap.ExtBut I s.heap h'→Q none { s with heap := h' }) : wpAny (model prog w) A (pyNext (.ref I)) Q E s := by
 obtain ⟨oi, hoi, hci, hdi⟩ := id hit
 have hx : (aY w S ep es)[es.size]? = none := Array.getElem?_eq_none (by rw [ci]; exact Nat.le_refl _)
 unfold pyNext
 refine wpAny_bind (wpAny_attempt (wpAny_callSpecial?_slot (name := Str.ofString "__next__") hit.typeIs bo
  (wpAny_call_entry bo hit.typeIs dq ?_ (dP _))))
 unfold Builtin.«set_iterator.__next__»
 refine wpAny_bind (wpAny_of_eq (a := (Value.ref I, [])) rfl ?_)
 (try dsimp only)
 refine wpAny_bind (eX hoi hdi ?_)
 show wpAny _ _ (setEntries S >>= _) _ _ s
 refine wpAny_bind (wpAny_setEntries_of ho hd T.tab.fits ?_)
 show wpAny _ _ (if ((es.size : Int) != (es.size : Int))=true then _ else _) _ _ s
 rw [if_neg (by simp)]
 show wpAny _ _ (setNext S (Int.toNat (slot : Int)) (Int.toNat (es.size : Int)) (Int.toNat (ep : Int)) >>= _) _ _ s
 rw [Int.toNat_natCast, Int.toNat_natCast, Int.toNat_natCast]
 refine wpAny_bind (jE ho hd T hs (Nat.le_refl _) (fun slot' y hb hy => by rw [hx] at hy; cases hy) (fun hn => ?_))
 show wpAny _ _ (setField (.ref I) 2 .none >>= _) _ _ s
 refine wpAny_bind (wpAny_setField hoi hdi (by simp) ?_)
 show wpAny _ _ (newExc (.type "StopIteration") [] >>= _) _ _ _
 refine wpAny_bind ?_
 simp only [newExc, newTuple]
 refine wpAny_bind (wpAny_newObj_type ?_ (by size_fits))
 refine wpAny_bind (m := firstArgMember _ _) (wpAny_of_eq (a := Value.none) (by first | rfl | (simp only [firstArgMember]; rfl)) ?_)
 refine wpAny_newObj_type ?_ (by size_fits)
 simp only [raiseNew]
 refine wpAny_bind (wpAny_handled ?_)
 rw [show A.in1.handled=none from hh]
 refine wpAny_bind (wpAny_pure (wpAny_throw ?_))
 refine wpAny_bind (wpAny_isInstance (T := "StopIteration") (b := true) ⟨_, Heap.get?_push_size _ rfl, rfl⟩ isSubtype_stop ?_)
 exact wpAny_pure (hQ _ (((Heap.SameBut.update ..).extBut.push _).push _))
theorem o7 {I S : Addr} {slot i n ep : Nat} {Q : Value→Shared→Prop} (hit : gj s.heap I S slot i n ep) (h : Q (.ref I) s) : wpAny (model prog w) A (pyIter (.ref I)) Q E s := by
 refine wpAny_pyIter_slot hit.typeIs d6 (wpAny_call_entry d6 hit.typeIs gi ?_ (gT _))
 show wpAny _ _ (ret (.ref I)) _ _ s
 exact wpAny_pure ⟨_, rfl, "set_iterator", _, hit.typeIs, bo.lookup, h⟩
end
theorem kJ {prog : Program} {w : World} {A : Around} (hh : A.handled=none) (I S : Addr) (hne : S ≠ I) {o : Obj} {es : Array (Int×Value)} {ep : Nat} {t : SetTable} {ns : List Int} (hd : o.data = .set es ep t) (T : TabS (b7 w) ns es t) :
 Walks prog w A I [I, S] [I] es.size (fun i v => ∃ x, (aY w S ep es)[i]? = some x∧v=x.2) (fun i h => h.get? S=some o∧∃ slot, gj h I S slot i es.size ep∧(w.params.followText "set-order" = false→SetTable.below t.place slot=i)) where
 sub := fun b hb => by simp at hb; simp [hb]
 frame := fun _ _ _ x hk => let ⟨h1, slot, h2, h3⟩ := x; ⟨hk S (by simp) _ h1, slot, h2.at fun o e => hk I (by simp) o e, h3⟩
 item := fun i s Q E hi x hQ => by
  obtain ⟨h1, slot, h2, h3⟩ := x
  have hx : (aY w S ep es)[i]? = some ((aY w S ep es)[i]'(by rw [ci]; exact hi)) := Array.getElem?_eq_getElem (by rw [ci]; exact hi)
  refine pe h2 h1 hd T h3 hx fun h' slot' a1 a2 a3 => ?_
  exact hQ _ h' s.toks ⟨_, hx, rfl⟩ ⟨by rw [a3.2 S hne]; exact h1, slot', a1, a2⟩ fun b o hb eo => a3.extBut b o (fun h => hb (by simp [h])) eo
 done := fun s Q E x hQ => by
  obtain ⟨h1, slot, h2, h3⟩ := x
  exact p7 hh h2 h1 hd T h3 fun h' he' => hQ h' s.toks fun b o hb eo => he' b o (fun h => hb (by simp [h])) eo
 self := fun _ _ _ _ x hQ => let ⟨_, _, h2, _⟩ := x; o7 h2 hQ
section
variable {prog : Program} {w : World} {A : Around} {E : Value→Shared→Prop} {s : Shared}
theorem nC {S : Addr} {o : Obj} {es : Array (Int×Value)} {ep : Nat} {t : SetTable} {ns : List Int} (ho : s.heap.get? S=some o) (hex : o.ExactSet) (hd : o.data = .set es ep t) (T : TabS (b7 w) ns es t) {Q : Value→Shared→Prop}
 (hQ : Q (.ref s.heap.objs.size) { s with heap := s.heap.push { cls := .type "set_iterator", data := .fields #[rawInt 0, rawInt 0, .ref S, rawInt (es.size : Int), rawInt (ep : Int)] } }) : wpAny (model prog w) A (pyIter (.ref S)) Q E s := by
 have hT : s.TypeIs (.ref S) "set" := ⟨o, ho, hex.1⟩
 have hf := T.tab.fits
 refine wpAny_pyIter_slot hT dr (wpAny_call_entry dr hT fY ?_ (gc _))
 unfold Builtin.«frozenset.__iter__»
 refine wpAny_bind (wpAny_of_eq (a := S) rfl ?_)
 unfold Builtin.Frozenset.sizeOf
 refine wpAny_bind (wpAny_bind (wpAny_setEntries_of ho hd hf (wpAny_pure ?_)))
 unfold setDrawn setsByText
 refine wpAny_bind (wpAny_bind ?_)
 refine wpAny_setState_of ho hd hf ?_
 dsimp only
 refine wpAny_bind (wpAny_bind (wpAny_askSetting (wpAny_pure ?_)))
 dsimp only
 refine wpAny_pure ?_
 have hdr : (!(w.params.followText "set-order")&&(!t.plain&&decide (es.size > 1)))=false := by rw [T.tab.pl]; simp
 show wpAny _ _ (if (!(w.params.followText "set-order")&&(!t.plain&&decide (es.size > 1)))=true then _ else _) _ _ _
 rw [hdr, if_neg (by decide)]
 refine wpAny_bind (wpAny_pure ?_)
 (try dsimp only)
 refine wpAny_bind (wpAny_setEpoch_of ho hd hf ?_)
 exact wpAny_bind (wpAny_newObj_type (wpAny_pure ⟨_, rfl, "set_iterator", _, ⟨_, Heap.get?_push_size _ rfl, rfl⟩, bo.lookup, hQ⟩))
end
theorem n6 : typeLookup (.type "set") "__len__" = pure (some (.builtin "set.__len__")) := by rw [typeLookup_type, builtinLookup_eq_fast]; kernel_rfl
theorem nB : ∀ {l : List (Int×Value)}, fC l→IntsAre (l.map (·.2)) (l.map bM)
 | [], _ => .nil
 | e :: l, h => by
  obtain ⟨a, tk, a1, rfl⟩ := h e List.mem_cons_self
  exact .cons _ _ (nB fun x hx => h x (List.mem_cons_of_mem _ hx))
def WkP (wk : Array (Int×Value)) (i : Nat) (v : Value) : Prop := ∃ x, wk[i]? = some x∧v=x.2
theorem iu {wk : Array (Int×Value)} {acc : Array Value} (h : ItemsOf (WkP wk) acc wk.size) : acc.toList=wk.toList.map (·.2) := by
 apply List.ext_getElem?
 intro i
 by_cases c : i<acc.size
 ·obtain ⟨x, hx, e⟩ := h.2 i acc[i] (Array.getElem?_eq_getElem c)
  rw [List.getElem?_map, Array.getElem?_toList, Array.getElem?_toList, hx, Array.getElem?_eq_getElem c, e]; rfl
 ·have h1 := h.1
  rw [List.getElem?_eq_none (by rw [Array.length_toList]; omega), List.getElem?_eq_none (by rw [List.length_map, Array.length_toList]; omega)]
section
variable {prog : Program} {w : World} {A : Around} {E : Value→Shared→Prop} {s : Shared}
abbrev bv : Obj := { cls := .type "list", data := .seq ([] : List Value).toArray }
theorem iS {S : Addr} {o : Obj} {es : Array (Int×Value)} {ep : Nat} {t : SetTable} {ns : List Int} (hh : A.handled=none) (ho : s.heap.get? S=some o) (hex : o.ExactSet) (hd : o.data = .set es ep t) (T : TabS (b7 w) ns es t) (hn : ns.length≤40) {Q : List Value→Shared→Prop}
 (h : ∀ h' tk acc, (∀ b o, s.heap.get? b=some o→h'.get? b=some o)→s.heap.objs.size<h'.objs.size→ItemsOf (WkP (aY w S ep es)) acc (aY w S ep es).size→Q acc.toList { s with heap := h', toks := tk }) :
 wpAny (model prog w) A (collect (.ref S)) Q E s := by
 have hS : S<s.heap.objs.size := Heap.lt_size ho
 have hle := T.le
 unfold collect
 apply wpAny_bind
 refine wpAny_runValue (codeAny_builtin F.entry_proto_collect ?_)
 rw [Around.under_plainId F.plain_proto_collect _]
 show wpAny _ A.in1 (newList [] >>= fun l => again (.builtin "list.__iadd__" ⟨[l, .ref S], []⟩)) _ _ s
 apply wpAny_bind
 refine wpAny_newObj_type ?_
 refine wpAny_pure ⟨plainId_quiet F.plain_list_iadd _, codeAny_builtin F.entry_list_iadd ?_⟩
 rw [Around.under_plainId F.plain_list_iadd _]
 have g1 : (s.heap.push bv).get? S=some o := Heap.get?_push_of_some _ ho
 have gL : (s.heap.push bv).get? s.heap.objs.size=some bv := Heap.get?_push_size _ rfl
 have hT : Shared.TypeIs { s with heap := s.heap.push bv } (.ref S) "set" := ⟨o, g1, hex.1⟩
 have n1 : Builtin.List.listSameRef (.ref s.heap.objs.size) (.ref S)=false := by simp [Builtin.List.listSameRef]; exact Nat.ne_of_gt hS
 show wpAny _ A.in1 (Builtin.List.listExtendWith (.ref s.heap.objs.size) (.ref S) (.ref s.heap.objs.size)) _ _ _
 unfold Builtin.List.listExtendWith
 apply wpAny_bind
 refine wpAny_typeOf hT ?_
 rw [if_neg (by rw [n1]; decide)]
 apply wpAny_bind
 refine nC (s := { s with heap := s.heap.push bv }) g1 hex hd T ?_
 have hT2 : Shared.TypeIs { s with heap := (s.heap.push bv).push { cls := .type "set_iterator", data := .fields #[rawInt 0, rawInt 0, .ref S, rawInt (es.size : Int), rawInt (ep : Int)] } } (.ref S) "set" := ⟨o, Heap.get?_push_of_some _ g1, hex.1⟩
 apply wpAny_bind
 refine wpAny_holding ?_
 unfold Builtin.List.listLengthHint
 apply wpAny_bind
 refine wpAny_specialOf hT2 n6 ?_
 (generalize hid : ("set.__len__" : String)=id0; wp_delta; rw [show splitId id0=some ("set", "__len__") from by subst hid; decide +kernel]; subst hid)
 refine wpAny_bind (wpAny_isInstance (b := true) hT2 sub_set_self ?_)
 show wpAny _ _ (typeOf (.ref S) >>= _) _ _ _
 apply wpAny_bind
 refine wpAny_typeOf hT2 ?_
 refine wpAny_pure ?_
 show wpAny _ A.in1 (rule "list.extend.makes-room" >>= fun _ => Builtin.List.listTouch (.ref s.heap.objs.size) >>= fun _ =>
  again (.builtin "list.extend.loop" ⟨[.ref s.heap.objs.size, .ref (s.heap.push bv).objs.size, .ref s.heap.objs.size], []⟩)) _ _ _
 apply wpAny_bind
 refine wpAny_rule ?_
 apply wpAny_bind
 have eI : (s.heap.push bv).objs.size=s.heap.objs.size + 1 := size_push' _ _
 generalize hH : (s.heap.push bv).push ({ cls := .type "set_iterator", data := .fields #[rawInt 0, rawInt 0, .ref S, rawInt (es.size : Int), rawInt (ep : Int)] } : Obj)=H2
 have k2 : ∀ b o, (s.heap.push bv).get? b=some o→H2.get? b=some o := fun b o e => by rw [← hH]; exact Heap.get?_push_of_some _ e
 have gI : H2.get? (s.heap.push bv).objs.size=some { cls := .type "set_iterator", data := .fields #[rawInt 0, rawInt 0, .ref S, rawInt (es.size : Int), rawInt (ep : Int)] } := by rw [← hH]; exact Heap.get?_push_size _ rfl
 have s1 : H2.get? s.heap.objs.size=some bv := k2 _ _ gL
 show wpAny _ A.in1 (updateSeq s.heap.objs.size (·.push .none) >>= fun _ => updateSeq s.heap.objs.size (·.pop)) _ _ _
 apply wpAny_bind
 refine wpAny_updateSeq s1 rfl ?_
 have s2 := Heap.get?_update_self (Obj.mapSeq (·.push Value.none)) s1 rfl
 refine wpAny_updateSeq s2 rfl ?_
 have s3 := Heap.get?_update_self (Obj.mapSeq (·.pop)) s2 rfl
 have oth : ∀ b o, b ≠ s.heap.objs.size→H2.get? b=some o→((H2.update s.heap.objs.size (Obj.mapSeq (·.push Value.none))).update s.heap.objs.size (Obj.mapSeq (·.pop))).get? b=some o :=
  fun b o hb e => (Heap.get?_update_other _ _ (Ne.symm hb)).trans ((Heap.get?_update_other _ _ (Ne.symm hb)).trans e)
 have nS : S ≠ s.heap.objs.size := Nat.ne_of_lt hS
 have nS1 : S ≠ s.heap.objs.size + 1 := Nat.ne_of_lt (Nat.lt_succ_of_lt hS)
 have hLf : s.heap.objs.size ∉ [(s.heap.push bv).objs.size, S] := by
  rw [eI]
  simp only [List.mem_cons, List.not_mem_nil, or_false, not_or]
  exact ⟨Nat.ne_of_lt (Nat.lt_succ_self _), Ne.symm nS⟩
 have hne : S ≠ (s.heap.push bv).objs.size := by rw [eI]; exact nS1
 have W := (kJ (prog := prog) (w := w) (A := A.in1) (by simp [hh]) (s.heap.push bv).objs.size S hne hd T).toS
 have esz : (aY w S ep es).size=es.size := ci ..
 refine wpAny_pure ⟨plainId_quiet F.plain_extend_loop _, codeAny_extend_loopS W (by unfold sizeLine; omega) _ hLf _ es.size 0 _ _ _ rfl (Nat.zero_le _)
  ⟨oth _ _ nS (k2 _ _ g1), 0, ⟨_, oth _ _ (by rw [eI]; exact Nat.ne_of_gt (Nat.lt_succ_self _)) gI, rfl, rfl⟩, fun _ => nq _ T.tab.up⟩ s3 (ItemsOf.nil _) fun s' acc' c' hm hS' hacc => ?_⟩
 show wpAny _ A (load s.heap.objs.size >>= _) _ _ s'
 refine wpAny_bind (wpAny_load hS' ?_)
 obtain ⟨h', g', d', tk', os'⟩ := s'
 have eg : g'=s.gens := hm.gens
 have ed : d'=s.drawn := hm.drawn
 have eo : os'=s.os := hm.os
 subst eg; subst ed; subst eo
 refine wpAny_pure (h h' tk' acc' (fun b o e => ?_) (Heap.lt_size hS') (by rw [esz]; exact hacc))
 have hb := Heap.lt_size e
 refine hm.heap b o (fun c => ?_) (oth b o (Nat.ne_of_lt hb) (k2 _ _ (Heap.get?_push_of_some _ e)))
 rcases List.mem_cons.mp c with c | c
 ·exact Nat.ne_of_lt hb c
 ·rw [eI] at c
  exact Nat.ne_of_lt (Nat.lt_succ_of_lt hb) (List.mem_singleton.mp c)
theorem jn {S : Addr} {o : Obj} {es : Array (Int×Value)} {ep : Nat} {t : SetTable} {ns : List Int} (hh : A.handled=none) (ho : s.heap.get? S=some o) (hex : o.ExactSet) (hd : o.data = .set es ep t) (T : TabS (b7 w) ns es t) (hn : ns.length≤40) {Q : Value→Shared→Prop}
 (h : ∀ h' tk L (out : Array Value) (ks : List Int) (c : Nat), (∀ b o, s.heap.get? b=some o→h'.get? b=some o)→s.heap.objs.size≤L→h'.get? L=some { cls := .type "list", data := .seq out c } → IntsAre out.toList ks→ks.Pairwise (· < ·)→(∀ k, k∈ks↔k∈ns)→ks.length≤40→Q (.ref L) { s with heap := h', toks := tk }) :
 wpAny (model prog w) A (call (.builtin "sorted") [.ref S]) Q E s := by
 have hle := T.le
 refine Calls.call_function_entry kind_sorted plain_sorted entry_sorted (args_sorted1 _) ?_
 unfold Builtin.«sorted»
 apply wpAny_bind
 refine wpAny_pure ?_
 apply wpAny_bind
 refine iS (by simp [hh]) ho hex hd T hn fun h' tk acc k1 l1 hacc => ?_
 apply wpAny_bind
 refine wpAny_newList ?_ (by rw [iu hacc, List.length_map, (eK w S ep es).length_eq, Array.length_toList]; unfold sizeLine; omega)
 have hv := iu hacc
 have hp := eK w S ep es
 have hsm : fC (aY w S ep es).toList := fun e he => T.sm e (hp.mem_iff.mp he)
 have hI := nB hsm
 rw [← hv] at hI
 have hlen : acc.toList.length=es.size := by rw [hv, List.length_map, hp.length_eq, Array.length_toList]
 have hnd : ((aY w S ep es).toList.map bM).Nodup := (hp.map bM).nodup_iff.mpr T.nd
 have hmem : ∀ k, k∈(aY w S ep es).toList.map bM↔k∈ns := fun k => by rw [(hp.map bM).mem_iff]; exact T.mem k
 have hoL : (h'.push (seqObj "list" acc.toList.toArray 0)).get? h'.objs.size=some (seqObj "list" acc.toList.toArray 0) := Heap.get?_push_size _ rfl
 refine wpAny_bind (wpAny_holding (wpAny_call_entry slot_list_sort ⟨_, hoL, rfl⟩ entry_list_sort (list_sort_tree hoL hI (by omega) fun out ns' a1 a2 a3 => ⟨_, rfl, ?_⟩) (args_list_sort _)))
 have hnd2 : ns'.Nodup := a2.nodup_iff.mpr hnd
 have hlt : ns'.Pairwise (· < ·) := (a3.and hnd2).imp fun z => by have := z.1; have := z.2; omega
 obtain ⟨c, hc⟩ : ∃ c, (sortedHeap (h'.push (seqObj "list" acc.toList.toArray 0)) h'.objs.size acc.toList out).get? h'.objs.size=some (seqObj "list" out c) := by
  unfold sortedHeap
  have u1 := get?_update_seq hoL (fun _ => #[])
  have u2 := Heap.get?_push_of_some (seqObj "tuple" acc.toList.toArray 0) u1
  have u3 := Heap.get?_push_of_some (seqObj "list" #[] 0) u2
  exact ⟨_, get?_update_seq u3 (fun _ => out)⟩
 refine wpAny_pure ⟨_, rfl, h _ tk h'.objs.size out ns' c (fun b o e => ?_) (Nat.le_of_lt l1) hc a1 hlt (fun k => by rw [a2.mem_iff]; exact hmem k) (by rw [a2.length_eq, List.length_map, hp.length_eq, Array.length_toList]; omega)⟩
 have e' := k1 b o e
 have nb : b ≠ h'.objs.size := Nat.ne_of_lt (Heap.lt_size e')
 unfold sortedHeap
 have v1 := Heap.get?_push_of_some (seqObj "list" acc.toList.toArray 0) e'
 have v2 := (Heap.get?_update_other (h'.push (seqObj "list" acc.toList.toArray 0)) (Obj.mapSeq fun _ => #[]) (Ne.symm nb)).trans v1
 have v3 := Heap.get?_push_of_some (seqObj "tuple" acc.toList.toArray 0) v2
 have v4 := Heap.get?_push_of_some (seqObj "list" #[] 0) v3
 exact (Heap.get?_update_other _ (Obj.mapSeq fun _ => out) (Ne.symm nb)).trans v4
end
end L2
namespace L2
open PySem PySem.Spec PyProof.Rows
def m8 (w : World) (a : Addr) (ns : List Int) : Heap→Prop := fun h => ∃ o, h.get? a=some o∧ir (b7 w) ns o
section
variable {X : Cx}
theorem kN (hc : X.calm=true) : bH X (.type "set") (fun xs H Q => ∃ (a : Addr) (ns : List Int), xs=[.ref a]∧H a=some (.lst (ns.map V.int))∧ns.length≤40∧(∀ k∈ns, 0≤k∧k<32)∧∀ p, H p=none→Q (.ref p) (upd H p (.ext (m8 X.w p ns)))) := by
 (try refine ⟨?_⟩); intro pins s σ H xs us Q I r h
 obtain ⟨a, ns, rfl, ha, hl, hb, q⟩ := h
 obtain ⟨u, rfl, ru⟩ := du r
 cases ru
 obtain ⟨z, its, n, rv, hlen, e⟩ := I.lstM ha
 have hln : its.length=ns.length := by rw [← hlen, List.length_map]
 have hsz : its.toArray.size=ns.length := by rw [List.size_toArray]; exact hln
 have hI : IntsAre its ns := by simpa using fP rv
 have hb' : ∀ i, i<ns.length→0≤ns.getD i 0∧ns.getD i 0<32 := fun i hi => by
  have : ns.getD i 0∈ns := by rw [List.getD_eq_getElem?_getD, List.getElem?_eq_getElem hi]; exact List.getElem_mem hi
  exact hb _ this
 have ev : b5 (fun i => (ns.getD i 0).toNat) ns.length=ns := by
  unfold b5
  apply List.ext_getElem?
  intro i
  rw [List.getElem?_map]
  by_cases c : i<ns.length
  ·have := hb' i c
   rw [List.getElem?_range c, List.getElem?_eq_getElem c]
   have e2 : ns.getD i 0=ns[i] := by rw [List.getD_eq_getElem?_getD, List.getElem?_eq_getElem c]; rfl
   rw [e2] at this
   show some (((ns.getD i 0).toNat : Int))=_
   rw [e2, Int.toNat_of_nonneg this.1]
  ·rw [List.getElem?_eq_none (by simpa using c), List.getElem?_eq_none (by omega)]; rfl
 refine kF (items := its.toArray) (val := fun i => (ns.getD i 0).toNat) (I.ok.hd hc) (PySem.IsL.isList (n := n) e) (fun i v hv => ?_) (fun i hi => ?_) (by rw [hsz]; exact hl) fun h' tk o g1 g2 hk => ?_
 ·obtain ⟨t, e1⟩ := IntsAre.int_at hI i v (by simpa using hv)
  have hi : i<ns.length := by rw [← hsz]; exact (Array.getElem?_eq_some_iff.mp hv).1
  exact ⟨t, by rw [e1, Int.toNat_of_nonneg (hb' i hi).1]⟩
 ·rw [hsz] at hi
  have := hb' i hi
  show (ns.getD i 0).toNat<32
  omega
 rw [hsz, ev] at g2
 exact ⟨.ref s.heap.objs.size, _, I.laid (a := s.heap.objs.size) (o := .ext (m8 X.w s.heap.objs.size ns)) (fun b o hb => hk b o (Heap.lt_size hb) hb) (Nat.le_refl _) ⟨⟨o, g1, g2⟩, ⟨o, g1⟩, fun h1 h2 ⟨o', a1, a2⟩ kk => ⟨o', kk _ a1, a2⟩⟩, rfl, q _ (I.hok.fresh (Nat.le_refl _))⟩
theorem g9 (hc : X.calm=true) : bH X (.builtin "sorted") (fun xs H Q => ∃ (a : Addr) (ns : List Int), xs=[.ref a]∧H a=some (.ext (m8 X.w a ns))∧ns.length≤40∧∀ ks : List Int, ks.Pairwise (· < ·)→(∀ k, k∈ks↔k∈ns)→ks.length≤40→∀ p, H p=none→Q (.ref p) (upd H p (.lst (ks.map V.int)))) := by
 (try refine ⟨?_⟩); intro pins s σ H xs us Q I r h
 obtain ⟨a, ns, rfl, ha, hl, q⟩ := h
 obtain ⟨u, rfl, ru⟩ := du r
 cases ru
 obtain ⟨⟨o, ho, hex, es, ep, t, hd, T⟩, -, -⟩ := (show aS X.prog X.w H s.heap a (.ext (m8 X.w a ns)) from I.hok a _ ha)
 refine jn (I.ok.hd hc) ho hex hd T hl fun h' tk L out ks c k1 l1 g1 a1 a2 a3 a4 => ?_
 refine ⟨.ref L, _, I.laid (a := L) (o := .lst (ks.map V.int)) k1 l1 ?_, rfl, q ks a2 a3 a4 _ (I.hok.fresh l1)⟩
 exact ⟨Nat.le_of_lt (bC (by rw [List.length_map]; omega)), out.toList, c, cZ a1, by simpa using g1⟩
variable {ow : List Bool} {e : Expr} {ma : ME} {pos p1 p2 p3 : Pos}
def mE (m : ME) : ME := fun ρ q => m ρ fun d ρ1 => match d with
 | .lst ds => ∃ ns : List Int, ds=ns.map D.int∧ns.length≤40∧(∀ k∈ns, 0≤k∧k<32)∧∀ ks : List Int, ks.Pairwise (· < ·)→(∀ k, k∈ks↔k∈ns)→ks.length≤40→q (.lst (ks.map D.int)) ρ1
 | _ => False
theorem i8 (hc : X.calm=true) (h : QE X ow e ma) (hg : Gl X "sorted") (hm : X.mg "sorted" = none) (hg' : Gl X "set") (hm' : X.mg "set" = none) (hv : bootBuiltins "sorted" = some (.builtin "sorted") := by rfl) (hv' : bootBuiltins "set" = some (.type "set") := by rfl)
 (he : starEach [e] X.env=[(false, eval e X.env)] := by rfl)
 (he2 : starEach [.Call (.Name "set" p2) [e] [] p1] X.env=[(false, eval (.Call (.Name "set" p2) [e] [] p1) X.env)] := by rfl) :
 QF X ow (.Call (.Name "sorted" p3) [.Call (.Name "set" p2) [e] [] p1] [] pos) (mE ma) := by
 obtain ⟨t, p, s⟩ := h
 refine ⟨_, dL (g9 hc) hg hm hv (ba (de (kN hc) hg' hm' hv' (ba p b3 he) (by decide) (by decide) he (by rfl)) b3 he2) (by decide) (by decide) he2 (by rfl), fun C G ρ σ H pd q Q r hm k => s C G ρ σ H pd _ _ r hm fun d ρ' v G' H' hq z kp r' pp => ?_⟩
 cases d with
 | lst ds =>
  obtain ⟨ns, rfl, hl, hb, hq⟩ := hq
  obtain ⟨l, xs, rfl, h1, h2⟩ := aG pp
  have ex := cD h2
  subst ex
  refine ⟨l, ns, rfl, r'.gh _ _ h1, hl, hb, fun p hp => ?_⟩
  obtain ⟨O, r'⟩ := r'
  obtain ⟨r2, z2⟩ := r'.new hp (.ext (m8 X.w p ns))
  refine ⟨p, ns, rfl, aA, hl, fun ks a1 a2 a3 b hb => ?_⟩
  exact k _ ρ' _ _ _ (hq ks a1 a2 a3) (z.trans z2) kp (r2.newL hb (bj _) (c0 _))
 | _ => exact hq.elim
end
end L2
namespace K58
open PySem L2
def top (i : Nat) : Stmt := PySem.Challenge.pw_treeasks_k58_cuts_that_part.main.body.getD i (.Pass ⟨0, 0, 0, 0⟩)
abbrev lw : Stmt := top 6
abbrev s_q5 : Stmt := top 7
abbrev s_q0 : Stmt := top 11
abbrev s_q3 : Stmt := top 12
abbrev l_ : Stmt := top 13
abbrev ll : Stmt := top 14
abbrev lH : Stmt := top 19
abbrev s_q1 : Stmt := top 20
abbrev s_q2 : Stmt := top 22
abbrev l5 : Stmt := top 23
abbrev s_q4 : Stmt := top 24
abbrev l4 : Stmt := top 25
abbrev lY : Stmt := top 26
abbrev lP : Stmt := top 28
abbrev s_q6 : Stmt := top 29
abbrev s_q8 : Stmt := top 30
abbrev lU : Stmt := top 32
abbrev mF : Stmt := top 33
abbrev mP : Stmt := top 34
abbrev s_q7 : Stmt := top 35
abbrev ng : Stmt := top 36
abbrev lZ : Stmt := top 37
abbrev nA : Stmt := top 38
abbrev lF : Stmt := top 39
abbrev mY : Stmt := top 40
abbrev mD : Stmt := top 41
abbrev lB : Stmt := top 42
abbrev nN : Stmt := top 43
abbrev mj : Stmt := top 44
abbrev l8 : Stmt := top 45
abbrev mZ : Stmt := top 46
set_option genInjectivity false in
structure Adr where
 f_q12 : Addr
 d_q12 : FuncData
 f_q5 : Addr
 d_q5 : FuncData
 f_q0 : Addr
 d_q0 : FuncData
 f_q3 : Addr
 d_q3 : FuncData
 f_q11 : Addr
 d_q11 : FuncData
 f_q10 : Addr
 d_q10 : FuncData
 f_q19 : Addr
 d_q19 : FuncData
 f_q1 : Addr
 d_q1 : FuncData
 f_q2 : Addr
 d_q2 : FuncData
 f_q29 : Addr
 d_q29 : FuncData
 f_q4 : Addr
 d_q4 : FuncData
 f_q28 : Addr
 d_q28 : FuncData
 f_q16 : Addr
 d_q16 : FuncData
 f_q20 : Addr
 d_q20 : FuncData
 f_q6 : Addr
 d_q6 : FuncData
 f_q8 : Addr
 d_q8 : FuncData
 f_q24 : Addr
 d_q24 : FuncData
 f_q25 : Addr
 d_q25 : FuncData
 f_q13 : Addr
 d_q13 : FuncData
 f_q7 : Addr
 d_q7 : FuncData
 f_q15 : Addr
 d_q15 : FuncData
 f_q23 : Addr
 d_q23 : FuncData
 f_q33 : Addr
 d_q33 : FuncData
 f_q32 : Addr
 d_q32 : FuncData
 f_q30 : Addr
 d_q30 : FuncData
 f_q22 : Addr
 d_q22 : FuncData
 f_q26 : Addr
 d_q26 : FuncData
 f_q21 : Addr
 d_q21 : FuncData
 f_q31 : Addr
 d_q31 : FuncData
 f_q27 : Addr
 d_q27 : FuncData
 f_law : Addr
 d_law : FuncData
set_option genInjectivity false in
structure Txt (K : PySem.W.Frag) (mg : Str→Option Value) (A : Adr) : Prop where
 t_q12 : FT K mg "is_whole" lw ["thing"] A.f_q12 A.d_q12
 t_q5 : FT K mg "is_between" s_q5 ["thing", "least", "most"] A.f_q5 A.d_q5
 t_q0 : FT K mg "has_two_lists" s_q0 ["thing"] A.f_q0 A.d_q0
 t_q3 : FT K mg "look_at_tree" s_q3 ["thing"] A.f_q3 A.d_q3
 t_q11 : FT K mg "is_place" l_ ["tree", "thing"] A.f_q11 A.d_q11
 t_q10 : FT K mg "are_ends" ll ["tree", "one", "other"] A.f_q10 A.d_q10
 t_q19 : FT K mg "is_ask" lH ["tree", "thing"] A.f_q19 A.d_q19
 t_q1 : FT K mg "look_at_asks" s_q1 ["tree", "thing"] A.f_q1 A.d_q1
 t_q2 : FT K mg "look_at_ends" s_q2 ["tree", "one", "other"] A.f_q2 A.d_q2
 t_q29 : FT K mg "climb" l5 ["tree", "one", "other"] A.f_q29 A.d_q29
 t_q4 : FT K mg "way_between" s_q4 ["tree", "one", "other"] A.f_q4 A.d_q4
 t_q28 : FT K mg "way_of" l4 ["tree", "ask"] A.f_q28 A.d_q28
 t_q16 : FT K mg "ways_of" lY ["tree", "asks"] A.f_q16 A.d_q16
 t_q20 : FT K mg "is_cut" lP ["tree", "thing"] A.f_q20 A.d_q20
 t_q6 : FT K mg "parts_ways" s_q6 ["ways", "cut"] A.f_q6 A.d_q6
 t_q8 : FT K mg "parts_all" s_q8 ["tree", "asks", "thing"] A.f_q8 A.d_q8
 t_q24 : FT K mg "_law_pool" lU ["_law_script", "_law_k"] A.f_q24 A.d_q24
 t_q25 : FT K mg "_law_take" mF ["_law_pool_here", "_law_many"] A.f_q25 A.d_q25
 t_q13 : FT K mg "_law_number" mP ["_law_pool_here", "_law_most"] A.f_q13 A.d_q13
 t_q7 : FT K mg "_law_parents" s_q7 ["_law_pool_here", "_law_most"] A.f_q7 A.d_q7
 t_q15 : FT K mg "_law_rooms" ng ["_law_pool_here", "_law_many", "_law_least"] A.f_q15 A.d_q15
 t_q23 : FT K mg "_law_ends" lZ ["_law_pool_here", "_law_many"] A.f_q23 A.d_q23
 t_q33 : FT K mg "_law_up" nA ["_law_parents_here", "_law_place"] A.f_q33 A.d_q33
 t_q32 : FT K mg "_law_way" lF ["_law_parents_here", "_law_ask_here"] A.f_q32 A.d_q32
 t_q30 : FT K mg "_law_ask" mY ["_law_pool_here", "_law_many"] A.f_q30 A.d_q30
 t_q22 : FT K mg "_law_case" mD ["_law_script", "_law_last"] A.f_q22 A.d_q22
 t_q26 : FT K mg "_law_ties" lB ["_law_pool_here", "_law_tree", "_law_ways"] A.f_q26 A.d_q26
 t_q21 : FT K mg "_law_bent" nN ["_law_pool_here", "_law_ties_here", "_law_many"] A.f_q21 A.d_q21
 t_q31 : FT K mg "_law_due" mj ["_law_tree", "_law_ways", "_law_thing"] A.f_q31 A.d_q31
 t_q27 : FT K mg "_law_told" l8 ["_law_tree", "_law_asks", "_law_ways", "_law_thing"] A.f_q27 A.d_q27
 t_law : FT K mg "law" mZ ["_law_script"] A.f_law A.d_law
 z_all : mg "all" = none
 z_any : mg "any" = none
 z_bool : mg "bool" = none
 z_enumerate : mg "enumerate" = none
 z_int : mg "int" = none
 z_isinstance : mg "isinstance" = none
 z_len : mg "len" = none
 z_list : mg "list" = none
 z_max : mg "max" = none
 z_min : mg "min" = none
 z_range : mg "range" = none
 z_repr : mg "repr" = none
 z_set : mg "set" = none
 z_sorted : mg "sorted" = none
 z_tuple : mg "tuple" = none
 c_MOST_TIES : ∃ t, mg "MOST_TIES" = some (.int 23 t)
 c_MOST_ROOM : ∃ t, mg "MOST_ROOM" = some (.int 1000000 t)
 c_MOST_ASKS : ∃ t, mg "MOST_ASKS" = some (.int 30 t)
 c_MOST_SIZE : ∃ t, mg "MOST_SIZE" = some (.int 1000000 t)
 c_MOST_WORTH : ∃ t, mg "MOST_WORTH" = some (.int 1000000000000 t)
theorem qL : FnScope ["thing"] ["thing"] (ai lw) := aP
theorem sc_q5 : FnScope ["thing", "least", "most"] ["thing", "least", "most"] (ai s_q5) := aP
theorem sc_q0 : FnScope ["thing", "parents", "rooms"] ["thing"] (ai s_q0) := aP
theorem sc_q3 : FnScope ["thing", "parents", "rooms", "number", "parent", "room"] ["thing"] (ai s_q3) := aP
theorem p_ : FnScope ["tree", "thing"] ["tree", "thing"] (ai l_) := aP
theorem qb : FnScope ["tree", "one", "other"] ["tree", "one", "other"] (ai ll) := aP
theorem rD : FnScope ["tree", "thing", "one", "other", "size", "worth"] ["tree", "thing"] (ai lH) := aP
theorem sc_q1 : FnScope ["tree", "thing", "number", "ask"] ["tree", "thing"] (ai s_q1) := aP
theorem sc_q2 : FnScope ["tree", "one", "other"] ["tree", "one", "other"] (ai s_q2) := aP
theorem qD : FnScope ["tree", "one", "other", "way", "low"] ["tree", "one", "other"] (ai l5) := aP
theorem sc_q4 : FnScope ["tree", "one", "other", "way", "meeting"] ["tree", "one", "other"] (ai s_q4) := aP
theorem rY : FnScope ["tree", "ask"] ["tree", "ask"] (ai l4) := aP
theorem qA : FnScope ["tree", "asks"] ["tree", "asks"] (ai lY) := aP
theorem qY : FnScope ["tree", "thing", "least", "tie"] ["tree", "thing"] (ai lP) := aP
theorem sc_q6 : FnScope ["ways", "cut"] ["ways", "cut"] (ai s_q6) := aP
theorem sc_q8 : FnScope ["tree", "asks", "thing"] ["tree", "asks", "thing"] (ai s_q8) := aP
theorem rS : FnScope ["_law_script", "_law_k", "_law_cell", "_law_seed"] ["_law_script", "_law_k"] (ai lU) := aP
theorem qP : FnScope ["_law_pool_here", "_law_many", "_law_found"] ["_law_pool_here", "_law_many"] (ai mF) := aP
theorem pV : FnScope ["_law_pool_here", "_law_most", "_law_way_here"] ["_law_pool_here", "_law_most"] (ai mP) := aP
theorem sc_q7 : FnScope ["_law_pool_here", "_law_most", "_law_shape", "_law_parents_here", "_law_place", "_law_up_here"] ["_law_pool_here", "_law_most"] (ai s_q7) := aP
theorem rJ : FnScope ["_law_pool_here", "_law_many", "_law_least", "_law_most"] ["_law_pool_here", "_law_many", "_law_least"] (ai ng) := aP
theorem qp : FnScope ["_law_pool_here", "_law_many", "_law_one"] ["_law_pool_here", "_law_many"] (ai lZ) := aP
theorem rG : FnScope ["_law_parents_here", "_law_place", "_law_found"] ["_law_parents_here", "_law_place"] (ai nA) := aP
theorem qj : FnScope ["_law_parents_here", "_law_ask_here", "_law_one", "_law_other", "_law_found"] ["_law_parents_here", "_law_ask_here"] (ai lF) := aP
theorem rC : FnScope ["_law_pool_here", "_law_many", "_law_one", "_law_other"] ["_law_pool_here", "_law_many"] (ai mY) := aP
theorem qV : FnScope ["_law_script", "_law_last", "_law_parents_here", "_law_tree", "_law_asks"] ["_law_script", "_law_last"] (ai mD) := aP
theorem qq : FnScope ["_law_pool_here", "_law_tree", "_law_ways", "_law_way_here", "_law_rare", "_law_found"] ["_law_pool_here", "_law_tree", "_law_ways"] (ai lB) := aP
theorem rf : FnScope ["_law_pool_here", "_law_ties_here", "_law_many", "_law_way_here", "_law_at"] ["_law_pool_here", "_law_ties_here", "_law_many"] (ai nN) := aP
theorem qW : FnScope ["_law_tree", "_law_ways", "_law_thing", "_law_ahead", "_law_tie"] ["_law_tree", "_law_ways", "_law_thing"] (ai mj) := aP
theorem rk : FnScope ["_law_tree", "_law_asks", "_law_ways", "_law_thing", "_law_kept", "_law_found"] ["_law_tree", "_law_asks", "_law_ways", "_law_thing"] (ai l8) := aP
theorem p0 : FnScope ["_law_script", "_law_tree", "_law_asks", "_law_ways", "_law_k", "_law_pool_here", "_law_ties_here", "_law_every", "_law_thing"] ["_law_script"] (ai mZ) := aP
section
variable {P : Program} {w : World} {K : PySem.W.Frag} {mg : Str→Option Value} {base : Heap} {A : Adr}
theorem qX (T : Txt K mg A) : FnOk P w K mg base CX0 1 A.f_q12 A.d_q12 ["thing"] (a7 [false] false (oU)) := by
 have S := qL
 refine fnD T.t_q12.F S ⟨[false], [false], false⟩ _ ?hl rfl rfl fun cdv Ar outer s H E hr => ⟨_, (af (az (cB (bL rfl T.z_isinstance aE (aa 0) (bt (v := .ty "int") rfl T.z_int mJ rfl)) (dG (rW (bL rfl T.z_isinstance aE (aa 0) (bt (v := .ty "bool") rfl T.z_bool gX rfl))))))), fun ds q h => ?_⟩
 case hl => intro ds q h; obtain ⟨d, rfl, _⟩ := h; rfl
 obtain ⟨d, rfl, hs, q0⟩ := h
 cases d <;> first | exact q0 | cases hs
theorem gv (T : Txt K mg A) : FnOk P w K mg base CX0 2 A.f_q5 A.d_q5 ["thing", "least", "most"] (a7 [false, false, false] false (ku)) := by
 have S := sc_q5
 refine fnD T.t_q5.F S ⟨[false, false, false], [false, false, false], false⟩ _ ?hl rfl rfl fun cdv Ar outer s H E hr => ⟨_, (af (az (cB (ag (qX T) hr T.t_q12 (am (aa 0) aj)) (dG (ij ix ix dB dB (aa 1) (aa 0) (aa 2)))))), fun ds q h => ?_⟩
 case hl => intro ds q h; obtain ⟨d, lo, hi, rfl, _⟩ := h; rfl
 obtain ⟨d, lo, hi, rfl, hs, q0⟩ := h
 refine ⟨d, rfl, hs, ?_⟩
 cases d
 case int i =>
  refine (bI (c := decide (lo≤i)=true) (fun c => ?_) (fun c => ?_))
  ·have : btw lo hi (.int i)=decide (i≤hi) := by show (decide (lo≤i)&&decide (i≤hi))=_; rw [c, Bool.true_and]
   rw [this] at q0; exact q0
  ·have : btw lo hi (.int i)=false := by show (decide (lo≤i)&&decide (i≤hi))=_; rw [Bool.eq_false_iff.mpr c, Bool.false_and]
   rw [this] at q0; exact q0
 all_goals first | exact q0 | cases hs
theorem ok_q0 (T : Txt K mg A) : FnOk P w K mg base CX0 1 A.f_q0 A.d_q0 ["thing"] (a7 [false] false (rO)) := by
 have S := sc_q0
 refine fnD T.t_q0.F S ⟨[false], [false, false, false], false⟩ _ ?hl rfl rfl fun cdv Ar outer s H E hr => ⟨_, (ae (aR (QW.qt (fJ (bf (bd (bL rfl T.z_isinstance aE (aa 0) (bt (v := .ty "tuple") rfl T.z_tuple fE rfl)))) (eE (aL (fW hr.units) dNe (ap aq cn rfl T.z_len aZ (ac (aa 0) ah)) ad (aH _))))) (af (az bN)) aD)
  (ae (ga (aa 0) (cL rfl (aK (aI (i := 1) S.nd rfl (Or.inl rfl)) (aK (aI (i := 2) S.nd rfl (Or.inl rfl)) b6)) (av (av bn))))
  (ae (aR (QW.qt (fJ (bf (bd (bL rfl T.z_isinstance aE (aa 1) (bt (v := .ty "list") rfl T.z_list cW rfl)))) (eE (bf (bd (bL rfl T.z_isinstance aE (aa 2) (bt (v := .ty "list") rfl T.z_list cW rfl))))))) (af (az bN)) aD)
  (af (az (cB (dz (cq hr.units) dEq (ap aq cn rfl T.z_len aZ (ac (aa 1) ah)) (ap aq cn rfl T.z_len aZ (ac (aa 2) ah)) (aH _)) (dG (ij ix ix dB dB ad (ap aq cn rfl T.z_len aZ (ac (aa 1) ah)) (cO (i := 23) rfl T.c_MOST_TIES))))))))), fun ds q h => ?_⟩
 case hl => intro ds q h; obtain ⟨ps, rs, rfl, _⟩ := h; rfl
 obtain ⟨ps, rs, rfl, hT, q0⟩ := h
 have l1 : ((ps.map D.int).length : Int)=ps.length := by rw [List.length_map]
 have l2 : ((rs.map D.int).length : Int)=rs.length := by rw [List.length_map]
 have h1 := hT.len
 have h2 := hT.lo
 have h3 := hT.hi
 refine (bI (c := decide (((ps.map D.int).length : Int)=((rs.map D.int).length : Int))=true) (fun c => ?_) (fun c => ?_))
 ·refine (bI (c := decide ((1 : Int)≤((ps.map D.int).length : Int))=true) (fun c => ?_) (fun c => ?_))
  ·show q (.bl (decide (((ps.map D.int).length : Int)≤23))) []
   rw [decide_eq_true (by omega)]; exact q0
  ·exact absurd (decide_eq_true (by omega)) c
 ·exact absurd (decide_eq_true (by omega)) c
theorem pC (T : Txt K mg A) : FnOk P w K mg base CX0 3 A.f_q3 A.d_q3 ["thing"] (a7 [false] false (qa)) := by
 have S := sc_q3
 refine fnD T.t_q3.F S ⟨[false], [false, false, false, false, false, false], false⟩ _ ?hl rfl rfl fun cdv Ar outer s H E hr => ⟨_, (ae (aR (bf (bd (ag (ok_q0 T) hr T.t_q0 (am (aa 0) aj)))) (af b_) aD)
  (ae (ga (aa 0) (cL rfl (aK (aI (i := 1) S.nd rfl (Or.inl rfl)) (aK (aI (i := 2) S.nd rfl (Or.inl rfl)) b6)) (av (av bn))))
  (ae (cP PassesOwn.never rfl (h9 rfl T.z_enumerate (ac (aa 1) ah)) (cL rfl (aK (aI (i := 3) S.nd rfl (Or.inl rfl)) (aK (aI (i := 4) S.nd rfl (Or.inl rfl)) b6)) (av (av bn))) (af (aR (bf (bd (ag (gv T) hr T.t_q5 (am (aa 4) (am ad (am (aa 3) aj)))))) (af b_) aD)))
  (af (cP PassesOwn.never rfl (h9 rfl T.z_enumerate (ac (aa 2) ah)) (cL rfl (aK (aI (i := 3) S.nd rfl (Or.inl rfl)) (aK (aI (i := 5) S.nd rfl (Or.inl rfl)) b6)) (av (av bn))) (af (aR (bf (bd (ag (gv T) hr T.t_q5 (am (aa 5) (am ad (am (cO (i := 1000000) rfl T.c_MOST_ROOM) aj)))))) (af b_) aD))))))), fun ds q h => ?_⟩
 case hl => intro ds q h; obtain ⟨ps, rs, rfl, _⟩ := h; rfl
 obtain ⟨ps, rs, rfl, hT, q0⟩ := h
 refine ⟨ps, rs, rfl, hT, ?_⟩
 refine ⟨fun _ ρ => ∃ v1 v2 v3, ρ=[some (aO ps rs), some (ak ps), some (ak rs), v1, v2, v3], ⟨_, _, _, rfl⟩, ?_, ?_⟩
 ·rintro i d ρ hd ⟨v1, v2, v3, rfl⟩
  obtain ⟨d', h1, rfl⟩ := fb hd
  obtain ⟨z, hz, rfl⟩ := mo h1
  have hb := hT.par i z hz
  refine ⟨.int z, 0, (i : Int), rfl, rfl, ?_⟩
  rw [cz hb.1 hb.2]
  exact ⟨_, _, _, rfl⟩
 ·rintro ρ ⟨v1, v2, v3, rfl⟩
  refine ⟨fun _ ρ => ∃ v1 v2 v3, ρ=[some (aO ps rs), some (ak ps), some (ak rs), v1, v2, v3], ⟨_, _, _, rfl⟩, ?_, ?_⟩
  ·rintro i d ρ hd ⟨v1, v2, v3, rfl⟩
   obtain ⟨d', h1, rfl⟩ := fb hd
   obtain ⟨z, hz, rfl⟩ := mo h1
   have hb := hT.room i z hz
   refine ⟨.int z, 1, 1000000, rfl, rfl, ?_⟩
   rw [cz hb.1 hb.2]
   exact ⟨_, _, _, rfl⟩
  ·rintro ρ ⟨v1, v2, v3, rfl⟩
   exact q0
theorem m9 (T : Txt K mg A) : FnOk P w K mg base CX0 3 A.f_q11 A.d_q11 ["tree", "thing"] (a7 [false, false] false (pq)) := by
 have S := p_
 refine fnD T.t_q11.F S ⟨[false, false], [false, false], false⟩ _ ?hl rfl rfl fun cdv Ar outer s H E hr => ⟨_, (af (az (ag (gv T) hr T.t_q5 (am (aa 1) (am ad (am (ap aq cn rfl T.z_len aZ (ac (a6 aM dIx (aa 0) ad (fun _ _ => rfl)) ah)) aj)))))), fun ds q h => ?_⟩
 case hl => intro ds q h; obtain ⟨ps, rs, d, rfl, _⟩ := h; rfl
 obtain ⟨ps, rs, d, rfl, hs, q0⟩ := h
 refine ⟨d, 0, ((ps.map D.int).length : Int), rfl, hs, ?_⟩
 rw [List.length_map]; exact q0
theorem l3 (T : Txt K mg A) : FnOk P w K mg base CX0 4 A.f_q10 A.d_q10 ["tree", "one", "other"] (a7 [false, false, false] false (rB)) := by
 have S := qb
 refine fnD T.t_q10.F S ⟨[false, false, false], [false, false, false], false⟩ _ ?hl rfl rfl fun cdv Ar outer s H E hr => ⟨_, (af (az (cB (ag (m9 T) hr T.t_q11 (am (aa 0) (am (aa 1) aj))) (cB (ag (m9 T) hr T.t_q11 (am (aa 0) (am (aa 2) aj))) (dG (dz (fW hr.units) dNe (aa 1) (aa 2) (aH _))))))), fun ds q h => ?_⟩
 case hl => intro ds q h; obtain ⟨ps, rs, a, b, rfl, _⟩ := h; rfl
 obtain ⟨ps, rs, a, b, rfl, he, q0⟩ := h
 refine ⟨ps, rs, .int a, rfl, rfl, ?_⟩
 rw [cz he.a0 he.a1]
 refine ⟨ps, rs, .int b, rfl, rfl, ?_⟩
 rw [cz he.b0 he.b1]
 have : (!decide (a=b))=true := by simp [he.ne]
 show q (.bl (!decide (a=b))) []
 rw [this]; exact q0
theorem ok_q2 (T : Txt K mg A) : FnOk P w K mg base CX0 5 A.f_q2 A.d_q2 ["tree", "one", "other"] (a7 [false, false, false] false (jk)) := by
 have S := sc_q2
 refine fnD T.t_q2.F S ⟨[false, false, false], [false, false, false], false⟩ _ ?hl rfl rfl fun cdv Ar outer s H E hr => ⟨_, (ae (d4 (ag (pC T) hr T.t_q3 (am (aa 0) aj)))
  (af (aR (bf (bd (ag (l3 T) hr T.t_q10 (am (aa 0) (am (aa 1) (am (aa 2) aj)))))) (af b_) aD))), fun ds q h => ?_⟩
 case hl => intro ds q h; obtain ⟨ps, rs, a, b, rfl, _⟩ := h; rfl
 obtain ⟨ps, rs, a, b, rfl, hT, he, q0⟩ := h
 refine ⟨ps, rs, rfl, hT, ?_⟩
 exact ⟨ps, rs, a, b, rfl, he, q0⟩
theorem pZ (T : Txt K mg A) : FnOk P w K mg base CX0 1 A.f_q29 A.d_q29 ["tree", "one", "other"] (a7 [false, false, false] true (oD)) := by
 have S := qD
 refine fnD T.t_q29.F S ⟨[false, false, false], [false, false, false, true, false], true⟩ _ ?hl rfl rfl fun cdv Ar outer s H E hr => ⟨_, (ae (dM (i := 3) S.nd rfl (Or.inl rfl) (hU ah))
  (ae (iW PassesOwn.never (aL (fW hr.units) dNe (aa 1) (aa 2) (aH _)) (ae (aJ (i := 4) S.nd rfl (Or.inl rfl) (ap (dl rfl) dMax rfl T.z_max gY (ac (aa 1) (ac (aa 2) ah))))
  (ae (eL (i := 3) rfl (QE.qf (aa 4)))
  (af (qG (i := 1) (j := 2) rfl S.nd rfl rfl (by decide) rfl rfl (ap (bV rfl) kH rfl T.z_min eN (ac (aa 1) (ac (aa 2) ah))) (a6 aM dIx (a6 aM dIx (aa 0) ad (fun _ _ => rfl)) (ax bX dI (aa 4) ad) (fun _ _ => rfl)) rfl)))))
  (af (bR (qT (iG (QF.qm (QF.bor [3] (iI dR lg rfl T.z_sorted gs (ac (aa 3) ah)))) (iG (QF.qm (QE.qf (aa 1))) oV))))))), fun ds q h => ?_⟩
 case hl => intro ds q h; obtain ⟨ps, rs, a, b, rfl, _⟩ := h; rfl
 obtain ⟨ps, rs, a, b, rfl, hT, a0, a1, b0, b1, q0⟩ := h
 refine ⟨rfl, ?_⟩
 refine ⟨fun k ρ => ∃ a' b' acc v, ρ=[some (aO ps rs), some (.int a'), some (.int b'), some (ak acc), v]∧0≤a'∧a'≤ps.length∧0≤b'∧b'≤ps.length∧k=(a' + b').toNat∧acc.length + (a' + b').toNat≤46∧(∀ w m, Climb ps a' b' w m→Climb ps a b (acc++w) m), ⟨_, a, b, [], _, rfl, a0, a1, b0, b1, rfl, by have := hT.hi; simp; omega, fun w m h => h⟩, ?_⟩
 rintro k ρ ⟨a', b', acc, v, rfl, a0', a1', b0', b1', rfl, hl, hc⟩
 have hi := hT.hi
 refine (bI (c := (!decide (a'=b'))=true) (fun c => ?_) (fun c => ?_))
 ·have hne : a' ≠ b' := by simpa using c
  have key : ∀ (low hig : Int), low=(if b' > a' then b' else a')→hig=(if b'<a' then b' else a')→0<low∧low≤ps.length∧0≤hig∧hig≤ps.length∧low + hig=a' + b'∧(∀ w m, Climb ps hig (cE ps low) w m→Climb ps a' b' (low :: w) m) := by
   intro low hig e1 e2
   by_cases hlt : b'<a'
   ·rw [if_neg (by omega)] at e1; rw [if_pos hlt] at e2; subst e1; subst e2
    exact ⟨by omega, a1', b0', b1', by omega, fun w m h => .left hlt h⟩
   ·rw [if_pos (by omega)] at e1; rw [if_neg hlt] at e2; subst e1; subst e2
    exact ⟨by omega, b1', a0', a1', by omega, fun w m h => .right (by omega) h⟩
  obtain ⟨L, hL⟩ : ∃ L, L=(if b' > a' then b' else a') := ⟨_, rfl⟩
  obtain ⟨J, hJ⟩ : ∃ J, J=(if b'<a' then b' else a') := ⟨_, rfl⟩
  obtain ⟨k1, k2, k3, k4, k5, k6⟩ := key L J hL hJ
  have hp := hT.up k1 k2
  refine ⟨rfl, ?_⟩
  refine ⟨by show (acc.map D.int).length<1000; rw [List.length_map]; omega, ?_⟩
  refine b8 (fw (by rw [← hL]; omega) (by rw [← hL]; omega)) ?_
  refine ⟨(J + cE ps L).toNat, by omega, J, cE ps L, acc++[L], some (.int L), ?_, k3, k4, hp.1, by omega, rfl, by rw [List.length_append]; show acc.length + 1 + _≤46; omega, fun w m h => by rw [List.append_assoc]; exact hc _ _ (k6 _ _ h)⟩
  show [some (aO ps rs), some (.int (if b'<a' then b' else a')), some (.int (cE ps (if b' > a' then b' else a'))), some (D.lst (acc.map D.int++[D.int (if b' > a' then b' else a')])), some (.int (if b' > a' then b' else a'))]=_
  rw [← hL, ← hJ, ak, List.map_append]; rfl
 ·have : a'=b' := by simpa using c
  subst this
  have hw := hc [] a' (.same a')
  rw [List.append_nil] at hw
  have hln := hw.len hT a0 b0 a1 b1
  refine ⟨acc, rfl, by omega, bj _, rfl, ?_⟩
  exact q0 acc a' hw
theorem ok_q4 (T : Txt K mg A) : FnOk P w K mg base CX0 6 A.f_q4 A.d_q4 ["tree", "one", "other"] (a7 [false, false, false] true (sdWay)) := by
 have S := sc_q4
 refine fnD T.t_q4.F S ⟨[false, false, false], [false, false, false, true, false], true⟩ _ ?hl rfl rfl fun cdv Ar outer s H E hr => ⟨_, (ae (d4 (ag (ok_q2 T) hr T.t_q2 (am (aa 0) (am (aa 1) (am (aa 2) aj)))))
  (ae (n_ rfl (QF.qm (aX (pZ T) hr T.t_q29 (am (aa 0) (am (aa 1) (am (aa 2) aj))))) (oh (i := 3) S.nd rfl (Or.inl rfl) (rh (i := 4) S.nd rfl (Or.inl rfl) oq)) (av (av bn)))
  (af (bR (fc 3))))), fun ds q h => ?_⟩
 case hl => intro ds q h; obtain ⟨ps, rs, a, b, rfl, _⟩ := h; rfl
 obtain ⟨ps, rs, a, b, rfl, hT, he, q0⟩ := h
 refine ⟨ps, rs, a, b, rfl, hT, he, ?_⟩
 refine ⟨ps, rs, a, b, rfl, hT, he.a0, he.a1, he.b0, he.b1, fun w m hw => ?_⟩
 exact q0 w m hw
theorem rn (T : Txt K mg A) : FnOk P w K mg base CX0 7 A.f_q28 A.d_q28 ["tree", "ask"] (a7 [false, false] true (o_)) := by
 have S := rY
 refine fnD T.t_q28.F S ⟨[false, false], [false, false], true⟩ _ ?hl rfl rfl fun cdv Ar outer s H E hr => ⟨_, (af (bR (QF.qm (aX (ok_q4 T) hr T.t_q4 (am (aa 0) (am (a6 aM dIx (aa 1) ad (fun _ _ => rfl)) (am (a6 aM dIx (aa 1) ad (fun _ _ => rfl)) aj))))))), fun ds q h => ?_⟩
 case hl => intro ds q h; obtain ⟨ps, rs, a, rfl, _⟩ := h; rfl
 obtain ⟨ps, rs, a, rfl, hT, he, q0⟩ := h
 refine ⟨ps, rs, a.one, a.other, rfl, hT, he, fun w m hw => ?_⟩
 rw [(hw.way hT he.a0 he.b0 he.a1 he.b1).1]
 exact q0
theorem qS (T : Txt K mg A) : FnOk P w K mg base CX0 5 A.f_q19 A.d_q19 ["tree", "thing"] (a7 [false, false] false (oW)) := by
 have S := rD
 refine fnD T.t_q19.F S ⟨[false, false], [false, false, false, false, false, false], false⟩ _ ?hl rfl rfl fun cdv Ar outer s H E hr => ⟨_, (ae (aR (QW.qt (fJ (bf (bd (bL rfl T.z_isinstance aE (aa 1) (bt (v := .ty "tuple") rfl T.z_tuple fE rfl)))) (eE (aL (fW hr.units) dNe (ap aq cn rfl T.z_len aZ (ac (aa 1) ah)) ad (aH _))))) (af (az bN)) aD)
  (ae (ga (aa 1) (cL rfl (aK (aI (i := 2) S.nd rfl (Or.inl rfl)) (aK (aI (i := 3) S.nd rfl (Or.inl rfl)) (aK (aI (i := 4) S.nd rfl (Or.inl rfl)) (aK (aI (i := 5) S.nd rfl (Or.inl rfl)) b6)))) (av (av (av (av bn))))))
  (af (az (cB (ag (l3 T) hr T.t_q10 (am (aa 0) (am (aa 2) (am (aa 3) aj)))) (cB (ag (gv T) hr T.t_q5 (am (aa 4) (am ad (am (cO (i := 1000000) rfl T.c_MOST_SIZE) aj)))) (dG (ag (gv T) hr T.t_q5 (am (aa 5) (am ad (am (cO (i := 1000000000000) rfl T.c_MOST_WORTH) aj))))))))))), fun ds q h => ?_⟩
 case hl => intro ds q h; obtain ⟨ps, rs, a, rfl, _⟩ := h; rfl
 obtain ⟨ps, rs, a, rfl, ha, q0⟩ := h
 refine ⟨ps, rs, a.one, a.other, rfl, ha.ends, ?_⟩
 refine ⟨.int a.size, 1, 1000000, rfl, rfl, ?_⟩
 rw [cz ha.s0 ha.s1]
 refine ⟨.int a.worth, 1, 1000000000000, rfl, rfl, ?_⟩
 rw [cz ha.w0 ha.w1]
 exact q0
theorem ok_q1 (T : Txt K mg A) : FnOk P w K mg base CX0 6 A.f_q1 A.d_q1 ["tree", "thing"] (a7 [false, false] false (ja)) := by
 have S := sc_q1
 refine fnD T.t_q1.F S ⟨[false, false], [false, false, false, false], false⟩ _ ?hl rfl rfl fun cdv Ar outer s H E hr => ⟨_, (ae (d4 (ag (pC T) hr T.t_q3 (am (aa 0) aj)))
  (ae (aR (QW.qt (fJ (bf (bd (bL rfl T.z_isinstance aE (aa 1) (bt (v := .ty "list") rfl T.z_list cW rfl)))) (eE (aL jG dB (ap aq cn rfl T.z_len aZ (ac (aa 1) ah)) (cO (i := 30) rfl T.c_MOST_ASKS) (aH _))))) (af b_) aD)
  (af (cP PassesOwn.never rfl (h9 rfl T.z_enumerate (ac (aa 1) ah)) (cL rfl (aK (aI (i := 2) S.nd rfl (Or.inl rfl)) (aK (aI (i := 3) S.nd rfl (Or.inl rfl)) b6)) (av (av bn))) (af (aR (bf (bd (ag (qS T) hr T.t_q19 (am (aa 0) (am (aa 3) aj))))) (af b_) aD)))))), fun ds q h => ?_⟩
 case hl => intro ds q h; obtain ⟨ps, rs, as, rfl, _⟩ := h; rfl
 obtain ⟨ps, rs, as, rfl, hT, ha, q0⟩ := h
 refine ⟨ps, rs, rfl, hT, ?_⟩
 refine (bI (c := decide ((30 : Int)<((as.map gm).length : Int))=true) (fun c => ?_) (fun c => ?_))
 ·have := ha.len; rw [fM] at c; simp at c; omega
 refine ⟨fun _ ρ => ∃ v1 v2, ρ=[some (aO ps rs), some (cj as), v1, v2], ⟨_, _, rfl⟩, ?_, ?_⟩
 ·rintro i d ρ hd ⟨v1, v2, rfl⟩
  obtain ⟨d', h1, rfl⟩ := fb hd
  obtain ⟨z, hz, rfl⟩ := oF h1
  refine ⟨ps, rs, z, rfl, ha.ok z (List.mem_of_getElem? hz), ?_⟩
  exact ⟨_, _, rfl⟩
 ·rintro ρ ⟨v1, v2, rfl⟩
  exact q0
theorem q9 (T : Txt K mg A) : FnOk P w K mg base CX0 8 A.f_q16 A.d_q16 ["tree", "asks"] (a7 [false, false] false (nM)) := by
 have S := qA
 refine fnD T.t_q16.F S ⟨[false, false], [false, false], false⟩ _ ?hl rfl rfl fun cdv Ar outer s H E hr => ⟨_, (af (az (dc ["ask"] [0] ⟨rfl, rfl, by decide +kernel, rfl, rfl, (by first | exact trivial | exact ⟨rfl, trivial⟩ | exact ⟨rfl, rfl, trivial⟩ | exact ⟨rfl, rfl, rfl, trivial⟩ | exact ⟨rfl, rfl, rfl, rfl, trivial⟩), rfl⟩ rfl (bu (aa 1)) (bQ 0) (fun _ _ _ _ => ⟨(a9 (i := 0) (show List.Nodup (["ask", "tree"] : List Str) by decide +kernel) rfl (Or.inl rfl)), cp, (QF.qe (aX (rn T) hr T.t_q28 (am (aa 1) (am (aa 0) aj))))⟩)))), fun ds q h => ?_⟩
 case hl => intro ds q h; obtain ⟨ps, rs, as, rfl, _⟩ := h; rfl
 obtain ⟨ps, rs, as, rfl, hT, ha, q0⟩ := h
 have hal := ha.len
 refine ⟨by rw [fM]; omega, ?_⟩
 refine dj (wayF ps) ?_ ?_
 ·intro d hd k hk
  obtain ⟨a, hm, rfl⟩ := List.mem_map.mp hd
  refine ⟨ps, rs, a, rfl, hT, (ha.ok a hm).ends, ?_⟩
  exact hk
 ·rw [iY]
  exact q0
end
end K58
namespace K58
open PySem L2
section
variable {P : Program} {w : World} {K : PySem.W.Frag} {mg : Str→Option Value} {base : Heap} {A : Adr}
structure CutIn (ps cu : List Int) : Prop where
 up : cu.Pairwise (· < ·)
 lo : ∀ t∈cu, 0<t∧t≤(ps.length : Int)
theorem CutIn.len {ps cu : List Int} (h : CutIn ps cu) : cu.length≤ps.length := by
 have hn : cu.Nodup := h.up.imp fun h e => by omega
 have := hn.length_le_of_subset (l₂ := (List.range ps.length).map fun j => ((j + 1 : Nat) : Int)) fun x hx => by
  have := h.lo x hx
  exact List.mem_map.mpr ⟨(x - 1).toNat, List.mem_range.mpr (by omega), by omega⟩
 rw [List.length_map, List.length_range] at this
 exact this
def cT (n : Int) : Int→List D→Bool
 | _, [] => true
 | l, .int z :: ds => (decide (l≤z)&&decide (z≤n))&&cT n (z + 1) ds
 | _, _ => false
theorem dE (n l : Int) (d : D) (ds : List D) : cT n l (d :: ds)=(btw l n d&&match d with | .int z => cT n (z + 1) ds | _ => false) := by
 cases d <;> first | rfl | exact (Bool.false_and _).symm
def gk (n : Int) : D→Bool
 | .lst ds => cT n 1 ds
 | _ => false
theorem fA {n : Int} : ∀ {ds : List D} {l : Int}, cT n l ds=true→∃ cu : List Int, ds=cu.map D.int∧cu.Pairwise (· < ·)∧∀ t∈cu, l≤t∧t≤n
 | [], _, _ => ⟨[], rfl, .nil, fun t h => by cases h⟩
 | d :: ds, l, h => by
  rw [dE, Bool.and_eq_true] at h
  obtain ⟨h1, h2⟩ := h
  obtain ⟨z, rfl, z1, z2⟩ := gE h1
  obtain ⟨cu, rfl, u1, u2⟩ := fA h2
  exact ⟨z :: cu, rfl, List.pairwise_cons.mpr ⟨fun t ht => by have := (u2 t ht).1; omega, u1⟩, fun t ht => by
   rcases List.mem_cons.mp ht with rfl | ht
   ·exact ⟨z1, z2⟩
   ·have := u2 t ht; omega⟩
theorem iP {n : Int} : ∀ {cu : List Int} {l : Int}, cu.Pairwise (· < ·)→(∀ t∈cu, l≤t∧t≤n)→cT n l (cu.map D.int)=true
 | [], _, _, _ => rfl
 | z :: cu, l, h1, h2 => by
  obtain ⟨a, b⟩ := List.pairwise_cons.mp h1
  have hz := h2 z List.mem_cons_self
  show ((decide (l≤z)&&decide (z≤n))&&cT n (z + 1) (cu.map D.int))=true
  rw [decide_eq_true hz.1, decide_eq_true hz.2, iP b fun t ht => ⟨by have := a t ht; omega, (h2 t (List.mem_cons_of_mem _ ht)).2⟩]; rfl
theorem gy {ps : List Int} {x : D} (h : gk ps.length x=true) : ∃ cu, x=ak cu∧CutIn ps cu := by
 cases x with
 | lst ds =>
  obtain ⟨cu, rfl, u1, u2⟩ := fA h
  exact ⟨cu, rfl, u1, fun t ht => by have := u2 t ht; omega⟩
 | _ => cases h
theorem CutIn.b {ps cu : List Int} (h : CutIn ps cu) : gk ps.length (ak cu)=true := iP h.up fun t ht => by have := h.lo t ht; omega
def mS : SpD := fun ds q => ∃ ps rs x, ds=[aO ps rs, x]∧pln x=true∧q (.bl (gk ps.length x)) []
theorem qo (T : Txt K mg A) : FnOk P w K mg base CX0 3 A.f_q20 A.d_q20 ["tree", "thing"] (a7 [false, false] false (mS)) := by
 have S := qY
 refine fnD T.t_q20.F S ⟨[false, false], [false, false, false, false], false⟩ _ ?hl rfl rfl fun cdv Ar outer s H E hr => ⟨_, (ae (aR (bf (bd (bL rfl T.z_isinstance aE (aa 1) (bt (v := .ty "list") rfl T.z_list cW rfl)))) (af (az bN)) aD)
  (ae (aJ (i := 2) S.nd rfl (Or.inl rfl) ad)
  (ae (cP PassesOwn.never rfl (bu (aa 1)) (aI (i := 3) S.nd rfl (Or.inl rfl)) (ae (aR (bf (bd (ag (gv T) hr T.t_q5 (am (aa 3) (am (aa 2) (am (ap aq cn rfl T.z_len aZ (ac (a6 aM dIx (aa 0) ad (fun _ _ => rfl)) ah)) aj)))))) (af (az bN)) aD)
  (af (aJ (i := 2) S.nd rfl (Or.inl rfl) (ax aW dI (aa 3) ad)))))
  (af (az bN))))), fun ds q h => ?_⟩
 case hl => intro ds q h; obtain ⟨ps, rs, x, rfl, _⟩ := h; rfl
 obtain ⟨ps, rs, x, rfl, hp, q0⟩ := h
 cases x with
 | lst ds =>
  have hpl : ∀ d∈ds, pln d=true := fun d hd => fu (show plns ds=true by rw [pln] at hp; exact hp) hd
  refine ⟨fun i ρ => ∃ (l : Int) (v : Option D), ρ=[some (aO ps rs), some (.lst ds), some (.int l), v]∧cT ps.length 1 ds=cT ps.length l (ds.drop i), ⟨1, _, rfl, rfl⟩, ?_, ?_⟩
  ·rintro i d ρ hd ⟨l, v, rfl, hl⟩
   have hdr : ds.drop i=d :: ds.drop (i + 1) := by
    obtain ⟨h1, h2⟩ := List.getElem?_eq_some_iff.mp hd
    rw [List.drop_eq_getElem_cons h1, h2]
   rw [hdr, dE] at hl
   refine ⟨d, l, ((ps.map D.int).length : Int), rfl, nY (hpl d (List.mem_of_getElem? hd)), ?_⟩
   rw [aB]
   cases e : btw l ps.length d with
   | false =>
    rw [e, Bool.false_and] at hl
    have e2 : gk ps.length (.lst ds)=false := hl
    rw [e2] at q0; exact q0
   | true =>
    obtain ⟨z, rfl, z1, z2⟩ := gE e
    rw [e, Bool.true_and] at hl
    exact ⟨z + 1, some (.int z), rfl, hl⟩
  ·rintro ρ ⟨l, v, rfl, hl⟩
   rw [List.drop_length] at hl
   have e2 : gk ps.length (.lst ds)=true := hl
   rw [e2] at q0; exact q0
 | _ => first | exact q0 | (rw [pln] at hp; cases hp)
def tieF (cu : List Int) : D→D
 | .int t => .bl (cu.contains t)
 | d => d
theorem mK (cu w : List Int) : (w.map D.int).map (tieF cu)=(w.map fun t => cu.contains t).map D.bl := by rw [List.map_map, List.map_map]; rfl
def anyF (cu : List Int) : D→D
 | .lst ds => .bl (ds.any fun d => match d with | .int t => cu.contains t | _ => false)
 | d => d
theorem kb (cu w : List Int) : anyF cu (ak w) = .bl (w.any fun t => cu.contains t) := by
 show D.bl ((w.map D.int).any _)=_
 rw [List.any_map]; rfl
theorem iU (cu : List Int) : ∀ ws : List (List Int), (ws.map ak).map (anyF cu)=(ws.map fun w => w.any fun t => cu.contains t).map D.bl
 | [] => rfl
 | w :: ws => by rw [List.map_cons, List.map_cons, iU cu ws, kb]; rfl
def oE : SpD := fun ds q => ∃ ws cu, ds=[d7 ws, ak cu]∧ws.length≤1000∧(∀ w∈ws, w.length≤1000)∧q (.bl (cC ws cu)) []
theorem ok_q6 (T : Txt K mg A) : FnOk P w K mg base CX0 1 A.f_q6 A.d_q6 ["ways", "cut"] (a7 [false, false] false (oE)) := by
 have S := sc_q6
 refine fnD T.t_q6.F S ⟨[false, false], [false, false], false⟩ _ ?hl rfl rfl fun cdv Ar outer s H E hr => ⟨_, (af (az (ap (lf rfl) dAll rfl T.z_all qx (ac (dc ["way"] [1] ⟨rfl, rfl, by decide +kernel, rfl, rfl, (by first | exact trivial | exact ⟨rfl, trivial⟩ | exact ⟨rfl, rfl, trivial⟩ | exact ⟨rfl, rfl, rfl, trivial⟩ | exact ⟨rfl, rfl, rfl, rfl, trivial⟩), rfl⟩ rfl (bu (aa 0)) (bQ 0) (fun _ _ _ _ => ⟨(a9 (i := 0) (show List.Nodup (["way", "cut"] : List Str) by decide +kernel) rfl (Or.inl rfl)), cp, (ap (kq rfl) dAny rfl T.z_any qv (ac (dc ["tie"] [1] ⟨rfl, rfl, by decide +kernel, rfl, rfl, (by first | exact trivial | exact ⟨rfl, trivial⟩ | exact ⟨rfl, rfl, trivial⟩ | exact ⟨rfl, rfl, rfl, trivial⟩ | exact ⟨rfl, rfl, rfl, rfl, trivial⟩), rfl⟩ rfl (bu (aa 0)) (bQ 0) (fun _ _ _ _ => ⟨(a9 (i := 0) (show List.Nodup (["tie", "cut"] : List Str) by decide +kernel) rfl (Or.inl rfl)), cp, (dz gQ dIn (aa 0) (aa 1) rfl)⟩)) ah))⟩)) ah)))), fun ds q h => ?_⟩
 case hl => intro ds q h; obtain ⟨ws, cu, rfl, _⟩ := h; rfl
 obtain ⟨ws, cu, rfl, hl, hw, q0⟩ := h
 refine ⟨by rw [List.length_map]; exact hl, ?_⟩
 refine dj (anyF cu) ?_ ?_
 ·intro d hd k hk
  obtain ⟨w, hm, rfl⟩ := List.mem_map.mp hd
  refine ⟨by rw [aB]; exact hw w hm, ?_⟩
  refine dj (tieF cu) ?_ ?_
  ·intro d hd k hk
   obtain ⟨t, ht, rfl⟩ := ce hd
   refine ⟨rfl, cY cu, ?_⟩
   show k (.bl (inD (.int t) (cu.map D.int)))
   rw [et]; exact hk
  rw [mK]
  refine ⟨_, rfl, ?_⟩
  rw [kb] at hk
  rw [show ((w.map fun t => cu.contains t).any id)=w.any fun t => cu.contains t by rw [List.any_map]; rfl]
  exact hk
 rw [iU]
 refine ⟨_, rfl, ?_⟩
 rw [show ((ws.map fun w => w.any fun t => cu.contains t).all id)=cC ws cu by rw [List.all_map]; rfl]
 exact q0
theorem jM {ps rs : List Int} {as : List Ask} (hT : Tree ps rs) (ha : AsksOk ps as) : (br ps as).length≤1000∧∀ w∈br ps as, w.length≤1000 := by
 have := ha.len
 refine ⟨by unfold br; rw [List.length_map]; omega, fun w hw => ?_⟩
 obtain ⟨a, hm, rfl⟩ := List.mem_map.mp hw
 exact Nat.le_trans (gJ hT (ha.ok a hm).ends) (by decide)
def pH : D→List Int
 | .lst ds => ds.map fun d => match d with | .int z => z | _ => 0
 | _ => []
theorem dD (cu : List Int) : pH (ak cu)=cu := by
 show (cu.map D.int).map _=cu
 rw [List.map_map]
 exact List.map_id cu
def bZ (ps : List Int) (as : List Ask) (x : D) : Bool := gk ps.length x&&cC (br ps as) (pH x)
def lX : SpD := fun ds q => ∃ ps rs as x, ds=[aO ps rs, cj as, x]∧Tree ps rs∧AsksOk ps as∧pln x=true∧q (.bl (bZ ps as x)) []
theorem jO (T : Txt K mg A) : FnOk P w K mg base CX0 9 A.f_q8 A.d_q8 ["tree", "asks", "thing"] (a7 [false, false, false] false (lX)) := by
 have S := sc_q8
 refine fnD T.t_q8.F S ⟨[false, false, false], [false, false, false], false⟩ _ ?hl rfl rfl fun cdv Ar outer s H E hr => ⟨_, (ae (d4 (ag (ok_q1 T) hr T.t_q1 (am (aa 0) (am (aa 1) aj))))
  (af (az (cB (ag (qo T) hr T.t_q20 (am (aa 0) (am (aa 2) aj))) (dG (ag (ok_q6 T) hr T.t_q6 (am (ag (q9 T) hr T.t_q16 (am (aa 0) (am (aa 1) aj))) (am (aa 2) aj)))))))), fun ds q h => ?_⟩
 case hl => intro ds q h; obtain ⟨ps, rs, as, x, rfl, _⟩ := h; rfl
 obtain ⟨ps, rs, as, x, rfl, hT, ha, hx, q0⟩ := h
 refine ⟨ps, rs, as, rfl, hT, ha, ?_⟩
 refine ⟨ps, rs, x, rfl, hx, ?_⟩
 cases e : gk ps.length x with
 | false =>
  have e2 : bZ ps as x=false := by unfold bZ; rw [e]; rfl
  rw [e2] at q0; exact q0
 | true =>
  obtain ⟨cu, rfl, hc⟩ := gy e
  have e2 : bZ ps as (ak cu)=cC (br ps as) cu := by unfold bZ; rw [e, dD]; rfl
  rw [e2] at q0
  refine ⟨ps, rs, as, rfl, hT, ha, ?_⟩
  obtain ⟨w1, w2⟩ := jM hT ha
  exact ⟨_, cu, rfl, w1, w2, q0⟩
end
end K58
namespace K58
open PySem L2
section
variable {P : Program} {w : World} {K : PySem.W.Frag} {mg : Str→Option Value} {base : Heap} {A : Adr}
theorem gZ (T : Txt K mg A) : FnOk P w K mg base CX0 1 A.f_q24 A.d_q24 ["_law_script", "_law_k"] (a7 [false, false] true (qy K)) := by
 have S := rS
 refine fnD T.t_q24.F S ⟨[false, false], [false, false, false, false], true⟩ _ ?hl rfl rfl fun cdv Ar outer s H E hr => ⟨_, (ae (aJ (i := 2) S.nd rfl (Or.inl rfl) ad)
  (ae (lV (aR (aL gR dB (aa 1) (ap aq cn rfl T.z_len aZ (ac (aa 0) ah)) (aH _)) (af (aJ (i := 2) S.nd rfl (Or.inl rfl) (a6 aM dIx (aa 0) (aa 1) (fun _ _ => rfl)))) aD))
  (ae (aJ (i := 3) S.nd rfl (Or.inl rfl) (ax cy dIC (ax eG dIC (ax aW dI (ax aW dI (ax cy dIC (aa 2) ad) (ax eG dIC (ax eG dIC ad (aa 1)) (aa 1))) ad) ad) ad))
  (ae (aR (aL gR dB (aa 2) (ax dF dIC ad ad) (aH _)) (af (aJ (i := 2) S.nd rfl (Or.inl rfl) ad)) aD)
  (af (bR (QF.qm (hU (ac (aa 2) (ac (aa 3) ah)))))))))), fun ds q h => ?_⟩
 case hl => intro ds q h; obtain ⟨φ, ns, k, rfl, _⟩ := h; rfl
 obtain ⟨φ, ns, k, rfl, hφ, h0, h1, q0⟩ := h
 refine ⟨fun ρ => ∃ z : Int, ρ=[some (.scr φ ns), some (.int k), some (.int z), none], ?_, ?_⟩
 ·refine ⟨hφ, ?_⟩
  refine (bI (c := decide (k<(ns.length : Int))=true) (fun c => ?_) (fun c => ⟨0, rfl⟩))
  have c' : k<ns.length := by simpa using c
  refine ⟨hφ, ?_⟩
  show (match atI ns k with | some n => _ | none => False)
  rw [rQ h0 c']; exact ⟨_, rfl⟩
 rintro ρ ⟨z, rfl⟩
 refine ⟨(show (0 : Int)<1000000007 by decide), Or.inl ⟨by decide, by decide⟩, Or.inr ⟨by omega, by omega⟩, Or.inr ⟨by decide, by decide⟩, (show (0 : Int)<2147483647 by decide), ?_⟩
 refine ⟨⟨by decide, by decide, by decide⟩, ?_⟩
 refine (bI (c := decide (z<10 ^ 18)=true) (fun c => ?_) (fun c => ?_))
 ·exact ⟨rfl, q0 _ _ (Int.le_refl 0)⟩
 ·have c' : (10 : Int) ^ 18≤z := by simpa using c
  exact ⟨rfl, q0 _ _ (by omega)⟩
theorem bb (T : Txt K mg A) : FnOk P w K mg base CX0 1 A.f_q25 A.d_q25 ["_law_pool_here", "_law_many"] (a7 [true, false] false (rj)) := by
 have S := qP
 refine fnD T.t_q25.F S ⟨[true, false], [true, false, false], false⟩ _ ?hl rfl rfl fun cdv Ar outer s H E hr => ⟨_, (ae (aR (QT.bor [0] (aL jG dB (a6 aM dIx (aa 0) ad (fun _ _ => rfl)) ad (aH _))) (ae (aJ (i := 2) S.nd rfl (Or.inl rfl) (QE.bor [0] (ax cy dIC (a6 aM dIx (aa 0) ad (fun _ _ => rfl)) (aa 1))))
  (ae (kj (i := 0) rfl (QF.bor [0] (QE.qf (ax mm dIC (a6 aM dIx (aa 0) ad (fun _ _ => rfl)) (aa 1)))) ad)
  (af (az (aa 2))))) aD)
  (ae (kj (i := 0) rfl (QF.bor [0] (QE.qf (ax cy dIC (ax aW dI (ax eG dIC (a6 aM dIx (aa 0) ad (fun _ _ => rfl)) ad) ad) ad))) ad)
  (af (az (QE.bor [0] (ax cy dIC (ax oK dIC (ax cy dIC (ax eG dIC (a6 aM dIx (aa 0) ad (fun _ _ => rfl)) (a6 aM dIx (aa 0) ad (fun _ _ => rfl))) ad) ad) (aa 1))))))), fun ds q h => ?_⟩
 case hl => intro ds q h; obtain ⟨c, m, many, rfl, _⟩ := h; rfl
 obtain ⟨c, m, many, rfl, h0, hm, hs, q0⟩ := h
 refine (bI (c := decide (0<c)=true) (fun c1 => ?_) (fun c1 => ?_))
 ·refine ⟨hm, rfl, ?_⟩
  refine ⟨⟨hm, hs⟩, rfl, ?_⟩
  exact q0 _ (c / many) m (Int.emod_nonneg _ (Int.ne_of_gt hm)) (Int.emod_lt_of_pos _ hm) (Int.ediv_nonneg h0 (Int.le_of_lt hm))
 ·refine ⟨Or.inr ⟨by decide, by decide⟩, (show (0 : Int)<2147483647 by decide), rfl, ?_⟩
  have a1 := Int.emod_nonneg (m * 48271 + 11) (show (2147483647 : Int) ≠ 0 by decide)
  have a2 := Int.emod_lt_of_pos (m * 48271 + 11) (show (0 : Int)<2147483647 by decide)
  refine ⟨Or.inl ⟨by omega, by omega⟩, (show (0 : Int)<2147483629 by decide), ⟨by decide, by decide⟩, hm, ?_⟩
  exact ⟨rfl, q0 _ c _ (Int.emod_nonneg _ (Int.ne_of_gt hm)) (Int.emod_lt_of_pos _ hm) h0⟩
theorem jd (T : Txt K mg A) : FnOk P w K mg base CX0 2 A.f_q13 A.d_q13 ["_law_pool_here", "_law_most"] (a7 [true, false] false (md)) := by
 have S := pV
 refine fnD T.t_q13.F S ⟨[true, false], [true, false, false], false⟩ _ ?hl rfl rfl fun cdv Ar outer s H E hr => ⟨_, (ae (aJ (i := 2) S.nd rfl (Or.inl rfl) (ag (bb T) hr T.t_q25 (bJ 0 (am ad aj))))
  (ae (aR (aL (cq hr.units) dEq (aa 2) ad (aH _)) (af (az (ax aW dI ad (ag (bb T) hr T.t_q25 (bJ 0 (am (ap (bV rfl) kH rfl T.z_min eN (ac (aa 1) (ac ad ah))) aj)))))) aD)
  (ae (aR (aL (cq hr.units) dEq (aa 2) ad (aH _)) (af (az (ax aW dI ad (ag (bb T) hr T.t_q25 (bJ 0 (am (ap (bV rfl) kH rfl T.z_min eN (ac (aa 1) (ac ad ah))) aj)))))) aD)
  (ae (aR (aL (cq hr.units) dEq (aa 2) ad (aH _)) (af (az (ax bX dI (aa 1) (ag (bb T) hr T.t_q25 (bJ 0 (am (ap (bV rfl) kH rfl T.z_min eN (ac (aa 1) (ac ad ah))) aj)))))) aD)
  (af (az (ax aW dI ad (ax cy dIC (ax aW dI (ax eG dIC (ag (bb T) hr T.t_q25 (bJ 0 (am (ax dF dIC ad ad) aj))) (ax dF dIC ad ad)) (ag (bb T) hr T.t_q25 (bJ 0 (am (ax dF dIC ad ad) aj)))) (aa 1))))))))), fun ds q h => ?_⟩
 case hl => intro ds q h; obtain ⟨c, m, most, rfl, _⟩ := h; rfl
 obtain ⟨c, m, most, rfl, h0, hm0, hm1, q0⟩ := h
 refine ⟨c, m, 4, rfl, h0, by decide, bB (n := 4) (by decide) (by decide +kernel), fun w0 c1 m1 w00 w01 h1 => ?_⟩
 have hmin : ∀ j : Int, 1≤j→∃ z : Int, (if j<most then j else most)=z∧1≤z∧z≤most := fun j hj => by
  by_cases h : j<most
  ·exact ⟨j, by rw [if_pos h], hj, by omega⟩
  ·exact ⟨most, by rw [if_neg h], hm0, Int.le_refl _⟩
 refine (bI (c := decide (w0=0)=true) (fun c => ?_) (fun c => ?_))
 ·obtain ⟨z, ez, z0, z1⟩ := hmin 3 (by decide)
  refine ⟨c1, m1, z, by rw [← ez], h1, by omega, bB (n := 1000000000000) (by omega) (by decide +kernel), fun u c2 m2 u0 u1 h2 => ?_⟩
  exact q0 _ c2 m2 (by omega) (by omega) h2
 refine (bI (c := decide (w0=1)=true) (fun c => ?_) (fun c => ?_))
 ·obtain ⟨z, ez, z0, z1⟩ := hmin 12 (by decide)
  refine ⟨c1, m1, z, by rw [← ez], h1, by omega, bB (n := 1000000000000) (by omega) (by decide +kernel), fun u c2 m2 u0 u1 h2 => ?_⟩
  exact q0 _ c2 m2 (by omega) (by omega) h2
 refine (bI (c := decide (w0=2)=true) (fun c => ?_) (fun c => ?_))
 ·obtain ⟨z, ez, z0, z1⟩ := hmin 3 (by decide)
  refine ⟨c1, m1, z, by rw [← ez], h1, by omega, bB (n := 1000000000000) (by omega) (by decide +kernel), fun u c2 m2 u0 u1 h2 => ?_⟩
  exact q0 _ c2 m2 (by omega) (by omega) h2
 refine ⟨⟨by decide, by decide, by decide⟩, ?_⟩
 refine ⟨c1, m1, 1000000, rfl, h1, by decide, bB (n := 1000000) (by decide) (by decide +kernel), fun u c2 m2 u0 u1 h2 => ?_⟩
 refine ⟨⟨by decide, by decide, by decide⟩, Or.inr ⟨by decide, by decide⟩, ?_⟩
 refine ⟨⟨by decide, by decide, by decide⟩, ?_⟩
 refine ⟨c2, m2, 1000000, rfl, h2, by decide, bB (n := 1000000) (by decide) (by decide +kernel), fun u' c3 m3 u0' u1' h3 => ?_⟩
 refine ⟨(show (0 : Int)<most by omega), ?_⟩
 have e1 : ∀ z : Int, 1≤1 + z % most := fun z => by have := Int.emod_nonneg z (show most ≠ 0 by omega); omega
 have e2 : ∀ z : Int, 1 + z % most≤most := fun z => by have := Int.emod_lt_of_pos z (show 0<most by omega); omega
 exact q0 _ c3 m3 (e1 _) (e2 _) h3
theorem ok_q7 (T : Txt K mg A) : FnOk P w K mg base CX0 2 A.f_q7 A.d_q7 ["_law_pool_here", "_law_most"] (a7 [true, false] true (k8)) := by
 have S := sc_q7
 refine fnD T.t_q7.F S ⟨[true, false], [true, false, false, true, false, false], true⟩ _ ?hl rfl rfl fun cdv Ar outer s H E hr => ⟨_, (ae (aJ (i := 2) S.nd rfl (Or.inl rfl) (ag (bb T) hr T.t_q25 (bJ 0 (am ad aj))))
  (ae (dM (i := 3) S.nd rfl (Or.inl rfl) (hU ah))
  (ae (cP PassesOwn.never rfl (db rfl T.z_range (ac ad (ac (ax aW dI ad (ag (bb T) hr T.t_q25 (bJ 0 (am (aa 1) aj)))) ah))) (aI (i := 4) S.nd rfl (Or.inl rfl)) (ae (aJ (i := 5) S.nd rfl (Or.inl rfl) (ag (bb T) hr T.t_q25 (bJ 0 (am (aa 4) aj))))
  (af (eL (i := 3) rfl (QE.qf (a6 aM dIx (a8 (ac (aa 5) (ac (ax bX dI (aa 4) ad) (ac ad (ac (ap (dl rfl) dMax rfl T.z_max gY (ac ad (ac (ax bX dI (ax bX dI (aa 4) ad) (ax cy dIC (aa 5) ad)) ah))) ah))))) (aa 2) (fun _ _ => rfl)))))))
  (af (bR (fc 3)))))), fun ds q h => ?_⟩
 case hl => intro ds q h; obtain ⟨c, m, most, rfl, _⟩ := h; rfl
 obtain ⟨c, m, most, rfl, h0, hm0, hm1, q0⟩ := h
 refine ⟨c, m, 4, rfl, h0, by decide, bB (n := 4) (by decide) (by decide +kernel), fun w0 c1 m1 w00 w01 h1 => ?_⟩
 refine ⟨rfl, ?_⟩
 refine ⟨c1, m1, most, rfl, h1, by omega, bB (n := 23) (by omega) (by decide +kernel), fun n c2 m2 n0 n1 h2 => ?_⟩
 refine ⟨⟨by omega, by omega, by omega⟩, ?_⟩
 refine ⟨fun i ρ => ∃ (ps : List Int) (c m : Int) (v4 v5 : Option D), ρ=[some (ak [c, m]), some (.int most), some (.int w0), some (ak ps), v4, v5]∧0≤c∧ps.length=i∧(∀ (j : Nat) (x : Int), ps[j]? = some x→0≤x∧x≤j), ⟨[], c2, m2, _, _, rfl, h2, rfl, (fun j x h => by simp at h)⟩, ?_, ?_⟩
 ·rintro i d ρ hd ⟨ps, c3, m3, v4, v5, rfl, h3, lp, hpar⟩
  obtain ⟨hi, rfl⟩ := eh hd
  have hi2 : i<23 := by omega
  refine ⟨c3, m3, 1 + (i : Int), rfl, h3, by omega, bB (n := 23) (by omega) (by decide +kernel), fun r c4 m4 r0 r1 h4 => ?_⟩
  refine ⟨(show (0 : Int)<3 by decide), ?_⟩
  have e1 := Int.emod_nonneg r (show (3 : Int) ≠ 0 by decide)
  obtain ⟨y, hy, y1, y2⟩ : ∃ y : Int, atI [D.int r, D.int (1 + (i : Int) - 1), D.int 0, D.int (if (0 : Int)<1 + (i : Int) - 1 - r % 3 then 1 + (i : Int) - 1 - r % 3 else 0)] w0=some (.int y)∧0≤y∧y≤i := by
   have : w0=0∨w0=1∨w0=2∨w0=3 := by omega
   rcases this with rfl | rfl | rfl | rfl
   ·exact ⟨_, rfl, by omega, by omega⟩
   ·exact ⟨_, rfl, by omega, by omega⟩
   ·exact ⟨_, rfl, by omega, by omega⟩
   ·exact ⟨_, rfl, by split <;> omega, by split <;> omega⟩
  refine b8 hy ?_
  refine ⟨rfl, by rw [aB]; omega, ?_⟩
  refine ⟨ps++[y], c4, m4, some (.int (1 + (i : Int))), some (.int r), ?_, h4, by rw [List.length_append, lp]; rfl, jJ hpar ⟨y1, by omega⟩⟩
  rw [← gD]; rfl
 ·rintro ρ ⟨ps, c3, m3, v4, v5, rfl, h3, lp, hpar⟩
  rw [bG] at lp
  exact q0 ps c3 m3 ⟨by omega, by omega, hpar⟩ (by omega) h3
theorem rE (T : Txt K mg A) : FnOk P w K mg base CX0 3 A.f_q15 A.d_q15 ["_law_pool_here", "_law_many", "_law_least"] (a7 [true, false, false] true (nV)) := by
 have S := rJ
 refine fnD T.t_q15.F S ⟨[true, false, false], [true, false, false, false], true⟩ _ ?hl rfl rfl fun cdv Ar outer s H E hr => ⟨_, (ae (aJ (i := 3) S.nd rfl (Or.inr rfl) (a6 aM dIx (a8 (ac ad (ac ad (ac (ax dF dIC ad ad) ah)))) (ag (bb T) hr T.t_q25 (bJ 0 (am ad aj))) (fun _ _ => rfl)))
  (af (bR (QF.qm (il ["_law_k"] [2, 0, 3] 0 2 ⟨rfl, rfl, by decide +kernel, rfl, rfl, (by first | exact trivial | exact ⟨rfl, trivial⟩ | exact ⟨rfl, rfl, trivial⟩ | exact ⟨rfl, rfl, rfl, trivial⟩ | exact ⟨rfl, rfl, rfl, rfl, trivial⟩), rfl⟩ rfl (k7 rfl T.z_range (ac (aa 1) ah)) (f9 0) (fun _ _ _ _ => ⟨(a9 (i := 0) (show List.Nodup (["_law_k", "_law_least", "_law_pool_here", "_law_most"] : List Str) by decide +kernel) rfl (Or.inl rfl)), cp, (ax aW dI (ax bX dI (aa 1) ad) (ag (jd T) hr T.t_q13 (bJ 2 (am (ax aW dI (ax bX dI (aa 3) (aa 1)) ad) aj))))⟩)))))), fun ds q h => ?_⟩
 case hl => intro ds q h; obtain ⟨c, m, n, least, rfl, _⟩ := h; rfl
 obtain ⟨c, m, n, least, rfl, h0, n0, n1, l0, l1, q0⟩ := h
 refine ⟨⟨by decide, by decide, by decide⟩, ?_⟩
 refine ⟨c, m, 3, rfl, h0, by decide, bB (n := 3) (by decide) (by decide +kernel), fun r c1 m1 r0 r1 h1 => ?_⟩
 obtain ⟨z, hz, z1, z2⟩ : ∃ z : Int, atI [D.int 3, D.int 60, D.int (10 ^ Int.toNat 6)] r=some (.int z)∧3≤z∧z≤1000000 := by
  have : r=0∨r=1∨r=2 := by omega
  rcases this with rfl | rfl | rfl
  all_goals exact ⟨_, rfl, by decide, by decide⟩
 refine b8 hz ?_
 refine ⟨⟨by omega, by omega⟩, ?_⟩
 refine ⟨by rw [bG]; omega, ?_⟩
 refine ⟨fun i es d => ∃ (rs : List Int) (c m : Int), es=rs.map D.int∧d=ak [c, m]∧0≤c∧rs.length=i∧(∀ (j : Nat) (x : Int), rs[j]? = some x→least≤x∧x≤1000000), ⟨[], c1, m1, rfl, rfl, h1, rfl, (fun j x h => by simp at h)⟩, ?_, ?_⟩
 ·rintro j x es d hx ⟨rs, c5, m5, rfl, rfl, h5, lr, hroom⟩
  refine ⟨c5, m5, z - least + 1, rfl, h5, by omega, by omega, fun u c6 m6 u0 u1 h6 => ?_⟩
  exact ⟨rs++[least - 1 + u], c6, m6, (List.map_append (l₂ := [least - 1 + u])).symm, rfl, h6, by rw [List.length_append, lr]; rfl, jJ hroom ⟨by omega, by omega⟩⟩
 ·rintro es d ⟨rs, c5, m5, rfl, rfl, h5, lr, hroom⟩
  rw [bG] at lr
  refine ⟨bj _, ?_⟩
  exact q0 rs c5 m5 ⟨by omega, hroom⟩ h5
theorem qO (T : Txt K mg A) : FnOk P w K mg base CX0 2 A.f_q23 A.d_q23 ["_law_pool_here", "_law_many"] (a7 [true, false] false (nU)) := by
 have S := qp
 refine fnD T.t_q23.F S ⟨[true, false], [true, false, false], false⟩ _ ?hl rfl rfl fun cdv Ar outer s H E hr => ⟨_, (ae (aJ (i := 2) S.nd rfl (Or.inl rfl) (ag (bb T) hr T.t_q25 (bJ 0 (am (ax aW dI (aa 1) ad) aj))))
  (af (az (fF (ac (aa 2) (ac (ax cy dIC (ax aW dI (ax aW dI (aa 2) ad) (ag (bb T) hr T.t_q25 (bJ 0 (am (aa 1) aj)))) (ax aW dI (aa 1) ad)) ah)))))), fun ds q h => ?_⟩
 case hl => intro ds q h; obtain ⟨c, m, n, rfl, _⟩ := h; rfl
 obtain ⟨c, m, n, rfl, h0, n0, n1, q0⟩ := h
 refine ⟨c, m, (n : Int) + 1, rfl, h0, by omega, bB (n := 24) (by omega) (by decide +kernel), fun a c1 m1 a0 a1 h1 => ?_⟩
 refine ⟨c1, m1, (n : Int), rfl, h1, by omega, bB (n := 24) (by omega) (by decide +kernel), fun r c2 m2 r0 r1 h2 => ?_⟩
 refine ⟨(show (0 : Int)<(n : Int) + 1 by omega), ?_⟩
 have he := jj (ps := List.replicate n 0) (a := a) (r := r) a0 (by rw [List.length_replicate]; omega) r0 (by rw [List.length_replicate]; omega)
 rw [List.length_replicate, show 1 + (n : Int)=(n : Int) + 1 by omega] at he
 have hb1 := he.b1
 rw [List.length_replicate] at hb1
 exact q0 _ _ c2 m2 he.a0 (by omega) he.b0 hb1 he.ne h2
theorem mW (T : Txt K mg A) : FnOk P w K mg base CX0 1 A.f_q33 A.d_q33 ["_law_parents_here", "_law_place"] (a7 [false, false] true (sdUpP)) := by
 have S := rG
 refine fnD T.t_q33.F S ⟨[false, false], [false, false, true], true⟩ _ ?hl rfl rfl fun cdv Ar outer s H E hr => ⟨_, (ae (dM (i := 2) S.nd rfl (Or.inl rfl) (hU ah))
  (ae (iW PassesOwn.never (aL jG dB (aa 1) ad (aH _)) (ae (eL (i := 2) rfl (QE.qf (aa 1)))
  (af (aJ (i := 1) S.nd rfl (Or.inl rfl) (a6 aM dIx (aa 0) (ax bX dI (aa 1) ad) (fun _ _ => rfl))))))
  (af (bR (fc 2))))), fun ds q h => ?_⟩
 case hl => intro ds q h; obtain ⟨ps, rs, k, rfl, _⟩ := h; rfl
 obtain ⟨ps, rs, k, rfl, hT, h0, h1, q0⟩ := h
 have hi := hT.hi
 refine ⟨rfl, ?_⟩
 refine ⟨fun j ρ => ∃ (k' : Int) (acc : List Int), ρ=[some (ak ps), some (.int k'), some (ak acc)]∧0≤k'∧k'≤ps.length∧j=k'.toNat∧acc.length + k'.toNat≤24∧(∀ u, Up ps k' u→Up ps k (acc++u)), ⟨_, k, [], rfl, h0, h1, rfl, by show 0 + k.toNat≤24; omega, fun u h => h⟩, ?_⟩
 rintro j ρ ⟨k', acc, rfl, h0', h1', rfl, hl, hu⟩
 refine (bI (c := decide (0<k')=true) (fun c => ?_) (fun c => ?_))
 ·have hk : 0<k' := by simpa using c
  have hp := hT.up hk h1'
  refine ⟨rfl, by rw [aB]; omega, ?_⟩
  refine b8 (fw (by omega) (by omega)) ?_
  refine ⟨(cE ps k').toNat, by omega, cE ps k', acc++[k'], ?_, hp.1, by omega, rfl, by rw [List.length_append]; show acc.length + 1 + _≤24; omega, fun u h => by rw [List.append_assoc]; exact hu _ (.step hk h)⟩
  rw [← gD]; rfl
 ·have hk : k'=0 := by simp at c; omega
  subst hk
  exact q0 acc (hu [0] .zero)
theorem qZ (T : Txt K mg A) : FnOk P w K mg base CX0 2 A.f_q32 A.d_q32 ["_law_parents_here", "_law_ask_here"] (a7 [false, false] true (qh)) := by
 have S := qj
 refine fnD T.t_q32.F S ⟨[false, false], [false, false, false, false, false], true⟩ _ ?hl rfl rfl fun cdv Ar outer s H E hr => ⟨_, (ae (aJ (i := 2) S.nd rfl (Or.inr rfl) (QF.qe (aX (mW T) hr T.t_q33 (am (aa 0) (am (a6 aM dIx (aa 1) ad (fun _ _ => rfl)) aj)))))
  (ae (aJ (i := 3) S.nd rfl (Or.inr rfl) (QF.qe (aX (mW T) hr T.t_q33 (am (aa 0) (am (a6 aM dIx (aa 1) ad (fun _ _ => rfl)) aj)))))
  (ae (dA (i := 4) ["_law_tie"] [3] ⟨rfl, rfl, by decide +kernel, rfl, rfl, (by first | exact trivial | exact ⟨rfl, trivial⟩ | exact ⟨rfl, rfl, trivial⟩ | exact ⟨rfl, rfl, rfl, trivial⟩ | exact ⟨rfl, rfl, rfl, rfl, trivial⟩), rfl⟩ rfl S.nd rfl (Or.inl rfl) (bu (aa 2)) (bQ 0) (fun _ _ _ _ => ⟨(a9 (i := 0) (show List.Nodup (["_law_tie", "_law_other"] : List Str) by decide +kernel) rfl (Or.inl rfl)), (dJ (aL ec dIn (aa 0) (aa 1) rfl)), (aa 0)⟩))
  (af (bR (QF.qm (iI dR lg rfl T.z_sorted gs (ac (gK eM k9 (aa 4) (dc ["_law_tie"] [2] ⟨rfl, rfl, by decide +kernel, rfl, rfl, (by first | exact trivial | exact ⟨rfl, trivial⟩ | exact ⟨rfl, rfl, trivial⟩ | exact ⟨rfl, rfl, rfl, trivial⟩ | exact ⟨rfl, rfl, rfl, rfl, trivial⟩), rfl⟩ rfl (bu (aa 3)) (bQ 0) (fun _ _ _ _ => ⟨(a9 (i := 0) (show List.Nodup (["_law_tie", "_law_one"] : List Str) by decide +kernel) rfl (Or.inl rfl)), (dJ (aL ec dIn (aa 0) (aa 1) rfl)), (aa 0)⟩))) ah)))))))), fun ds q h => ?_⟩
 case hl => intro ds q h; obtain ⟨ps, rs, a, b, rest, rfl, _⟩ := h; rfl
 obtain ⟨ps, rs, a, b, rest, rfl, hT, a0, a1, b0, b1, q0⟩ := h
 have hi := hT.hi
 have i0 : atI (D.int a :: D.int b :: rest) 0=some (.int a) := fq (j := 0) rfl
 have i1 : atI (D.int a :: D.int b :: rest) 1=some (.int b) := fq (j := 1) rfl
 refine b8 i0 ?_
 refine ⟨ps, rs, a, rfl, hT, a0, a1, fun va hua => ?_⟩
 refine b8 i1 ?_
 refine ⟨ps, rs, b, rfl, hT, b0, b1, fun vb hub => ?_⟩
 have hl := hua.len hT a1
 have hl2 := hub.len hT b1
 rw [List.length_append] at hl hl2
 refine ⟨by rw [aB]; simp at hl; omega, ?_⟩
 refine dH (filD fun x => !vb.contains x) ?_ ?_
 ·intro d hd k hk
  obtain ⟨x, hx, rfl⟩ := ce hd
  refine ⟨rfl, cY vb, ?_⟩
  change k (if (!vb.contains x)=true then some (.int x) else none) at hk
  show if (!inD (.int x) (vb.map D.int))=true then k (some (.int x)) else k none
  rw [et]
  cases e : vb.contains x with
  | true => rw [e] at hk; exact hk
  | false => rw [e] at hk; exact hk
 rw [eQ]
 have hf1 := List.length_filter_le (fun x => !vb.contains x) va
 have hf2 := List.length_filter_le (fun x => !va.contains x) vb
 simp at hl hl2
 refine ⟨by rw [aB]; omega, ?_⟩
 refine dH (filD fun x => !va.contains x) ?_ ?_
 ·intro d hd k hk
  obtain ⟨x, hx, rfl⟩ := ce hd
  refine ⟨rfl, cY va, ?_⟩
  change k (if (!va.contains x)=true then some (.int x) else none) at hk
  show if (!inD (.int x) (va.map D.int))=true then k (some (.int x)) else k none
  rw [et]
  cases e : va.contains x with
  | true => rw [e] at hk; exact hk
  | false => rw [e] at hk; exact hk
 rw [eQ]
 refine ⟨by rw [aB, aB]; omega, ?_⟩
 rw [← List.map_append]
 refine ⟨_, rfl, by rw [List.length_append]; omega, bj _, ?_⟩
 rw [← oR hT a0 b0 a1 b1 hua hub]
 exact q0
def qk : SpD := fun ds q => ∃ c m ps, ds=[ak [c, m], .int ((ps.length : Nat) : Int)]∧0≤c∧ParOk ps∧∀ a c' m', AskOk ps a→0≤c'→q (gm a) [some (ak [c', m'])]
theorem pT (T : Txt K mg A) : FnOk P w K mg base CX0 3 A.f_q30 A.d_q30 ["_law_pool_here", "_law_many"] (a7 [true, false] false (qk)) := by
 have S := rC
 refine fnD T.t_q30.F S ⟨[true, false], [true, false, false, false], false⟩ _ ?hl rfl rfl fun cdv Ar outer s H E hr => ⟨_, (ae (ga (ag (qO T) hr T.t_q23 (bJ 0 (am (aa 1) aj))) (cL rfl (aK (aI (i := 2) S.nd rfl (Or.inl rfl)) (aK (aI (i := 3) S.nd rfl (Or.inl rfl)) b6)) (av (av bn))))
  (af (az (fF (ac (aa 2) (ac (aa 3) (ac (ag (jd T) hr T.t_q13 (bJ 0 (am (ax dF dIC ad ad) aj))) (ac (ag (jd T) hr T.t_q13 (bJ 0 (am (ax dF dIC ad ad) aj))) ah)))))))), fun ds q h => ?_⟩
 case hl => intro ds q h; obtain ⟨c, m, ps, rfl, _⟩ := h; rfl
 obtain ⟨c, m, ps, rfl, h0, hP, q0⟩ := h
 refine ⟨c, m, ps.length, rfl, h0, hP.lo, hP.hi, fun a b c1 m1 a0 a1 b0 b1 hab h1 => ?_⟩
 refine ⟨⟨by decide, by decide, by decide⟩, ?_⟩
 refine ⟨c1, m1, 1000000, rfl, h1, by decide, by decide, fun s c2 m2 s0 s1 h2 => ?_⟩
 refine ⟨⟨by decide, by decide, by decide⟩, ?_⟩
 refine ⟨c2, m2, 1000000000000, rfl, h2, by decide, by decide, fun wo c3 m3 w0 w1 h3 => ?_⟩
 exact q0 ⟨a, b, s, wo⟩ c3 m3 ⟨⟨a0, a1, b0, b1, hab⟩, s0, s1, w0, w1⟩ h3
def pr (K : PySem.W.Frag) : SpD := fun ds q => ∃ φ ns, ds=[.scr φ ns, .int 32]∧kf K φ ns∧ns.length≤63∧∀ ps rs as, Tree ps rs→AsksOk ps as→q (.tup [aO ps rs, cj as]) []
theorem qd (T : Txt K mg A) : FnOk P w K mg base CX0 4 A.f_q22 A.d_q22 ["_law_script", "_law_last"] (a7 [false, false] false (pr K)) := by
 have S := qV
 refine fnD T.t_q22.F S ⟨[false, false], [false, false, false, false, false], false⟩ _ ?hl rfl rfl fun cdv Ar outer s H E hr => ⟨_, (ae (aJ (i := 2) S.nd rfl (Or.inr rfl) (QF.qe (aX (ok_q7 T) hr T.t_q7 (qk_t (aX (gZ T) hr T.t_q24 (am (aa 0) (am ad aj))) (am ad aj)))))
  (ae (aJ (i := 3) S.nd rfl (Or.inl rfl) (fF (ac (aa 2) (ac (QF.qe (aX (rE T) hr T.t_q15 (qk_t (aX (gZ T) hr T.t_q24 (am (aa 0) (am ad aj))) (am (ap aq cn rfl T.z_len aZ (ac (aa 2) ah)) (am ad aj))))) ah))))
  (ae (dA (i := 4) ["_law_k"] [0, 2] ⟨rfl, rfl, by decide +kernel, rfl, rfl, (by first | exact trivial | exact ⟨rfl, trivial⟩ | exact ⟨rfl, rfl, trivial⟩ | exact ⟨rfl, rfl, rfl, trivial⟩ | exact ⟨rfl, rfl, rfl, rfl, trivial⟩), rfl⟩ rfl S.nd rfl (Or.inl rfl) (db rfl T.z_range (ac ad (ac (ap (bV rfl) kH rfl T.z_min eN (ac (ap aq cn rfl T.z_len aZ (ac (aa 0) ah)) (ac (aa 1) ah))) ah))) (bQ 0) (fun _ _ _ _ => ⟨(a9 (i := 0) (show List.Nodup (["_law_k", "_law_script", "_law_parents_here"] : List Str) by decide +kernel) rfl (Or.inl rfl)), cp, (ag (pT T) hr T.t_q30 (qk_t (aX (gZ T) hr T.t_q24 (am (aa 1) (am (aa 0) aj))) (am (ap aq cn rfl T.z_len aZ (ac (aa 2) ah)) aj)))⟩))
  (af (az (fF (ac (aa 3) (ac (aa 4) ah)))))))), fun ds q h => ?_⟩
 case hl => intro ds q h; obtain ⟨φ, ns, rfl, _⟩ := h; rfl
 obtain ⟨φ, ns, rfl, hφ, hl, q0⟩ := h
 refine ⟨φ, ns, 0, rfl, hφ, by decide, by decide, fun c m h0 => ?_⟩
 refine ⟨c, m, 23, rfl, h0, by decide, by decide, fun ps c1 m1 hP _ h1 => ?_⟩
 have hi := hP.hi
 refine ⟨φ, ns, 1, rfl, hφ, by decide, by decide, fun c4 m4 h4 => ?_⟩
 refine ⟨c4, m4, ps.length, 1, by rw [aB], h4, hP.lo, hP.hi, by decide, by decide, fun rs c5 m5 hR h5 => ?_⟩
 have hT := hP.tree hR (by decide)
 refine ⟨hφ, ?_⟩
 refine ⟨⟨by decide, by decide, by split <;> omega, by split <;> omega⟩, ?_⟩
 refine ⟨by rw [bG]; split <;> omega, ?_⟩
 refine ⟨fun i es => ∃ as : List Ask, es=as.map gm∧as.length=i∧(∀ a∈as, AskOk ps a), ⟨[], rfl, rfl, fun a h => by cases h⟩, ?_, ?_⟩
 ·rintro i d es hd ⟨as, rfl, la, hok⟩
  obtain ⟨hi2, rfl⟩ := eh hd
  have hi3 : i<30 := by revert hi2; split <;> omega
  refine ⟨φ, ns, 2 + (i : Int), rfl, hφ, by omega, by omega, fun c6 m6 h6 => ?_⟩
  refine ⟨c6, m6, ps, by rw [aB], h6, hP, fun a c7 m7 ha h7 => ?_⟩
  refine ⟨as++[a], by rw [List.map_append]; rfl, by rw [List.length_append, la]; rfl, fun b hb => ?_⟩
  rcases List.mem_append.mp hb with hb | hb
  ·exact hok b hb
  ·rw [List.mem_singleton.mp hb]; exact ha
 rintro es ⟨as, rfl, la, hok⟩
 have hal : as.length≤30 := by rw [la, bG]; split <;> omega
 exact q0 ps rs as hT ⟨hal, hok⟩
end
end K58
namespace K58
open PySem L2
section
variable {P : Program} {w : World} {K : PySem.W.Frag} {mg : Str→Option Value} {base : Heap} {A : Adr}
def rK : SpD := fun ds q => ∃ c m ps rs as, ds=[ak [c, m], aO ps rs, d7 (br ps as)]∧0≤c∧Tree ps rs∧AsksOk ps as∧∀ cu c' m', CutIn ps cu→0≤c'→q (ak cu) [some (ak [c', m'])]
theorem qr (T : Txt K mg A) : FnOk P w K mg base CX0 2 A.f_q26 A.d_q26 ["_law_pool_here", "_law_tree", "_law_ways"] (a7 [true, false, false] true (rK)) := by
 have S := qq
 refine fnD T.t_q26.F S ⟨[true, false, false], [true, false, false, false, false, true], true⟩ _ ?hl rfl rfl fun cdv Ar outer s H E hr => ⟨_, (ae (aJ (i := 3) S.nd rfl (Or.inl rfl) (ag (bb T) hr T.t_q25 (bJ 0 (am ad aj))))
  (ae (aJ (i := 4) S.nd rfl (Or.inr rfl) (ax aW dI ad (ag (bb T) hr T.t_q25 (bJ 0 (am ad aj)))))
  (ae (h8 (i := 5) ["_law_tie"] [0, 4] 0 1 ⟨rfl, rfl, by decide +kernel, rfl, rfl, (by first | exact trivial | exact ⟨rfl, trivial⟩ | exact ⟨rfl, rfl, trivial⟩ | exact ⟨rfl, rfl, rfl, trivial⟩ | exact ⟨rfl, rfl, rfl, rfl, trivial⟩), rfl⟩ rfl S.nd rfl (Or.inl rfl) (db rfl T.z_range (ac ad (ac (ax aW dI (ap aq cn rfl T.z_len aZ (ac (a6 aM dIx (aa 1) ad (fun _ _ => rfl)) ah)) ad) ah))) (f9 0) (fun _ _ _ _ => ⟨(a9 (i := 0) (show List.Nodup (["_law_tie", "_law_pool_here", "_law_rare"] : List Str) by decide +kernel) rfl (Or.inl rfl)), (dJ (aL jG dB (ag (bb T) hr T.t_q25 (bJ 1 (am (aa 2) aj))) ad (aH _))), (aa 0)⟩))
  (ae (lV (aR (QW.qt (lj (aL gR dB (aa 3) ad (aH _)) (kc (aL (lQ hr.units) q_ (aa 2) (a8 ah) (aH _))))) (af (dM (i := 5) S.nd rfl (Or.inl rfl) (i8 rfl (QF.qe (il ["_law_one"] [0] 0 1 ⟨rfl, rfl, by decide +kernel, rfl, rfl, (by first | exact trivial | exact ⟨rfl, trivial⟩ | exact ⟨rfl, rfl, trivial⟩ | exact ⟨rfl, rfl, rfl, trivial⟩ | exact ⟨rfl, rfl, rfl, rfl, trivial⟩), rfl⟩ rfl (bu (aa 2)) (f9 0) (fun _ _ _ _ => ⟨(a9 (i := 0) (show List.Nodup (["_law_one", "_law_pool_here"] : List Str) by decide +kernel) rfl (Or.inl rfl)), cp, (a6 aM dIx (aa 0) (ag (bb T) hr T.t_q25 (bJ 1 (am (ap aq cn rfl T.z_len aZ (ac (aa 0) ah)) aj))) (fun _ _ => rfl))⟩))) rfl T.z_sorted rfl T.z_set))) aD))
  (ae (aR (QT.bor [5] (QW.qt (lj (aL (cq hr.units) dEq (aa 3) ad (aH _)) (kc (aL (fW hr.units) dNe (aa 5) (a8 ah) (aH _)))))) (af (d4 (ph (i := 5) rfl (QE.bor [5] (ag (bb T) hr T.t_q25 (bJ 0 (am (ap aq cn rfl T.z_len aZ (ac (aa 5) ah)) aj))))))) aD)
  (af (bR (fc 5)))))))), fun ds q h => ?_⟩
 case hl => intro ds q h; obtain ⟨c, m, ps, rs, as, rfl, _⟩ := h; rfl
 obtain ⟨c, m, ps, rs, as, rfl, h0, hT, ha, q0⟩ := h
 have hti := hT.hi
 refine ⟨c, m, 4, rfl, h0, by decide, bB (n := 4) (by decide) (by decide +kernel), fun wy c1 m1 w0 w1 h1 => ?_⟩
 refine ⟨c1, m1, 3, rfl, h1, by decide, bB (n := 4) (by decide) (by decide +kernel), fun ra c2 m2 r0 r1 h2 => ?_⟩
 refine ⟨⟨by decide, by decide, by rw [aB]; omega, by rw [aB]; omega⟩, ?_⟩
 refine ⟨by rw [bG, aB]; omega, ?_⟩
 refine ⟨fun i es d => ∃ (ks : List Int) (c m : Int), es=ks.map D.int∧d=ak [c, m]∧0≤c∧ks.Pairwise (· < ·)∧∀ t∈ks, 0<t∧t<1 + (i : Int), ⟨[], c2, m2, rfl, rfl, h2, .nil, fun k h => by cases h⟩, ?_, ?_⟩
 ·rintro j x es d hx ⟨ks, c5, m5, rfl, rfl, h5, hk, hb⟩
  obtain ⟨hj, rfl⟩ := eh hx
  refine ⟨c5, m5, 2 + ra, rfl, h5, by omega, bB (n := 5) (by omega) (by decide +kernel), fun t c6 m6 t0 t1 h6 => ?_⟩
  refine (bI (c := decide (0<t)=true) (fun _ => ?_) (fun _ => ?_))
  ·refine ⟨ks++[1 + (j : Int)], c6, m6, (List.map_append (l₂ := [1 + (j : Int)])).symm, rfl, h6, ?_, fun k hk' => ?_⟩
   ·refine List.pairwise_append.mpr ⟨hk, List.pairwise_singleton _ _, fun a ha b hb' => ?_⟩
    rw [List.mem_singleton.mp hb']
    have := hb a ha
    omega
   ·rcases List.mem_append.mp hk' with h | h
    ·have := hb k h; omega
    ·rw [List.mem_singleton.mp h]; omega
  ·exact ⟨ks, c6, m6, rfl, rfl, h6, hk, fun k h => by have := hb k h; omega⟩
 rintro es d ⟨ks, c5, m5, rfl, rfl, h5, hk, hb⟩
 rw [bG, aB] at hb
 have hC : CutIn ps ks := ⟨hk, fun t ht => by have := hb t ht; omega⟩
 refine ⟨bj _, ?_⟩
 refine ⟨fun ρ => ∃ cu c m, ρ=[some (ak [c, m]), some (aO ps rs), some (d7 (br ps as)), some (.int wy), some (.int (2 + ra)), some (ak cu)]∧CutIn ps cu∧0≤c, ?_, ?_⟩
 ·refine (bI (c := decide (wy<2)=true) (fun _ => ?_) (fun _ => ⟨ks, c5, m5, rfl, hC, h5⟩))
  refine (bI (c := (!((br ps as).map ak).isEmpty)=true) (fun _ => ?_) (fun _ => ⟨ks, c5, m5, rfl, hC, h5⟩))
  have hal := ha.len
  have hwl : (br ps as).length=as.length := by unfold br; rw [List.length_map]
  refine ⟨by rw [List.length_map]; omega, ?_⟩
  refine ⟨fun i es d => ∃ (ks : List Int) (c m : Int), es=ks.map D.int∧d=ak [c, m]∧0≤c∧ks.length=i∧∀ t∈ks, 0<t∧t≤(ps.length : Int), ⟨[], c5, m5, rfl, rfl, h5, rfl, fun k h => by cases h⟩, ?_, ?_⟩
  ·rintro j x es d hx ⟨ks, c6, m6, rfl, rfl, h6, hkl, hb⟩
   obtain ⟨w, hw, rfl⟩ : ∃ w, (br ps as)[j]? = some w∧ak w=x := by rw [List.getElem?_map, Option.map_eq_some_iff] at hx; exact hx
   obtain ⟨a, hm, rfl⟩ := List.mem_map.mp (List.mem_of_getElem? hw)
   have he := (ha.ok a hm).ends
   have hp : 0<(bD ps a).length := jX hT he
   have h46 : (bD ps a).length≤46 := gJ hT he
   refine ⟨c6, m6, ((bD ps a).length : Int), by rw [aB], h6, by omega, bB (n := 46) (by omega) (by decide +kernel), fun t c7 m7 t0 t1 h7 => ?_⟩
   refine b8 (fw t0 t1) ?_
   have hin : (bD ps a).getD t.toNat 0∈bD ps a := by
    rw [List.getD_eq_getElem?_getD, List.getElem?_eq_getElem (show t.toNat<(bD ps a).length by omega)]; exact List.getElem_mem _
   have hmm := ka hT he hin
   exact ⟨ks++[(bD ps a).getD t.toNat 0], c7, m7, (List.map_append (l₂ := [(bD ps a).getD t.toNat 0])).symm, rfl, h7, by rw [List.length_append, hkl]; rfl, fun k hk' => by
    rcases List.mem_append.mp hk' with h | h
    ·exact hb k h
    ·rw [List.mem_singleton.mp h]; omega⟩
  rintro es d ⟨ks2, c6, m6, rfl, rfl, h6, hkl, hb2⟩
  rw [List.length_map] at hkl
  refine ⟨bj _, ?_⟩
  refine ⟨ks2, rfl, by omega, fun k hk' => by have := hb2 k hk'; omega, fun cu u1 u2 u3 => ?_⟩
  exact ⟨cu, c6, m6, rfl, ⟨u1, fun t ht => hb2 t ((u2 t).mp ht)⟩, h6⟩
 rintro ρ ⟨cu, c6, m6, rfl, hC6, h6⟩
 have hcl := hC6.len
 refine (bI (c := decide (wy=1)=true) (fun _ => ?_) (fun _ => q0 cu c6 m6 hC6 h6))
 refine ⟨ip _, ip [], ?_⟩
 have e : eqD (ak cu) (.lst [])=decide (cu=[]) := eqDi cu []
 rw [e]
 by_cases hn : cu=[]
 ·rw [decide_eq_true hn]
  exact q0 cu c6 m6 hC6 h6
 rw [decide_eq_false hn]
 have hpos : 0<cu.length := List.length_pos_iff.mpr hn
 refine ⟨c6, m6, (cu.length : Int), by rw [aB], h6, by omega, bB (n := 23) (by omega) (by decide +kernel), fun t c7 m7 t0 t1 h7 => ?_⟩
 have ht : t.toNat<cu.length := by omega
 refine ⟨rfl, .int cu[t.toNat], t, rfl, bj _, t0, by rw [List.getElem?_map, List.getElem?_eq_getElem ht]; rfl, ?_⟩
 have ee : (cu.map D.int).eraseIdx t.toNat=(cu.eraseIdx t.toNat).map D.int := (eu ..).symm
 rw [ee]
 exact q0 _ c7 m7 ⟨hC6.up.sublist (List.eraseIdx_sublist ..), fun x hx => hC6.lo x (List.mem_of_mem_eraseIdx hx)⟩ h7
end
end K58
namespace K58
open PySem L2
section
variable {P : Program} {w : World} {K : PySem.W.Frag} {mg : Str→Option Value} {base : Heap} {A : Adr}
def oB : SpD := fun ds q => ∃ c m ps cu, ds=[ak [c, m], ak cu, .int (ps.length : Int)]∧0≤c∧ps.length≤23∧CutIn ps cu∧∀ x c' m', BentOk x→0≤c'→q x [some (ak [c', m'])]
theorem qH (T : Txt K mg A) : FnOk P w K mg base CX0 2 A.f_q21 A.d_q21 ["_law_pool_here", "_law_ties_here", "_law_many"] (a7 [true, false, false] false (oB)) := by
 have S := rf
 refine fnD T.t_q21.F S ⟨[true, false, false], [true, false, false, false, false], false⟩ _ ?hl rfl rfl fun cdv Ar outer s H E hr => ⟨_, (ae (aJ (i := 3) S.nd rfl (Or.inl rfl) (ag (bb T) hr T.t_q25 (bJ 0 (am ad aj))))
  (ae (aJ (i := 4) S.nd rfl (Or.inl rfl) (ag (bb T) hr T.t_q25 (bJ 0 (am (ap (dl rfl) dMax rfl T.z_max gY (ac ad (ac (ap aq cn rfl T.z_len aZ (ac (aa 1) ah)) ah))) aj))))
  (ae (aR (aL (cq hr.units) dEq (aa 3) ad (aH _)) (af (az (QF.qe (rl (aa 1))))) aD)
  (ae (aR (aL (cq hr.units) dEq (aa 3) ad (aH _)) (af (az (gK eM k9 (dO (aa 1) ff (e_ (ax aW dI (aa 4) ad))) (dO (aa 1) (e_ (aa 4)) ff)))) aD)
  (ae (aR (aL (cq hr.units) dEq (aa 3) ad (aH _)) (af (az (gK eM k9 (a8 (ac ad ah)) (aa 1)))) aD)
  (ae (aR (aL gR dB (aa 3) ad (aH _)) (af (az (gK eM k9 (aa 1) (a8 (ac (a6 aM dIx (a8 (ac (ax aW dI (aa 2) ad) (ac (pX ad) ah))) (ax bX dI (aa 3) ad) (fun _ _ => rfl)) ah))))) aD)
  (ae (aR (aL gR dB (aa 3) ad (aH _)) (af (az (gK eM k9 (gK eM k9 (dO (aa 1) ff (e_ (aa 4))) (a8 (ac (a6 aM dIx (a8 (ac bN (ac rM (ac jr ah)))) (ax bX dI (aa 3) ad) (fun _ _ => rfl)) ah))) (dO (aa 1) (e_ (ax aW dI (aa 4) ad)) ff)))) aD)
  (af (az (a6 aM dIx (a8 (ac (mO rfl T.z_tuple fE (aa 1)) (ac jr ah))) (ax bX dI (aa 3) ad) (fun _ _ => rfl))))))))))), fun ds q h => ?_⟩
 case hl => intro ds q h; obtain ⟨c, m, ps, cu, rfl, _⟩ := h; rfl
 obtain ⟨c, m, ps, cu, rfl, h0, hp, hC, q0⟩ := h
 have hcl := hC.len
 refine ⟨c, m, 10, rfl, h0, by decide, bB (n := 12) (by decide) (by decide +kernel), fun wy c1 m1 w0 w1 h1 => ?_⟩
 obtain ⟨mx, hmx, mx0, mx1⟩ : ∃ mx : Int, (if (1 : Int)<((cu.map D.int).length : Int) then ((cu.map D.int).length : Int) else 1)=mx∧1≤mx∧mx≤30 := by
  rw [aB]
  exact ⟨_, rfl, by split <;> omega, by split <;> omega⟩
 refine ⟨c1, m1, mx, by rw [← hmx], h1, by omega, bB (n := 100) (by omega) (by decide +kernel), fun at' c2 m2 a0 a1 h2 => ?_⟩
 have hi : ∀ z∈cu, Sml 1 100 (.int z)∧pln (.int z)=true := fun z hz => dN (by have := hC.lo z hz; omega)
 have hall : ∀ d∈cu.map D.int, Sml 1 100 d∧pln d=true := fun d hd => by obtain ⟨z, hz, rfl⟩ := ce hd; exact hi z hz
 refine (bI (c := decide (wy=0)=true) (fun _ => ?_) (fun n0 => ?_))
 ·refine ⟨bj _, ?_⟩
  refine q0 _ c2 m2 (ca (ds := (cu.map D.int).reverse) (fun d hd => hall d (List.mem_reverse.mp hd)) (by rw [List.length_reverse, List.length_map]; omega)) h2
 refine (bI (c := decide (wy=1)=true) (fun _ => ?_) (fun n1 => ?_))
 ·have e1 : cI (cu.map D.int) none (some (at' + 1))=(cu.map D.int).take (at' + 1).toNat := gB (by omega)
  have e2 : cI (cu.map D.int) (some at') none=(cu.map D.int).drop at'.toNat := gx (by omega)
  have l1 : ((cu.map D.int).take (at' + 1).toNat).length≤23 := by rw [List.length_take, List.length_map]; omega
  have l2 : ((cu.map D.int).drop at'.toNat).length≤23 := by rw [List.length_drop, List.length_map]; omega
  show (cI (cu.map D.int) none (some (at' + 1))).length + (cI (cu.map D.int) (some at') none).length≤1000∧_
  rw [e1, e2]
  refine ⟨by omega, ?_⟩
  refine q0 _ c2 m2 (ca (fun d hd => ?_) (by rw [List.length_append]; omega)) h2
  rcases List.mem_append.mp hd with hd | hd
  ·exact hall d (List.mem_of_mem_take hd)
  ·exact hall d (List.mem_of_mem_drop hd)
 refine (bI (c := decide (wy=2)=true) (fun _ => ?_) (fun n2 => ?_))
 ·refine ⟨by rw [aB]; show 1 + _≤1000; omega, ?_⟩
  refine q0 _ c2 m2 (ca (ds := [.int 0]++cu.map D.int) (fun d hd => ?_) (by rw [List.length_append, List.length_map]; show 1 + _≤100; omega)) h2
  rcases List.mem_append.mp hd with hd | hd
  ·rw [List.mem_singleton.mp hd]; exact dN (by decide)
  ·exact hall d hd
 rw [decide_eq_true_iff] at n0 n1 n2
 refine (bI (c := decide (wy<5)=true) (fun c5 => ?_) (fun n5 => ?_))
 ·have c5' := of_decide_eq_true c5
  obtain ⟨y, hy, yb⟩ : ∃ y : Int, atI [D.int ((ps.length : Int) + 1), D.int (-1)] (wy - 3)=some (.int y)∧y.natAbs≤1000000000000 := by
   have : wy=3∨wy=4 := by omega
   rcases this with rfl | rfl
   ·exact ⟨_, rfl, by omega⟩
   ·exact ⟨_, rfl, by decide⟩
  refine b8 hy ?_
  refine ⟨by rw [aB]; show _ + 1≤1000; omega, ?_⟩
  refine q0 _ c2 m2 (ca (ds := cu.map D.int++[.int y]) (fun d hd => ?_) (by rw [List.length_append, List.length_map]; show _ + 1≤100; omega)) h2
  rcases List.mem_append.mp hd with hd | hd
  ·exact hall d hd
  ·rw [List.mem_singleton.mp hd]; exact dN yb
 have n5' := of_decide_eq_false (Bool.eq_false_iff.mpr n5)
 refine (bI (c := decide (wy<8)=true) (fun c8 => ?_) (fun n8 => ?_))
 ·have c8' := of_decide_eq_true c8
  obtain ⟨y, hy, y1, y2⟩ : ∃ y : D, atI [D.bl true, D.str "1", D.non] (wy - 5)=some y∧Sml 1 100 y∧pln y=true := by
   have : wy=5∨wy=6∨wy=7 := by omega
   rcases this with rfl | rfl | rfl
   ·exact ⟨_, rfl, (qE true).mono (by decide) (by decide), rfl⟩
   ·exact ⟨_, rfl, oy.mono (by decide) (by decide), rfl⟩
   ·exact ⟨_, rfl, ki.mono (by decide) (by decide), rfl⟩
  refine b8 hy ?_
  have e1 : cI (cu.map D.int) none (some at')=(cu.map D.int).take at'.toNat := gB a0
  have e2 : cI (cu.map D.int) (some (at' + 1)) none=(cu.map D.int).drop (at' + 1).toNat := gx (by omega)
  have l1 : ((cu.map D.int).take at'.toNat).length≤23 := by rw [List.length_take, List.length_map]; omega
  have l2 : ((cu.map D.int).drop (at' + 1).toNat).length≤23 := by rw [List.length_drop, List.length_map]; omega
  show (cI (cu.map D.int) none (some at')).length + 1≤1000∧_
  rw [e1]
  refine ⟨by omega, ?_⟩
  show ((cu.map D.int).take at'.toNat++[y]).length + (cI (cu.map D.int) (some (at' + 1)) none).length≤1000∧_
  rw [e2]
  refine ⟨by rw [List.length_append]; show _ + 1 + _≤1000; omega, ?_⟩
  refine q0 _ c2 m2 (ca (fun d hd => ?_) (by rw [List.length_append, List.length_append]; show _ + 1 + _≤100; omega)) h2
  rcases List.mem_append.mp hd with hd | hd
  ·rcases List.mem_append.mp hd with hd | hd
   ·exact hall d (List.mem_of_mem_take hd)
   ·rw [List.mem_singleton.mp hd]; exact ⟨y1, y2⟩
  ·exact hall d (List.mem_of_mem_drop hd)
 have n8' := of_decide_eq_false (Bool.eq_false_iff.mpr n8)
 have hnt : BentOk (.tup (cu.map D.int)) := ⟨by rw [pln]; exact fe fun d hd => (hall d hd).2, fun ds e => (by cases e), (g_ (N := 30) (fun d hd => (hall d hd).1) (by rw [List.length_map]; omega)).mono (by decide) (by decide)⟩
 have hnn : BentOk .non := ⟨rfl, fun ds e => (by cases e), ki.mono (by decide) (by decide)⟩
 obtain ⟨y, hy, yb⟩ : ∃ y : D, atI [D.tup (cu.map D.int), D.non] (wy - 8)=some y∧BentOk y := by
  have : wy=8∨wy=9 := by omega
  rcases this with rfl | rfl
  ·exact ⟨_, rfl, hnt⟩
  ·exact ⟨_, rfl, hnn⟩
 refine b8 hy ?_
 exact q0 _ c2 m2 yb h2
end
end K58
namespace K58
open PySem L2
section
variable {P : Program} {w : World} {K : PySem.W.Frag} {mg : Str→Option Value} {base : Heap} {A : Adr}
def inF (cu : List Int) : D→Option D
 | .int t => if cu.contains t=true then some (.int t) else none
 | _ => none
theorem jU (cu : List Int) : ∀ w : List Int, (w.map D.int).filterMap (inF cu)=(w.filter fun t => cu.contains t).map D.int
 | [] => rfl
 | t :: w => by
  have ih := jU cu w
  rw [List.map_cons, List.filterMap_cons, List.filter_cons]
  have e : inF cu (.int t)=if cu.contains t=true then some (.int t) else none := rfl
  rw [e]
  by_cases h : cu.contains t=true
  ·rw [if_pos h, if_pos h]; simp only [List.map_cons]; rw [ih]
  ·rw [if_neg h, if_neg h]; simp only; rw [ih]
def kE (cu : List Int) : D→Option D
 | .lst ds => if (ds.filterMap (inF cu)).isEmpty=true then some (.lst ds) else none
 | _ => none
theorem iM (cu : List Int) : ∀ ws : List (List Int), ((ws.map ak).filterMap (kE cu)).isEmpty=cC ws cu
 | [] => rfl
 | w :: ws => by
  have ih := iM cu ws
  have e : kE cu (ak w)=if (w.filter fun t => cu.contains t).isEmpty=true then some (ak w) else none := by
   show (if ((w.map D.int).filterMap (inF cu)).isEmpty=true then some (D.lst (w.map D.int)) else none)=_
   rw [jU, List.isEmpty_map]; rfl
  have e2 : (w.filter fun t => cu.contains t).isEmpty = !(w.any fun t => cu.contains t) := by
   cases h : w.any fun t => cu.contains t with
   | true =>
    obtain ⟨t, t1, t2⟩ := List.any_eq_true.mp h
    have : t∈w.filter fun t => cu.contains t := List.mem_filter.mpr ⟨t1, t2⟩
    cases q : w.filter fun t => cu.contains t with
    | nil => rw [q] at this; cases this
    | cons _ _ => rfl
   | false =>
    rw [List.filter_eq_nil_iff.mpr fun t ht z => by
     have := List.any_eq_false.mp h t ht
     exact this z]; rfl
  show ((ak w :: ws.map ak).filterMap (kE cu)).isEmpty=((w.any fun t => cu.contains t)&&cC ws cu)
  rw [List.filterMap_cons, e, e2]
  cases h : w.any fun t => cu.contains t with
  | true => rw [if_neg (by simp), Bool.true_and]; exact ih
  | false => rw [if_pos (by simp), Bool.false_and]; rfl
def rd : SpD := fun ds q => ∃ ps rs as x, ds=[aO ps rs, d7 (br ps as), x]∧Tree ps rs∧AsksOk ps as∧BentOk x∧q (.bl (bZ ps as x)) []
theorem pS (T : Txt K mg A) : FnOk P w K mg base CX0 1 A.f_q31 A.d_q31 ["_law_tree", "_law_ways", "_law_thing"] (a7 [false, false, false] false (rd)) := by
 have S := qW
 refine fnD T.t_q31.F S ⟨[false, false, false], [false, false, false, false, false], false⟩ _ ?hl rfl rfl fun cdv Ar outer s H E hr => ⟨_, (ae (aR (bf (bd (bL rfl T.z_isinstance aE (aa 2) (bt (v := .ty "list") rfl T.z_list cW rfl)))) (af (az bN)) aD)
  (ae (aJ (i := 3) S.nd rfl (Or.inl rfl) ad)
  (ae (cP PassesOwn.never rfl (bu (aa 2)) (aI (i := 4) S.nd rfl (Or.inl rfl)) (ae (aR (QW.qt (fJ (bf (bd (bL rfl T.z_isinstance aE (aa 4) (bt (v := .ty "int") rfl T.z_int mJ rfl)))) (fJ (bd (bL rfl T.z_isinstance aE (aa 4) (bt (v := .ty "bool") rfl T.z_bool gX rfl))) (eE (bf (nL gR ix dB dB (aa 3) (aa 4) (ap aq cn rfl T.z_len aZ (ac (a6 aM dIx (aa 0) ad (fun _ _ => rfl)) ah)))))))) (af (az bN)) aD)
  (af (aJ (i := 3) S.nd rfl (Or.inl rfl) (aa 4)))))
  (af (az (dz (iL hr.units) li (dc ["_law_way_here"] [2] ⟨rfl, rfl, by decide +kernel, rfl, rfl, (by first | exact trivial | exact ⟨rfl, trivial⟩ | exact ⟨rfl, rfl, trivial⟩ | exact ⟨rfl, rfl, rfl, trivial⟩ | exact ⟨rfl, rfl, rfl, rfl, trivial⟩), rfl⟩ rfl (bu (aa 1)) (bQ 0) (fun _ _ _ _ => ⟨(a9 (i := 0) (show List.Nodup (["_law_way_here", "_law_thing"] : List Str) by decide +kernel) rfl (Or.inl rfl)), (dJ (aL (iL hr.units) li (dc ["_law_tie"] [1] ⟨rfl, rfl, by decide +kernel, rfl, rfl, (by first | exact trivial | exact ⟨rfl, trivial⟩ | exact ⟨rfl, rfl, trivial⟩ | exact ⟨rfl, rfl, rfl, trivial⟩ | exact ⟨rfl, rfl, rfl, rfl, trivial⟩), rfl⟩ rfl (bu (aa 0)) (bQ 0) (fun _ _ _ _ => ⟨(a9 (i := 0) (show List.Nodup (["_law_tie", "_law_thing"] : List Str) by decide +kernel) rfl (Or.inl rfl)), (dJ (aL gQ dIn (aa 0) (aa 1) rfl)), (aa 0)⟩)) (a8 ah) (aH _))), (aa 0)⟩)) (a8 ah) (aH _))))))), fun ds q h => ?_⟩
 case hl => intro ds q h; obtain ⟨ps, rs, as, x, rfl, _⟩ := h; rfl
 obtain ⟨ps, rs, as, x, rfl, hT, ha, hx, q0⟩ := h
 have hp := hx.pl
 cases x with
 | lst ds =>
  have hpl : ∀ d∈ds, pln d=true := fun d hd => fu (show plns ds=true by rw [pln] at hp; exact hp) hd
  refine ⟨fun i ρ => ∃ (l : Int) (v : Option D), ρ=[some (aO ps rs), some (d7 (br ps as)), some (.lst ds), some (.int l), v]∧cT ps.length 1 ds=cT ps.length (l + 1) (ds.drop i), ⟨0, _, rfl, rfl⟩, ?_, ?_⟩
  ·rintro i d ρ hd ⟨l, v, rfl, hl⟩
   have hdr : ds.drop i=d :: ds.drop (i + 1) := by
    obtain ⟨h1, h2⟩ := List.getElem?_eq_some_iff.mp hd
    rw [List.drop_eq_getElem_cons h1, h2]
   rw [hdr, dE] at hl
   have hpd := hpl d (List.mem_of_getElem? hd)
   have fin : btw (l + 1) ps.length d=false→q (.bl false) [] := fun e => by
    rw [e, Bool.false_and] at hl
    have e2 : bZ ps as (.lst ds)=false := by
     unfold bZ
     rw [show gk ps.length (.lst ds)=false from hl]; rfl
    rw [e2] at q0; exact q0
   cases d with
   | int z =>
    refine (bI (c := decide (l<z)=true) (fun c1 => ?_) (fun c1 => ?_))
    ·have c1' := of_decide_eq_true c1
     show if (!decide (z≤((ps.map D.int).length : Int)))=true then _ else _
     rw [aB]
     refine (bI (c := (!decide (z≤(ps.length : Int)))=true) (fun c2 => ?_) (fun c2 => ?_))
     ·have c2' : ¬ z≤(ps.length : Int) := by simpa using c2
      refine fin ?_
      show (decide (l + 1≤z)&&decide (z≤(ps.length : Int)))=false
      rw [decide_eq_false c2', Bool.and_false]
     ·have c2' : z≤(ps.length : Int) := by simpa using c2
      rw [cz (by omega) c2', Bool.true_and] at hl
      exact ⟨z, some (.int z), rfl, hl⟩
    ·have c1' := of_decide_eq_false (Bool.eq_false_iff.mpr c1)
     refine fin ?_
     show (decide (l + 1≤z)&&decide (z≤(ps.length : Int)))=false
     rw [decide_eq_false (by omega), Bool.false_and]
   | _ => first | exact fin rfl | (rw [pln] at hpd; cases hpd)
  ·rintro ρ ⟨l, v, rfl, hl⟩
   rw [List.drop_length] at hl
   have hl1 : gk ps.length (.lst ds)=true := hl
   obtain ⟨cu, e, hC⟩ := gy hl1
   cases e
   have e2 : bZ ps as (ak cu)=cC (br ps as) cu := by unfold bZ; rw [show gk ps.length (ak cu)=true from hl1, dD]; rfl
   rw [show (D.lst (cu.map D.int))=ak cu from rfl, e2] at q0
   obtain ⟨w1, w2⟩ := jM hT ha
   generalize br ps as=ws at q0 w1 w2
   refine ⟨by rw [List.length_map]; exact w1, ?_⟩
   refine dH (kE cu) ?_ ?_
   ·intro d hd k hk
    obtain ⟨w, hm, rfl⟩ := List.mem_map.mp hd
    refine ⟨by rw [aB]; exact w2 w hm, ?_⟩
    refine dH (inF cu) ?_ ?_
    ·intro d hd k hk
     obtain ⟨t, ht, rfl⟩ := ce hd
     refine ⟨rfl, cY cu, ?_⟩
     have e : inF cu (.int t)=if cu.contains t=true then some (.int t) else none := rfl
     rw [e] at hk
     have ei : inD (.int t) (cu.map D.int)=cu.contains t := et _ _
     refine (bI (c := inD (.int t) (cu.map D.int)=true) (fun c => ?_) (fun c => ?_))
     ·rw [ei] at c; rw [if_pos c] at hk; exact hk
     ·rw [ei] at c; rw [if_neg c] at hk; exact hk
    have e : kE cu (ak w)=if ((w.map D.int).filterMap (inF cu)).isEmpty=true then some (ak w) else none := rfl
    rw [e] at hk
    refine (bI (c := ((w.map D.int).filterMap (inF cu)).isEmpty=true) (fun c => ?_) (fun c => ?_))
    ·rw [if_pos c] at hk; exact hk
    ·rw [if_neg c] at hk; exact hk
   show q (.bl ((ws.map ak).filterMap (kE cu)).isEmpty) []
   rw [iM]; exact q0
 | _ => first | exact q0 | (rw [pln] at hp; cases hp)
def oJ : SpD := fun ds q => ∃ ps rs as x, ds=[aO ps rs, cj as, d7 (br ps as), x]∧L2.Tree ps rs∧AsksOk ps as∧BentOk x∧q (.bl true) []
theorem rpr3 {ps rs : List Int} {as : List Ask} {x : D} (hT : L2.Tree ps rs) (ha : AsksOk ps as) (hx : BentOk x) : RprOk (.lst [aO ps rs, cj as, x]) := by
 have h := fh (n := 3) (W := 20000) (N := 3) (ds := [aO ps rs, cj as, x]) (fun d hd => by
  rcases List.mem_cons.mp hd with rfl | hd
  ·exact (lM hT).mono (by decide) (by decide)
  ·rcases List.mem_cons.mp hd with rfl | hd
   ·exact (lD hT.hi ha).mono (by decide) (by decide)
   ·rw [List.mem_singleton.mp hd]; exact hx.sm) (Nat.le_refl _)
 exact h.rpr (by decide) (by decide)
theorem lN (T : Txt K mg A) : FnOk P w K mg base CX0 10 A.f_q27 A.d_q27 ["_law_tree", "_law_asks", "_law_ways", "_law_thing"] (a7 [false, false, false, false] false (oJ)) := by
 have S := rk
 refine fnD T.t_q27.F S ⟨[false, false, false, false], [false, false, false, false, false, false], false⟩ _ ?hl rfl rfl fun cdv Ar outer s H E hr => ⟨_, (ae (aJ (i := 4) S.nd rfl (Or.inl rfl) (ap (gM hr.units hr.gd) pD rfl T.z_repr jL (ac (a8 (ac (aa 0) (ac (aa 1) (ac (aa 3) ah)))) ah)))
  (ae (aJ (i := 5) S.nd rfl (Or.inl rfl) (ag (jO T) hr T.t_q8 (am (aa 0) (am (aa 1) (am (aa 3) aj)))))
  (ae (aR (QW.qt (fJ (bf (bd (bL rfl T.z_isinstance aE (aa 5) (bt (v := .ty "bool") rfl T.z_bool gX rfl)))) (eE (aL op_ne dNeS (ap (gM hr.units hr.gd) pD rfl T.z_repr jL (ac (a8 (ac (aa 0) (ac (aa 1) (ac (aa 3) ah)))) ah)) (aa 4) (aH _))))) (af (az bN)) aD)
  (af (az (dz (cq hr.units) dEq (aa 5) (ag (pS T) hr T.t_q31 (am (aa 0) (am (aa 2) (am (aa 3) aj)))) (aH _))))))), fun ds q h => ?_⟩
 case hl => intro ds q h; obtain ⟨ps, rs, as, x, rfl, _⟩ := h; rfl
 obtain ⟨ps, rs, as, x, rfl, hT, ha, hx, q0⟩ := h
 have hR := rpr3 hT ha hx
 refine ⟨rfl, hR, ?_⟩
 refine ⟨ps, rs, as, x, rfl, hT, ha, hx.pl, ?_⟩
 refine ⟨rfl, hR, ?_⟩
 refine (bI (c := (!decide ((toP (.lst [aO ps rs, cj as, x])).shown=(toP (.lst [aO ps rs, cj as, x])).shown))=true) (fun c => ?_) (fun c => ?_))
 ·rw [decide_eq_true rfl] at c; cases c
 refine ⟨ps, rs, as, x, rfl, hT, ha, hx, ?_⟩
 generalize bZ ps as x=b
 cases b
 ·refine ⟨rfl, rfl, ?_⟩
  exact q0
 ·refine ⟨rfl, rfl, ?_⟩
  exact q0
end
end K58
namespace K58
open PySem L2
section
variable {P : Program} {w : World} {K : PySem.W.Frag} {mg : Str→Option Value} {base : Heap} {A : Adr}
theorem mH {ps cu : List Int} (hp : ps.length≤23) (h : CutIn ps cu) : BentOk (ak cu) := ca (ds := cu.map D.int) (fun d hd => by
 obtain ⟨z, hz, rfl⟩ := ce hd
 exact dN (by have := h.lo z hz; omega)) (by rw [List.length_map]; have := h.len; omega)
theorem qz (T : Txt K mg A) : FnOk P w K mg base CX0 11 A.f_law A.d_law ["_law_script"] (a7 [false] false (mw K)) := by
 have S := p0
 refine fnD T.t_law.F S ⟨[false], [false, false, false, false, false, true, false, false, false], false⟩ _ ?hl rfl rfl fun cdv Ar outer s H E hr => ⟨_, (ae (ga (ag (qd T) hr T.t_q22 (am (aa 0) (am ad aj))) (cL rfl (aK (aI (i := 1) S.nd rfl (Or.inr rfl)) (aK (aI (i := 2) S.nd rfl (Or.inl rfl)) b6)) (av (av bn))))
  (ae (dA (i := 3) ["_law_ask_here"] [1] ⟨rfl, rfl, by decide +kernel, rfl, rfl, (by first | exact trivial | exact ⟨rfl, trivial⟩ | exact ⟨rfl, rfl, trivial⟩ | exact ⟨rfl, rfl, rfl, trivial⟩ | exact ⟨rfl, rfl, rfl, rfl, trivial⟩), rfl⟩ rfl S.nd rfl (Or.inl rfl) (bu (aa 2)) (bQ 0) (fun _ _ _ _ => ⟨(a9 (i := 0) (show List.Nodup (["_law_ask_here", "_law_tree"] : List Str) by decide +kernel) rfl (Or.inl rfl)), cp, (QF.qe (aX (qZ T) hr T.t_q32 (am (a6 aM dIx (aa 1) ad (fun _ _ => rfl)) (am (aa 0) aj))))⟩))
  (ae (cP PassesOwn.never rfl (db rfl T.z_range (ac ad (ac (ap (dl rfl) dMax rfl T.z_max gY (ac ad (ac (ap (bV rfl) kH rfl T.z_min eN (ac (ap aq cn rfl T.z_len aZ (ac (aa 0) ah)) (ac ad ah))) ah))) ah))) (aI (i := 4) S.nd rfl (Or.inl rfl)) (ae (dM (i := 5) S.nd rfl (Or.inl rfl) (aX (gZ T) hr T.t_q24 (am (aa 0) (am (aa 4) aj))))
  (ae (aJ (i := 6) S.nd rfl (Or.inl rfl) (QF.qe (aX (qr T) hr T.t_q26 (bJ 5 (am (aa 1) (am (aa 3) aj))))))
  (ae (aR (bf (bd (ag (lN T) hr T.t_q27 (am (aa 1) (am (aa 2) (am (aa 3) (am (aa 6) aj))))))) (af (az bN)) aD)
  (af (aR (bf (bd (ag (lN T) hr T.t_q27 (am (aa 1) (am (aa 2) (am (aa 3) (am (ag (qH T) hr T.t_q21 (bJ 5 (am (aa 6) (am (ap aq cn rfl T.z_len aZ (ac (a6 aM dIx (aa 1) ad (fun _ _ => rfl)) ah)) aj)))) aj))))))) (af (az bN)) aD))))))
  (ae (aJ (i := 7) S.nd rfl (Or.inl rfl) (QF.qe (nQ rfl rfl T.z_list cW rfl T.z_range mQ (ac ad (ac (ax aW dI (ap aq cn rfl T.z_len aZ (ac (a6 aM dIx (aa 1) ad (fun _ _ => rfl)) ah)) ad) ah)))))
  (ae (cP PassesOwn.never rfl (bu (a8 (ac jr (ac (fF ah) (ac lT (ac (a8 (ac ad ah)) ah)))))) (aI (i := 8) S.nd rfl (Or.inl rfl)) (af (aR (aL kS dIsNB (ag (jO T) hr T.t_q8 (am (aa 1) (am (a8 ah) (am (aa 8) aj)))) bN (aH _)) (af (az bN)) aD)))
  (af (az (cB (dz mU dIsB (ag (jO T) hr T.t_q8 (am (aa 1) (am (aa 2) (am (aa 7) aj)))) bN (aH _)) (dG (dz mU dIsB (ag (jO T) hr T.t_q8 (am (aa 1) (am (a8 ah) (am (a8 ah) aj)))) bN (aH _))))))))))), fun ds q h => ?_⟩
 case hl => intro ds q h; obtain ⟨φ, ns, rfl, _⟩ := h; rfl
 obtain ⟨φ, ns, rfl, hφ, hl, q0⟩ := h
 refine ⟨φ, ns, rfl, hφ, hl, fun ps rs as hT ha => ?_⟩
 have hal := ha.len
 have hti := hT.hi
 refine ⟨by rw [fM]; omega, ?_⟩
 refine dj (wayF ps) ?_ ?_
 ·intro d hd k hk
  obtain ⟨a, hm, rfl⟩ := List.mem_map.mp hd
  have he := (ha.ok a hm).ends
  exact ⟨ps, rs, a.one, a.other, _, rfl, hT, he.a0, he.a1, he.b0, he.b1, hk⟩
 rw [iY]
 refine ⟨hφ, ?_⟩
 refine ⟨⟨by decide, by decide, by split <;> split <;> omega, by split <;> split <;> omega⟩, ?_⟩
 refine ⟨fun i ρ => ∃ v4 v5 v6, ρ=[some (.scr φ ns), some (aO ps rs), some (cj as), some (d7 (br ps as)), v4, v5, v6, none, none], ⟨_, _, _, rfl⟩, ?_, ?_⟩
 ·rintro i d ρ hd ⟨v4, v5, v6, rfl⟩
  obtain ⟨hi, rfl⟩ := eh hd
  have hi2 : i<30 := by revert hi; split <;> split <;> omega
  refine ⟨φ, ns, 32 + (i : Int), rfl, hφ, by omega, by omega, fun c m h0 => ?_⟩
  refine ⟨c, m, ps, rs, as, rfl, h0, hT, ha, fun cu c1 m1 hC h1 => ?_⟩
  refine ⟨ps, rs, as, ak cu, rfl, hT, ha, mH hti hC, ?_⟩
  refine ⟨c1, m1, ps, cu, by rw [aB], h1, hti, hC, fun x c2 m2 hx h2 => ?_⟩
  refine ⟨ps, rs, as, x, rfl, hT, ha, hx, ?_⟩
  exact ⟨_, _, _, rfl⟩
 ·rintro ρ ⟨v4, v5, v6, rfl⟩
  have hA0 : AsksOk ps [] := ⟨by decide, fun a h => by cases h⟩
  refine ⟨⟨by decide, by rw [aB]; omega, by rw [aB]; omega⟩, ?_⟩
  have er : e9 1 ((((ps.map D.int).length : Int) + 1) - 1).toNat=((List.range ps.length).map fun (j : Nat) => 1 + (j : Int)).map D.int := by
   rw [aB, show ((ps.length : Int) + 1 - 1).toNat=ps.length by omega]
   unfold e9
   rw [List.map_map]; rfl
  rw [er]
  refine ⟨fun i ρ => ∃ v8, ρ=[some (.scr φ ns), some (aO ps rs), some (cj as), some (d7 (br ps as)), v4, v5, v6, some (ak ((List.range ps.length).map fun (j : Nat) => 1 + (j : Int))), v8], ⟨_, rfl⟩, ?_, ?_⟩
  ·rintro i d ρ hd ⟨v8, rfl⟩
   have hm := List.mem_of_getElem? hd
   have hd2 : pln d=true∧bZ ps [] d=false := by
    simp only [List.mem_cons, List.not_mem_nil, or_false] at hm
    rcases hm with rfl | rfl | rfl | rfl
    ·exact ⟨rfl, rfl⟩
    ·exact ⟨rfl, rfl⟩
    ·exact ⟨rfl, rfl⟩
    ·exact ⟨rfl, rfl⟩
   refine ⟨ps, rs, [], d, rfl, hT, hA0, hd2.1, ?_⟩
   rw [hd2.2]
   exact ⟨_, rfl⟩
  ·rintro ρ ⟨v8, rfl⟩
   have hC : CutIn ps ((List.range ps.length).map fun (j : Nat) => 1 + (j : Int)) := ⟨List.pairwise_map.mpr (List.pairwise_lt_range.imp fun h => by omega), fun t ht => by
    obtain ⟨j, hj, rfl⟩ := List.mem_map.mp ht
    have := List.mem_range.mp hj
    omega⟩
   have hB : bZ ps as (ak ((List.range ps.length).map fun (j : Nat) => 1 + (j : Int)))=true := by
    unfold bZ
    rw [hC.b, dD, Bool.true_and]
    refine jB.mpr fun w hw => ?_
    obtain ⟨a, hm, rfl⟩ := List.mem_map.mp hw
    have he := (ha.ok a hm).ends
    have hp : 0<(bD ps a).length := jX hT he
    refine ⟨(bD ps a)[0], List.getElem_mem hp, ?_⟩
    have := ka hT he (List.getElem_mem hp)
    exact List.mem_map.mpr ⟨((bD ps a)[0] - 1).toNat, List.mem_range.mpr (by omega), by omega⟩
   refine ⟨ps, rs, as, _, rfl, hT, ha, kA _, ?_⟩
   rw [hB]
   refine ⟨ps, rs, [], .lst [], rfl, hT, hA0, rfl, ?_⟩
   rw [show bZ ps [] (.lst [])=true from rfl]
   exact q0
end
end K58
namespace K58
open PySem L2
theorem gq {us : List Value} {n : Nat} (h : us.length=n + 1) : ∃ a r, us=a :: r∧r.length=n := by
 cases us with
 | nil => cases h
 | cons a r => exact ⟨a, r, rfl, Nat.succ.inj h⟩
theorem us1 {fd : FuncData} {ps : List Str} (h : ∀ a0, bindArgs fd ⟨[a0], []⟩=pure (ps.zip [a0])) : ∀ us : List Value, us.length=1→bindArgs fd ⟨us, []⟩=pure (ps.zip us) := fun us hl => by
 obtain ⟨a0, u0, rfl, h0⟩ := gq hl
 cases List.eq_nil_of_length_eq_zero h0
 exact h a0
theorem us2 {fd : FuncData} {ps : List Str} (h : ∀ a0 a1, bindArgs fd ⟨[a0, a1], []⟩=pure (ps.zip [a0, a1])) : ∀ us : List Value, us.length=2→bindArgs fd ⟨us, []⟩=pure (ps.zip us) := fun us hl => by
 obtain ⟨a0, u0, rfl, h0⟩ := gq hl
 obtain ⟨a1, u1, rfl, h1⟩ := gq h0
 cases List.eq_nil_of_length_eq_zero h1
 exact h a0 a1
theorem us3 {fd : FuncData} {ps : List Str} (h : ∀ a0 a1 a2, bindArgs fd ⟨[a0, a1, a2], []⟩=pure (ps.zip [a0, a1, a2])) : ∀ us : List Value, us.length=3→bindArgs fd ⟨us, []⟩=pure (ps.zip us) := fun us hl => by
 obtain ⟨a0, u0, rfl, h0⟩ := gq hl
 obtain ⟨a1, u1, rfl, h1⟩ := gq h0
 obtain ⟨a2, u2, rfl, h2⟩ := gq h1
 cases List.eq_nil_of_length_eq_zero h2
 exact h a0 a1 a2
theorem us4 {fd : FuncData} {ps : List Str} (h : ∀ a0 a1 a2 a3, bindArgs fd ⟨[a0, a1, a2, a3], []⟩=pure (ps.zip [a0, a1, a2, a3])) : ∀ us : List Value, us.length=4→bindArgs fd ⟨us, []⟩=pure (ps.zip us) := fun us hl => by
 obtain ⟨a0, u0, rfl, h0⟩ := gq hl
 obtain ⟨a1, u1, rfl, h1⟩ := gq h0
 obtain ⟨a2, u2, rfl, h2⟩ := gq h1
 obtain ⟨a3, u3, rfl, h3⟩ := gq h2
 cases List.eq_nil_of_length_eq_zero h3
 exact h a0 a1 a2 a3
theorem all_mk {l : PySem.W.OpenLaw} {w : World} {K : PySem.W.Frag} {h : Heap} {mg : Str→Option Value} {fa : Addr} (X : K.In h) (G : h.Ns mainGlobals mg) (hfa : mg "law" = some (.ref fa))
 {f_q12 : Addr} {d_q12 : FuncData} (h_q12 : FH K "is_whole" lw f_q12 d_q12)
 {f_q5 : Addr} {d_q5 : FuncData} (h_q5 : FH K "is_between" s_q5 f_q5 d_q5)
 {f_q0 : Addr} {d_q0 : FuncData} (h_q0 : FH K "has_two_lists" s_q0 f_q0 d_q0)
 {f_q3 : Addr} {d_q3 : FuncData} (h_q3 : FH K "look_at_tree" s_q3 f_q3 d_q3)
 {f_q11 : Addr} {d_q11 : FuncData} (h_q11 : FH K "is_place" l_ f_q11 d_q11)
 {f_q10 : Addr} {d_q10 : FuncData} (h_q10 : FH K "are_ends" ll f_q10 d_q10)
 {f_q19 : Addr} {d_q19 : FuncData} (h_q19 : FH K "is_ask" lH f_q19 d_q19)
 {f_q1 : Addr} {d_q1 : FuncData} (h_q1 : FH K "look_at_asks" s_q1 f_q1 d_q1)
 {f_q2 : Addr} {d_q2 : FuncData} (h_q2 : FH K "look_at_ends" s_q2 f_q2 d_q2)
 {f_q29 : Addr} {d_q29 : FuncData} (h_q29 : FH K "climb" l5 f_q29 d_q29)
 {f_q4 : Addr} {d_q4 : FuncData} (h_q4 : FH K "way_between" s_q4 f_q4 d_q4)
 {f_q28 : Addr} {d_q28 : FuncData} (h_q28 : FH K "way_of" l4 f_q28 d_q28)
 {f_q16 : Addr} {d_q16 : FuncData} (h_q16 : FH K "ways_of" lY f_q16 d_q16)
 {f_q20 : Addr} {d_q20 : FuncData} (h_q20 : FH K "is_cut" lP f_q20 d_q20)
 {f_q6 : Addr} {d_q6 : FuncData} (h_q6 : FH K "parts_ways" s_q6 f_q6 d_q6)
 {f_q8 : Addr} {d_q8 : FuncData} (h_q8 : FH K "parts_all" s_q8 f_q8 d_q8)
 {f_q24 : Addr} {d_q24 : FuncData} (h_q24 : FH K "_law_pool" lU f_q24 d_q24)
 {f_q25 : Addr} {d_q25 : FuncData} (h_q25 : FH K "_law_take" mF f_q25 d_q25)
 {f_q13 : Addr} {d_q13 : FuncData} (h_q13 : FH K "_law_number" mP f_q13 d_q13)
 {f_q7 : Addr} {d_q7 : FuncData} (h_q7 : FH K "_law_parents" s_q7 f_q7 d_q7)
 {f_q15 : Addr} {d_q15 : FuncData} (h_q15 : FH K "_law_rooms" ng f_q15 d_q15)
 {f_q23 : Addr} {d_q23 : FuncData} (h_q23 : FH K "_law_ends" lZ f_q23 d_q23)
 {f_q33 : Addr} {d_q33 : FuncData} (h_q33 : FH K "_law_up" nA f_q33 d_q33)
 {f_q32 : Addr} {d_q32 : FuncData} (h_q32 : FH K "_law_way" lF f_q32 d_q32)
 {f_q30 : Addr} {d_q30 : FuncData} (h_q30 : FH K "_law_ask" mY f_q30 d_q30)
 {f_q22 : Addr} {d_q22 : FuncData} (h_q22 : FH K "_law_case" mD f_q22 d_q22)
 {f_q26 : Addr} {d_q26 : FuncData} (h_q26 : FH K "_law_ties" lB f_q26 d_q26)
 {f_q21 : Addr} {d_q21 : FuncData} (h_q21 : FH K "_law_bent" nN f_q21 d_q21)
 {f_q31 : Addr} {d_q31 : FuncData} (h_q31 : FH K "_law_due" mj f_q31 d_q31)
 {f_q27 : Addr} {d_q27 : FuncData} (h_q27 : FH K "_law_told" l8 f_q27 d_q27)
 {f_law : Addr} {d_law : FuncData} (h_law : FH K "law" mZ f_law d_law)
 {t_MOST_TIES : Tok} (c_MOST_TIES : PySem.W.nsIn K mainGlobals "MOST_TIES" = some (some (.int 23 t_MOST_TIES)))
 {t_MOST_ROOM : Tok} (c_MOST_ROOM : PySem.W.nsIn K mainGlobals "MOST_ROOM" = some (some (.int 1000000 t_MOST_ROOM)))
 {t_MOST_ASKS : Tok} (c_MOST_ASKS : PySem.W.nsIn K mainGlobals "MOST_ASKS" = some (some (.int 30 t_MOST_ASKS)))
 {t_MOST_SIZE : Tok} (c_MOST_SIZE : PySem.W.nsIn K mainGlobals "MOST_SIZE" = some (some (.int 1000000 t_MOST_SIZE)))
 {t_MOST_WORTH : Tok} (c_MOST_WORTH : PySem.W.nsIn K mainGlobals "MOST_WORTH" = some (some (.int 1000000000000 t_MOST_WORTH)))
 (z_all : PySem.W.nsIn K mainGlobals "all" = some none)
 (z_any : PySem.W.nsIn K mainGlobals "any" = some none)
 (z_bool : PySem.W.nsIn K mainGlobals "bool" = some none)
 (z_enumerate : PySem.W.nsIn K mainGlobals "enumerate" = some none)
 (z_int : PySem.W.nsIn K mainGlobals "int" = some none)
 (z_isinstance : PySem.W.nsIn K mainGlobals "isinstance" = some none)
 (z_len : PySem.W.nsIn K mainGlobals "len" = some none)
 (z_list : PySem.W.nsIn K mainGlobals "list" = some none)
 (z_max : PySem.W.nsIn K mainGlobals "max" = some none)
 (z_min : PySem.W.nsIn K mainGlobals "min" = some none)
 (z_range : PySem.W.nsIn K mainGlobals "range" = some none)
 (z_repr : PySem.W.nsIn K mainGlobals "repr" = some none)
 (z_set : PySem.W.nsIn K mainGlobals "set" = some none)
 (z_sorted : PySem.W.nsIn K mainGlobals "sorted" = some none)
 (z_tuple : PySem.W.nsIn K mainGlobals "tuple" = some none)
 : ∃ fd : FuncData, (∀ (s : Shared) (v : Value), BindsTo s fd ⟨[v], []⟩ [("_law_script", v)])∧∀ base : Heap, K.In base→base.Ns mainGlobals mg→FnOk l.prog w K mg base CX0 11 fa fd ["_law_script"] (jK K) := by
 have e := hfa.symm.trans (PySem.W.mg_of X G h_law.a)
 cases e
 have T : Txt K mg ⟨f_q12, _, f_q5, _, f_q0, _, f_q3, _, f_q11, _, f_q10, _, f_q19, _, f_q1, _, f_q2, _, f_q29, _, f_q4, _, f_q28, _, f_q16, _, f_q20, _, f_q6, _, f_q8, _, f_q24, _, f_q25, _, f_q13, _, f_q7, _, f_q15, _, f_q23, _, f_q33, _, f_q32, _, f_q30, _, f_q22, _, f_q26, _, f_q21, _, f_q31, _, f_q27, _, fa, _⟩ := ⟨h_q12.ft X G fun _ _ _ _ _ _ => us1 fun _ => rfl, h_q5.ft X G fun _ _ _ _ _ _ => us3 fun _ _ _ => rfl, h_q0.ft X G fun _ _ _ _ _ _ => us1 fun _ => rfl, h_q3.ft X G fun _ _ _ _ _ _ => us1 fun _ => rfl, h_q11.ft X G fun _ _ _ _ _ _ => us2 fun _ _ => rfl, h_q10.ft X G fun _ _ _ _ _ _ => us3 fun _ _ _ => rfl, h_q19.ft X G fun _ _ _ _ _ _ => us2 fun _ _ => rfl, h_q1.ft X G fun _ _ _ _ _ _ => us2 fun _ _ => rfl, h_q2.ft X G fun _ _ _ _ _ _ => us3 fun _ _ _ => rfl, h_q29.ft X G fun _ _ _ _ _ _ => us3 fun _ _ _ => rfl, h_q4.ft X G fun _ _ _ _ _ _ => us3 fun _ _ _ => rfl, h_q28.ft X G fun _ _ _ _ _ _ => us2 fun _ _ => rfl, h_q16.ft X G fun _ _ _ _ _ _ => us2 fun _ _ => rfl, h_q20.ft X G fun _ _ _ _ _ _ => us2 fun _ _ => rfl, h_q6.ft X G fun _ _ _ _ _ _ => us2 fun _ _ => rfl, h_q8.ft X G fun _ _ _ _ _ _ => us3 fun _ _ _ => rfl, h_q24.ft X G fun _ _ _ _ _ _ => us2 fun _ _ => rfl, h_q25.ft X G fun _ _ _ _ _ _ => us2 fun _ _ => rfl, h_q13.ft X G fun _ _ _ _ _ _ => us2 fun _ _ => rfl, h_q7.ft X G fun _ _ _ _ _ _ => us2 fun _ _ => rfl, h_q15.ft X G fun _ _ _ _ _ _ => us3 fun _ _ _ => rfl, h_q23.ft X G fun _ _ _ _ _ _ => us2 fun _ _ => rfl, h_q33.ft X G fun _ _ _ _ _ _ => us2 fun _ _ => rfl, h_q32.ft X G fun _ _ _ _ _ _ => us2 fun _ _ => rfl, h_q30.ft X G fun _ _ _ _ _ _ => us2 fun _ _ => rfl, h_q22.ft X G fun _ _ _ _ _ _ => us2 fun _ _ => rfl, h_q26.ft X G fun _ _ _ _ _ _ => us3 fun _ _ _ => rfl, h_q21.ft X G fun _ _ _ _ _ _ => us3 fun _ _ _ => rfl, h_q31.ft X G fun _ _ _ _ _ _ => us3 fun _ _ _ => rfl, h_q27.ft X G fun _ _ _ _ _ _ => us4 fun _ _ _ _ => rfl, h_law.ft X G fun _ _ _ _ _ _ => us1 fun _ => rfl, PySem.W.mg_none_of X G z_all, PySem.W.mg_none_of X G z_any, PySem.W.mg_none_of X G z_bool, PySem.W.mg_none_of X G z_enumerate, PySem.W.mg_none_of X G z_int, PySem.W.mg_none_of X G z_isinstance, PySem.W.mg_none_of X G z_len, PySem.W.mg_none_of X G z_list, PySem.W.mg_none_of X G z_max, PySem.W.mg_none_of X G z_min, PySem.W.mg_none_of X G z_range, PySem.W.mg_none_of X G z_repr, PySem.W.mg_none_of X G z_set, PySem.W.mg_none_of X G z_sorted, PySem.W.mg_none_of X G z_tuple, ⟨_, PySem.W.mg_of X G c_MOST_TIES⟩, ⟨_, PySem.W.mg_of X G c_MOST_ROOM⟩, ⟨_, PySem.W.mg_of X G c_MOST_ASKS⟩, ⟨_, PySem.W.mg_of X G c_MOST_SIZE⟩, ⟨_, PySem.W.mg_of X G c_MOST_WORTH⟩⟩
 obtain ⟨_, _, _, _, _, _, _, _, _, rfl, _, _⟩ := h_law.F.ex
 exact ⟨_, fun s v => .of_eq rfl, fun base _ _ => (qz T).imp fun _ _ _ _ h => lO h⟩
theorem walk {l : PySem.W.OpenLaw} {q : Program} {loose : List Str} {XP : (Str→Option Value)→Heap→Prop} {YP : World→Heap→Prop} {d : DefRec} {K : Params→PySem.W.Frag} (hn : l.most=some 63) (hdf : d.params.defaults=[])
 (hY : ∀ (w : World) (h : Heap), YP w h→(K w.params).In h)
 (F : ∀ (w : World) (mg : Str→Option Value) (fa : Addr) (h : Heap), (K w.params).In h→h.Ns mainGlobals mg→mg d.name=some (.ref fa) →
  ∃ fd : FuncData, (∀ (s : Shared) (u : Value), BindsTo s fd ⟨[u], []⟩ [("_law_script", u)])∧∀ base : Heap, (K w.params).In base→base.Ns mainGlobals mg→FnOk l.prog w (K w.params) mg base CX0 11 fa fd ["_law_script"] (jK (K w.params))) :
 PySem.W.WalkO q loose XP YP l.row.toRowW d [] (fun f vs => PySem.call f vs) :=
 L2.oA (n := 63) (k := 11) (x := "_law_script") (CX := fun _ => CX0) (sp := fun w => jK (K w.params)) hn (by decide) hdf ⟨rfl, by decide, by decide, rfl⟩ hY F (fun _ _ a ns hl hO hS => ⟨a, ns, rfl, hO, hS, hl, fun _ => rfl⟩) fun _ _ _ _ _ z => z
end K58
open PySem PySem.W PyProof.Rows
set_option maxRecDepth 100000 in
theorem PySem.Challenge.cw_treeasks_k58_cuts_that_part_holds : PySem.Challenge.rw_treeasks_k58_cuts_that_part.Holds := by
 w_on; o_law; k_head; (case hw => w_witness2)
 k_fill
 refine K58.walk (l := PySem.Challenge.rw_treeasks_k58_cuts_that_part) rfl rfl (fun w h Y => PySem.W.kIn_of Y) ?F
 case F =>
  intro w mg fa h KX G hmg
  refine' K58.all_mk KX G hmg (L2.aQ ?_ ?_ ?_ ?_) (L2.aQ ?_ ?_ ?_ ?_) (L2.aQ ?_ ?_ ?_ ?_) (L2.aQ ?_ ?_ ?_ ?_) (L2.aQ ?_ ?_ ?_ ?_) (L2.aQ ?_ ?_ ?_ ?_) (L2.aQ ?_ ?_ ?_ ?_) (L2.aQ ?_ ?_ ?_ ?_) (L2.aQ ?_ ?_ ?_ ?_) (L2.aQ ?_ ?_ ?_ ?_) (L2.aQ ?_ ?_ ?_ ?_) (L2.aQ ?_ ?_ ?_ ?_) (L2.aQ ?_ ?_ ?_ ?_) (L2.aQ ?_ ?_ ?_ ?_) (L2.aQ ?_ ?_ ?_ ?_) (L2.aQ ?_ ?_ ?_ ?_) (L2.aQ ?_ ?_ ?_ ?_) (L2.aQ ?_ ?_ ?_ ?_) (L2.aQ ?_ ?_ ?_ ?_) (L2.aQ ?_ ?_ ?_ ?_) (L2.aQ ?_ ?_ ?_ ?_) (L2.aQ ?_ ?_ ?_ ?_) (L2.aQ ?_ ?_ ?_ ?_) (L2.aQ ?_ ?_ ?_ ?_) (L2.aQ ?_ ?_ ?_ ?_) (L2.aQ ?_ ?_ ?_ ?_) (L2.aQ ?_ ?_ ?_ ?_) (L2.aQ ?_ ?_ ?_ ?_) (L2.aQ ?_ ?_ ?_ ?_) (L2.aQ ?_ ?_ ?_ ?_) (L2.aQ ?_ ?_ ?_ ?_) ?_ ?_ ?_ ?_ ?_ ?_ ?_ ?_ ?_ ?_ ?_ ?_ ?_ ?_ ?_ ?_ ?_ ?_ ?_ ?_
  all_goals try k_is
  all_goals first | rfl | (rw [← Array.all_toList]; rfl)
end
